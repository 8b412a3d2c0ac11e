import Derived.Test.YtmhbpelbkeclpaaGreatDoorLists
import Derived.Lib.SliceRun
namespace Go.Proofs.YtmhbpelbkeclpaaGreatDoor
open Go.RowKit Go.Sort Go.Shelf Go.Lib

set_option maxHeartbeats 1000000 in
theorem indexNil_any (fv : Value) (w : World) :
    Calls Tryz.prog 58 #[.slice none 0 0, fv] w fun e w' => e = .returned (.int .i64 (-1)) ∧ w' = w := by
  go_enter Tryz.func58, Tryz.ntmps58
  go_wp2
  refine wp_loop_rounds 1 ?_
  rw [rounds_succ]
  go_wp2
  go_ret
  exact ⟨rfl, rfl⟩

set_option maxHeartbeats 1000000 in
theorem containsNil_any (fv : Value) (w : World) :
    Calls Tryz.prog 30 #[.slice none 0 0, fv] w fun e w' => e = .returned (.bool false) ∧ w' = w := by
  have H := fun fv W => indexNil_any fv W
  go_enter Tryz.func30, Tryz.ntmps30
  go_wp2_with (go_at_call 58; refine (H _ _).mono ?_; rintro e w1 ⟨rfl, rfl⟩)
  go_ret
  exact ⟨rfl, rfl⟩

/-- Open. -/
def topen (ts : List T3) (t : T3) : Bool := ts.any fun u => le3 u t

set_option maxHeartbeats 1000000 in
theorem Open_any (v : Value) (ts : List T3) (a b c : Int) (w : World) (hv : Lst w v ts) (hlen : ts.length ≤ maxLen) :
    Calls Tryz.prog 9 #[v, .agg #[.int .u64 a, .int .u64 b, .int .u64 c]] w fun e w' => e = .returned (.bool (topen ts (a, b, c))) ∧ Below w.heap.size w w' := by
  unfold maxLen at hlen
  rcases hv with ⟨rfl, rfl⟩ | ⟨bk, off, cap, rfl, hb, ht⟩
  · have H := fun fv W => containsNil_any fv W
    have hr : topen [] (a, b, c) = false := rfl
    rw [hr]; clear hr
    go_enter Tryz.func9, Tryz.ntmps9
    go_wp2_with (go_at_call 30; refine (H _ _).mono ?_; rintro e w1 ⟨rfl, rfl⟩)
    go_ret
    exact ⟨rfl, (Below.refl _ w).alloc (Nat.le_refl _) _⟩
  · have eg : ∀ args w, (callFunc 31 args).run Tryz.prog w = .ok (.enter 31 args) w := enters_of Tryz.func31 (by kernel_rfl) rfl
    have hcon := AnyQ.slices_ContainsFunc Tryz.lContains 3 Tryz.isAgg25 Tryz.sizeOf25 encT (fun _ => rfl) (fun x => le3 x (a, b, c)) 31 #[.pointer (some ⟨w.heap.size, 0, none⟩)] eg bk off ts.length cap ts (w.alloc (.cells #[.int .u64 a, .int .u64 b, .int .u64 c] 25))
      (openFn_any (a, b, c) w.heap.size _ (by simp) (by simp) (by simp) (by simp)) (Nat.le_refl _) (by omega) (by simp; omega) (fun j hj i u hi => by
        refine Lib.cell?_alloc_some _ ?_
        have hg : ts[j]? = some ts[j]! := by rw [List.getElem?_eq_getElem hj, getElem!_pos ts j hj]
        have hi3 : i < 3 := by have := (List.getElem?_eq_some_iff.1 hi).1; simpa [encT] using this
        have := ht (j * 3 + i) u (by rw [flat_get ts j i _ hg hi3]; exact hi)
        rw [Nat.add_assoc]; exact this)
    change Calls Tryz.prog 30 _ _ _ at hcon
    rw [List.take_length] at hcon
    have hr : topen ts (a, b, c) = ts.any fun x => le3 x (a, b, c) := rfl
    rw [hr]; clear hr ht
    generalize (ts.any fun x => le3 x (a, b, c)) = r at hcon ⊢
    generalize ts.length = n at *
    go_enter Tryz.func9, Tryz.ntmps9
    go_wp2_with (go_at_call 30; refine hcon.mono ?_; rintro e w1 ⟨rfl, hb1⟩)
    go_ret
    exact ⟨rfl, ((Below.refl _ w).alloc (Nat.le_refl _) _).trans (hb1.mono (by simp))⟩
end Go.Proofs.YtmhbpelbkeclpaaGreatDoor
