import Derived.Test.YtifjjnnpoleinaaJ2
import Derived.Test.YtifjjnnpoleinaaGNil2
import Derived.Test.YtifjjnnpoleinaaJ1
namespace Go.Proofs.Ytifjjnnpoleinaa.Df
open Go.RowKit Go.Sort Go.Shelf
attribute [local go_sem ↓] Go.wp_at_zero Go.wp_at_succ
attribute [local go_sem] Oper.semAt_some

theorem rniledges_in {n : Nat} (k : Int) (w : World) : CallsIn Fence.wide n Try.prog 10 #[.pointer none, .int .i64 k] w fun e w' => e = .returned (.func (.func 28) #[] #[.pointer (some ⟨w.heap.size + 1, 0, none⟩), .pointer (some ⟨w.heap.size, 0, none⟩)]) ∧ w' = (w.alloc (.cells #[.pointer none] 34)).alloc (.cells #[.int .i64 k] 3) := by
  refine callsIn_wide.2 ?_
  go_enter Try.func10, Try.ntmps10
  go_wp2_with fail
  go_ret
  exact ⟨by simp, rfl⟩
theorem nilisin_any (w : World) : Calls Try.prog 25 #[.pointer none, .int .i64 0] w fun r w' => r = .returned (.bool false) ∧ w' = w := by
  have ho := nilOf_any w
  go_enter Try.func25, Try.ntmps25
  go_wp2_with fail
  refine ho.mono ?_
  rintro r w1 ⟨rfl, rfl⟩
  go_wp2_with fail
  go_ret
  exact ⟨rfl, rfl⟩
attribute [local go_sem] fld2R
set_option maxRecDepth 100000 in
set_option maxHeartbeats 4000000 in
theorem nilsend_any (w : World) : Calls Try.prog 9 #[.pointer none, .int .i64 0, .agg #[.int .u64 0, .int .u64 0, .int .u64 0], .agg #[.int .u64 0, .int .u64 0], .int .i64 0, .int .i64 1] w fun r w' => r = .returned (.slice none 0 0) ∧ Below w.heap.size w w' := by
  have hcb := fun W => canbe_any 1 W
  rw [decide_eq_true (by decide)] at hcb
  refine (callsIn_wide (n := 4)).1 ?_
  refine callsIn_of_wp_marks Try.func9 rfl trivial ?_ rfl
  refine wpIn_wide.2 ?_
  simp only [Try.ntmps9, List.size_toArray, List.length_cons, List.length_nil, Nat.reduceAdd, Nat.reduceSub, Array.replicate_succ, Array.replicate_zero, List.push_toArray, List.append_toArray, List.nil_append, List.cons_append]
  go_wp2_with fail
  refine (hcb _).mono ?_
  rintro r w0 ⟨rfl, hw0⟩
  subst hw0
  go_wp2_with fail
  refine (nilisin_any _).mono ?_
  rintro r w1 ⟨rfl, hw1⟩
  subst hw1
  go_wp2_with fail
  refine (nilRaw_any _).mono ?_
  rintro r w2 ⟨rfl, b2⟩
  have B2 : Hid (Below w.heap.size w w2) := ((((((Gr.refl w).alloc _).alloc _).alloc _).alloc _).alloc _).below.trans (b2.mono (by simp; omega))
  have c0 : w2.cell? ⟨w.heap.size, 0, none⟩ = some (.pointer none) := by
    rw [b2.cell (p := ⟨w.heap.size, 0, none⟩) (by simp; omega)]
    go_simp
  have l0 : w.heap.size < w2.heap.size := by have := b2.size; simp at this; omega
  clear b2
  have hed := fun W : World => (callsIn_wide (n := 0)).1 (rniledges_in (n := 0) 0 W)
  unfold gvc
  go_wp2_with fail
  refine (hed _).mono ?_
  rintro r w3 ⟨rfl, hw3⟩
  rw [World.size_alloc, World.size_alloc]
  have F : Hid (Below w.heap.size w w3 ∧ Boxed w3 (w2.heap.size + 1) 40 (.slice none 0 0) ∧ Boxed w3 (w2.heap.size + 1 + 1) 34 (.pointer none) ∧ Boxed w3 (w2.heap.size + 1 + 1 + 1) 3 (.int .i64 0) ∧ w3.heap.size = w2.heap.size + 4 ∧ w.heap.size ≤ w2.heap.size) := by
    have b2 := Boxed.new (w2.alloc (.cells #[.slice none 0 0] 23)) 40 (.slice none 0 0)
    have b3 := Boxed.new ((w2.alloc (.cells #[.slice none 0 0] 23)).alloc (.cells #[.slice none 0 0] 40)) 34 (.pointer none)
    have b4 := Boxed.new (((w2.alloc (.cells #[.slice none 0 0] 23)).alloc (.cells #[.slice none 0 0] 40)).alloc (.cells #[.pointer none] 34)) 3 (.int .i64 0)
    rw [World.size_alloc] at b2
    rw [World.size_alloc, World.size_alloc] at b3
    rw [World.size_alloc, World.size_alloc, World.size_alloc] at b4
    rw [hw3]
    exact ⟨B2.out.trans ((((((Gr.refl w2).alloc _).alloc _).alloc _).alloc _).below.mono B2.out.size), (b2.alloc _).alloc _, b3.alloc _, b4, by simp, B2.out.size⟩
  clear hw3 hed c0 l0 B2
  have hst := niledges_stops 3 (by decide) (w2.heap.size + 1 + 1 + 1) (w2.heap.size + 1 + 1) w.heap.size w3 F.out.2.2.2.1.cell F.out.2.2.1.cell F.out.2.2.2.1.lt F.out.2.2.1.lt
  go_wp2_with fail
  refine wpIn_wide (n := 4) |>.1 ?_
  refine wpIn_rangeFunc_ownG rfl (by decide) (gf := 28) (lb := #[.pointer (some ⟨w2.heap.size + 1 + 1 + 1, 0, none⟩), .pointer (some ⟨w2.heap.size + 1 + 1, 0, none⟩)]) rfl trivial (enters_of Try.func28 (by kernel_rfl) rfl)
    hst belowK_t (belowK_b (by have h1 := F.out.2.2.2.2; omega)) (Below.refl _ _) (fun _ => rfl)
    (fun (_ : List Int) (W : World) => Boxed W (w2.heap.size + 1) 40 (.slice none 0 0) ∧ Below w.heap.size w W)
    (fun _ _ _ => False)
    (OwnFrom.and (Own.from (boxed_own (w2.heap.size + 1) 40 (fun _ => .slice none 0 0)) _) (ownFrom_below (by omega) (by have h1 := F.out.2.2.2.2; omega)))
    (fun _ _ _ _ _ hs _ _ => hs)
    ⟨F.out.2.1, F.out.1⟩
    ?a1 ?assign ?body ?done ?stop
  case assign =>
    intro l x W K hK
    rw [fold_oneR]
    simp only [List.setIfInBounds_toArray, List.set_cons_succ, List.set_cons_zero]
    gi_wp2
    exact hK
  case body =>
    rintro l pre x W _ hlt
    exact absurd hlt (by omega)
  case stop =>
    rintro D c pre W _ h _ _
    exact h.elim
  case done =>
    rintro D ys W hD _ ⟨hb, hB⟩ hK
    have hc := hb.cell
    go_wp2_with fail
    refine ⟨by simp, .inl ⟨_, _, rfl, run_takeDeferred hK, ?_⟩⟩
    exact ⟨_, results_tmp rfl _ _ _, rfl, hB.trans (belowK_b (w := w) (Nat.le_refl _) W D _ _ (by have h1 := F.out.2.2.2.2; omega) hK rfl rfl)⟩
end Go.Proofs.Ytifjjnnpoleinaa.Df
