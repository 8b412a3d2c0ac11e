import Derived.Test.YtpcamjmfddnglaaHPushT
import Derived.Laws.CopyOwn
namespace Go.Proofs.Ytpcamjmfddnglaa.Ht
open Go.RowKit Go.Sort Hp
attribute [local go_sem ↓] Go.wp_at_zero Go.wp_at_succ

theorem new_any (ff : Nat) (w : World) : Calls Try.prog 7 #[fv ff] w fun e w' => ∃ hb, e = .returned (.pointer (some ⟨hb, 0, none⟩)) ∧ w.heap.size ≤ hb ∧ Hb w' hb ff (.slice none 0 0) [] 0 ∧ Gr w w' := by
  go_enter Try.func7, Try.ntmps7
  go_wp2
  go_ret
  exact ⟨_, rfl, Nat.le_refl _, ⟨heap_new' _ _, World.ownsRow_nil _ _ _ _, by simp [Value.ownBlock]⟩, (Gr.refl _).alloc _⟩
theorem len_any {hb ff np : Nat} {v : Value} {L : List It} (w : World) (hH : Hb w hb ff v L np) : Calls Try.prog 11 #[.pointer (some ⟨hb, 0, none⟩)] w fun e w' => e = .returned (.int .i64 (L.length : Nat)) ∧ w' = w := by
  have k1 := hH.c1
  obtain ⟨pl, cl, rfl⟩ := hH.lst.form
  have kl := hH.lt
  clear hH
  go_enter Try.func11, Try.ntmps11
  go_wp2
  go_ret
  exact ⟨rfl, rfl⟩
theorem len_nil (w : World) : Calls Try.prog 11 #[.pointer none] w fun e w' => e = .returned (.int .i64 0) ∧ w' = w := by
  go_enter Try.func11, Try.ntmps11
  go_wp2
  go_ret
  exact ⟨rfl, rfl⟩
set_option maxHeartbeats 1000000 in
theorem push_nil (x : Th) (w : World) : Calls Try.prog 9 #[.pointer none, tv x] w fun e w' => e = .returned (.tuple #[]) ∧ Gr w w' := by
  go_enter Try.func9, Try.ntmps9
  go_wp2
  refine bodyPost_ret (results_none rfl _ _ _) rfl ?_
  exact ⟨rfl, by first | exact (Gr.refl _).alloc _ | exact Gr.refl _⟩
/-- What Peek and Pop answer. -/
abbrev ans (x : Th) (b : Bool) : Value := .tuple #[tv x, .bool b]
abbrev zt : Th := (0, 0)
set_option maxHeartbeats 1000000 in
theorem peek_any {hb ff np : Nat} {v : Value} {L : List It} {t : It} (w : World) (hH : Hb w hb ff v L np) (ht : L[0]? = some t) : Calls Try.prog 34 #[.pointer (some ⟨hb, 0, none⟩)] w fun e w' => e = .returned (ans t.1 true) ∧ Gr w w' := by
  have hlen : ∀ W : World, Gr w W → Calls Try.prog 11 #[.pointer (some ⟨hb, 0, none⟩)] W fun e w' => e = .returned (.int .i64 (L.length : Nat)) ∧ w' = W := fun W h => len_any W (hH.gr h)
  have hpos : 0 < L.length := (List.getElem?_eq_some_iff.1 ht).1
  have hpz : ¬ (L.length : Int) = 0 := by omega
  have hpz2 : (0 : Int) < (L.length : Int) := by omega
  obtain ⟨b1, o1, c1, e1, z1, x0, x1, x2⟩ := ls_at hH.lst ht
  subst e1
  have k1 := hH.c1
  have kl := hH.lt
  clear hH ht
  simp only [Nat.zero_mul, Nat.add_zero] at x0 x1 x2
  go_enter Try.func34, Try.ntmps34
  go_wp2_with fail
  refine (hlen _ (by first | exact (Gr.refl _).alloc _ | exact Gr.refl _)).mono ?_
  rintro e w1 ⟨rfl, rfl⟩
  go_wp2
  refine bodyPost_ret (v := ans t.1 true) (by simp [results, Try.results34, go_sem]) rfl ?_
  exact ⟨rfl, by first | exact (Gr.refl _).alloc _ | exact Gr.refl _⟩
set_option maxHeartbeats 1000000 in
theorem peek_none {hb ff np : Nat} {v : Value} (w : World) (hH : Hb w hb ff v [] np) : Calls Try.prog 34 #[.pointer (some ⟨hb, 0, none⟩)] w fun e w' => e = .returned (ans zt false) ∧ Gr w w' := by
  have hlen : ∀ W : World, Gr w W → Calls Try.prog 11 #[.pointer (some ⟨hb, 0, none⟩)] W fun e w' => e = .returned (.int .i64 0) ∧ w' = W := fun W h => len_any W (hH.gr h)
  clear hH
  go_enter Try.func34, Try.ntmps34
  go_wp2_with fail
  refine (hlen _ (by first | exact (Gr.refl _).alloc _ | exact Gr.refl _)).mono ?_
  rintro e w1 ⟨rfl, rfl⟩
  go_wp2
  refine bodyPost_ret (v := ans zt false) (by simp [results, Try.results34, go_sem]) rfl ?_
  exact ⟨rfl, by first | exact ((Gr.refl _).alloc _).alloc _ | exact (Gr.refl _).alloc _ | exact Gr.refl _⟩
set_option maxHeartbeats 1000000 in
theorem peek_nil (w : World) : Calls Try.prog 34 #[.pointer none] w fun e w' => e = .returned (ans zt false) ∧ Gr w w' := by
  have hlen := fun W => len_nil W
  go_enter Try.func34, Try.ntmps34
  go_wp2_with fail
  refine (hlen _).mono ?_
  rintro e w1 ⟨rfl, rfl⟩
  go_wp2
  refine bodyPost_ret (v := ans zt false) (by simp [results, Try.results34, go_sem]) rfl ?_
  exact ⟨rfl, by first | exact ((Gr.refl _).alloc _).alloc _ | exact (Gr.refl _).alloc _ | exact Gr.refl _⟩
end Go.Proofs.Ytpcamjmfddnglaa.Ht
