import Derived.Test.YtbomkeginbhhoaaCOps
import Derived.Deep.AppendLies
import Derived.Laws.AppendOwnNone
import Derived.Shelf.SlSortCmp.QuietGrown
namespace Go.Proofs.Ytbomkeginbhhoaa
open Go.RowKit Go.Sort
attribute [local go_sem ↓] Go.wp_at_zero Go.wp_at_succ

/-- A function that answers r. -/
structure FnOk (f : Nat) (r : P2 → P2 → Bool) : Prop where
  enter : ∀ args w, (callFunc f args).run Try.prog w = .ok (.enter f args) w
  calls : ∀ (a b : P2) (W : World), Calls Try.prog f #[pv a, pv b] W fun e w' => e = .returned (.bool (r a b)) ∧ Gr W w'

set_option maxHeartbeats 1000000 in
theorem below0_ok : FnOk 14 (rbel 0) := by
  refine ⟨enters_of Try.func14 (by kernel_rfl) rfl, fun a b W => ?_⟩
  have h := fun W => Below_any 0 a b W
  obtain ⟨a1, a2⟩ := a
  obtain ⟨b1, b2⟩ := b
  generalize rbel 0 (a1, a2) (b1, b2) = r at h ⊢
  go_enter Try.func14, Try.ntmps14
  go_wp2_with fail
  refine (h _).mono ?_
  rintro e w' ⟨rfl, hg⟩
  go_wp2
  go_ret
  exact ⟨rfl, (((Gr.refl _).alloc _).alloc _).trans hg⟩
set_option maxHeartbeats 1000000 in
theorem below1_ok : FnOk 37 (rbel 1) := by
  refine ⟨enters_of Try.func37 (by kernel_rfl) rfl, fun a b W => ?_⟩
  have h := fun W => Below_any 1 a b W
  obtain ⟨a1, a2⟩ := a
  obtain ⟨b1, b2⟩ := b
  generalize rbel 1 (a1, a2) (b1, b2) = r at h ⊢
  go_enter Try.func37, Try.ntmps37
  go_wp2_with fail
  refine (h _).mono ?_
  rintro e w' ⟨rfl, hg⟩
  go_wp2
  go_ret
  exact ⟨rfl, (((Gr.refl _).alloc _).alloc _).trans hg⟩
set_option maxHeartbeats 1000000 in
theorem below2_ok : FnOk 39 (rbel 2) := by
  refine ⟨enters_of Try.func39 (by kernel_rfl) rfl, fun a b W => ?_⟩
  have h := fun W => Below_any 2 a b W
  obtain ⟨a1, a2⟩ := a
  obtain ⟨b1, b2⟩ := b
  generalize rbel 2 (a1, a2) (b1, b2) = r at h ⊢
  go_enter Try.func39, Try.ntmps39
  go_wp2_with fail
  refine (h _).mono ?_
  rintro e w' ⟨rfl, hg⟩
  go_wp2
  go_ret
  exact ⟨rfl, (((Gr.refl _).alloc _).alloc _).trans hg⟩
set_option maxHeartbeats 1000000 in
theorem below3_ok : FnOk 41 (rbel 3) := by
  refine ⟨enters_of Try.func41 (by kernel_rfl) rfl, fun a b W => ?_⟩
  have h := fun W => Below_any 3 a b W
  obtain ⟨a1, a2⟩ := a
  obtain ⟨b1, b2⟩ := b
  generalize rbel 3 (a1, a2) (b1, b2) = r at h ⊢
  go_enter Try.func41, Try.ntmps41
  go_wp2_with fail
  refine (h _).mono ?_
  rintro e w' ⟨rfl, hg⟩
  go_wp2
  go_ret
  exact ⟨rfl, (((Gr.refl _).alloc _).alloc _).trans hg⟩
set_option maxHeartbeats 1000000 in
theorem below4_ok : FnOk 43 (rbel 4) := by
  refine ⟨enters_of Try.func43 (by kernel_rfl) rfl, fun a b W => ?_⟩
  have h := fun W => Below_any 4 a b W
  obtain ⟨a1, a2⟩ := a
  obtain ⟨b1, b2⟩ := b
  generalize rbel 4 (a1, a2) (b1, b2) = r at h ⊢
  go_enter Try.func43, Try.ntmps43
  go_wp2_with fail
  refine (h _).mono ?_
  rintro e w' ⟨rfl, hg⟩
  go_wp2
  go_ret
  exact ⟨rfl, (((Gr.refl _).alloc _).alloc _).trans hg⟩
set_option maxHeartbeats 1000000 in
theorem below5_ok : FnOk 45 (rbel 5) := by
  refine ⟨enters_of Try.func45 (by kernel_rfl) rfl, fun a b W => ?_⟩
  have h := fun W => Below_any 5 a b W
  obtain ⟨a1, a2⟩ := a
  obtain ⟨b1, b2⟩ := b
  generalize rbel 5 (a1, a2) (b1, b2) = r at h ⊢
  go_enter Try.func45, Try.ntmps45
  go_wp2_with fail
  refine (h _).mono ?_
  rintro e w' ⟨rfl, hg⟩
  go_wp2
  go_ret
  exact ⟨rfl, (((Gr.refl _).alloc _).alloc _).trans hg⟩
set_option maxHeartbeats 1000000 in
theorem first0_ok : FnOk 15 (rfst 0) := by
  refine ⟨enters_of Try.func15 (by kernel_rfl) rfl, fun a b W => ?_⟩
  have h := fun W => First_any 0 a b W
  obtain ⟨a1, a2⟩ := a
  obtain ⟨b1, b2⟩ := b
  generalize rfst 0 (a1, a2) (b1, b2) = r at h ⊢
  go_enter Try.func15, Try.ntmps15
  go_wp2_with fail
  refine (h _).mono ?_
  rintro e w' ⟨rfl, hg⟩
  go_wp2
  go_ret
  exact ⟨rfl, (((Gr.refl _).alloc _).alloc _).trans hg⟩
set_option maxHeartbeats 1000000 in
theorem first1_ok : FnOk 38 (rfst 1) := by
  refine ⟨enters_of Try.func38 (by kernel_rfl) rfl, fun a b W => ?_⟩
  have h := fun W => First_any 1 a b W
  obtain ⟨a1, a2⟩ := a
  obtain ⟨b1, b2⟩ := b
  generalize rfst 1 (a1, a2) (b1, b2) = r at h ⊢
  go_enter Try.func38, Try.ntmps38
  go_wp2_with fail
  refine (h _).mono ?_
  rintro e w' ⟨rfl, hg⟩
  go_wp2
  go_ret
  exact ⟨rfl, (((Gr.refl _).alloc _).alloc _).trans hg⟩
set_option maxHeartbeats 1000000 in
theorem first2_ok : FnOk 40 (rfst 2) := by
  refine ⟨enters_of Try.func40 (by kernel_rfl) rfl, fun a b W => ?_⟩
  have h := fun W => First_any 2 a b W
  obtain ⟨a1, a2⟩ := a
  obtain ⟨b1, b2⟩ := b
  generalize rfst 2 (a1, a2) (b1, b2) = r at h ⊢
  go_enter Try.func40, Try.ntmps40
  go_wp2_with fail
  refine (h _).mono ?_
  rintro e w' ⟨rfl, hg⟩
  go_wp2
  go_ret
  exact ⟨rfl, (((Gr.refl _).alloc _).alloc _).trans hg⟩
set_option maxHeartbeats 1000000 in
theorem first3_ok : FnOk 42 (rfst 3) := by
  refine ⟨enters_of Try.func42 (by kernel_rfl) rfl, fun a b W => ?_⟩
  have h := fun W => First_any 3 a b W
  obtain ⟨a1, a2⟩ := a
  obtain ⟨b1, b2⟩ := b
  generalize rfst 3 (a1, a2) (b1, b2) = r at h ⊢
  go_enter Try.func42, Try.ntmps42
  go_wp2_with fail
  refine (h _).mono ?_
  rintro e w' ⟨rfl, hg⟩
  go_wp2
  go_ret
  exact ⟨rfl, (((Gr.refl _).alloc _).alloc _).trans hg⟩
set_option maxHeartbeats 1000000 in
theorem first4_ok : FnOk 44 (rfst 4) := by
  refine ⟨enters_of Try.func44 (by kernel_rfl) rfl, fun a b W => ?_⟩
  have h := fun W => First_any 4 a b W
  obtain ⟨a1, a2⟩ := a
  obtain ⟨b1, b2⟩ := b
  generalize rfst 4 (a1, a2) (b1, b2) = r at h ⊢
  go_enter Try.func44, Try.ntmps44
  go_wp2_with fail
  refine (h _).mono ?_
  rintro e w' ⟨rfl, hg⟩
  go_wp2
  go_ret
  exact ⟨rfl, (((Gr.refl _).alloc _).alloc _).trans hg⟩
set_option maxHeartbeats 1000000 in
theorem first5_ok : FnOk 46 (rfst 5) := by
  refine ⟨enters_of Try.func46 (by kernel_rfl) rfl, fun a b W => ?_⟩
  have h := fun W => First_any 5 a b W
  obtain ⟨a1, a2⟩ := a
  obtain ⟨b1, b2⟩ := b
  generalize rfst 5 (a1, a2) (b1, b2) = r at h ⊢
  go_enter Try.func46, Try.ntmps46
  go_wp2_with fail
  refine (h _).mono ?_
  rintro e w' ⟨rfl, hg⟩
  go_wp2
  go_ret
  exact ⟨rfl, (((Gr.refl _).alloc _).alloc _).trans hg⟩
/-- A function as a value. -/
abbrev fv (f : Nat) : Value := .func (.func f) #[] #[]

set_option maxHeartbeats 1000000 in
theorem covers1_any (fb : Nat) (bel : P2 → P2 → Bool) (hF : FnOk fb bel) (x v : P2) (B1 B2 cb : Nat) (w : World) (h1 : B1 < w.heap.size) (h2 : B2 < w.heap.size) (hc : cb < w.heap.size)
    (c1 : w.cell? ⟨B1, 0, none⟩ = some (.pointer (some ⟨cb, 0, none⟩))) (c20 : w.cell? ⟨B2, 0, none⟩ = some (.int .i64 v.1)) (c21 : w.cell? ⟨B2, 1, none⟩ = some (.int .i64 v.2)) (cf : w.cell? ⟨cb, 0, none⟩ = some (fv fb)) :
    Calls Try.prog 48 #[pv x, .pointer (some ⟨B1, 0, none⟩), .pointer (some ⟨B2, 0, none⟩)] w fun e w' => e = .returned (.bool (bel x v)) ∧ Gr w w' := by
  have he := hF.enter
  have hcall := hF.calls x v
  generalize bel x v = r at hcall ⊢
  have hm : Try.prog.follows .mixedOrders = true := by kernel_rfl
  obtain ⟨W1, hW1⟩ : ∃ W1, W1 = w.alloc (.cells #[.int .i64 x.1, .int .i64 x.2] 28) := ⟨_, rfl⟩
  have G1 : Gr w W1 := by rw [hW1]; exact (Gr.refl _).alloc _
  have hz : w.heap.size < W1.heap.size := by rw [hW1]; simp
  obtain ⟨nb, hnb⟩ : ∃ nb, nb = w.heap.size := ⟨_, rfl⟩
  have k1 := cell_grown (a := ⟨B1, 0, none⟩) (Nat.lt_trans h1 hz) ((G1.cell h1).trans c1)
  have k2 := cell_grown (a := ⟨B2, 0, none⟩) (Nat.lt_trans h2 hz) ((G1.cell h2).trans c20)
  have k3 := cell_grown (a := ⟨B2, 1, none⟩) (Nat.lt_trans h2 hz) ((G1.cell h2).trans c21)
  have k4 := cell_grown (a := ⟨cb, 0, none⟩) (Nat.lt_trans hc hz) ((G1.cell hc).trans cf)
  have k5 := cell_grown (w := W1) (a := ⟨nb, 0, none⟩) (v := .int .i64 x.1) (by rw [hnb]; exact hz) (by rw [hW1, hnb]; simp)
  have k6 := cell_grown (w := W1) (a := ⟨nb, 1, none⟩) (v := .int .i64 x.2) (by rw [hnb]; exact hz) (by rw [hW1, hnb]; simp)
  go_enter Try.func48, Try.ntmps48
  go_wp2_with fail
  rw [← hW1, ← hnb]
  clear hW1 hnb c1 c20 c21 cf
  go_quiet_grown (first | (go_at_fn fb; refine Calls.grown_of (v := .bool r) (hcall _)))
  go_wp2
  go_ret
  exact ⟨rfl, (G1.drewN _).grown _⟩
set_option maxHeartbeats 1000000 in
theorem staying1_any (fb : Nat) (bel : P2 → P2 → Bool) (hF : FnOk fb bel) (x v : P2) (B1 B2 cb : Nat) (w : World) (h1 : B1 < w.heap.size) (h2 : B2 < w.heap.size) (hc : cb < w.heap.size)
    (c1 : w.cell? ⟨B1, 0, none⟩ = some (.pointer (some ⟨cb, 0, none⟩))) (c20 : w.cell? ⟨B2, 0, none⟩ = some (.int .i64 v.1)) (c21 : w.cell? ⟨B2, 1, none⟩ = some (.int .i64 v.2)) (cf : w.cell? ⟨cb, 0, none⟩ = some (fv fb)) :
    Calls Try.prog 62 #[pv x, .pointer (some ⟨B1, 0, none⟩), .pointer (some ⟨B2, 0, none⟩)] w fun e w' => e = .returned (.bool (bel v x)) ∧ Gr w w' := by
  have he := hF.enter
  have hcall := hF.calls v x
  generalize bel v x = r at hcall ⊢
  have hm : Try.prog.follows .mixedOrders = true := by kernel_rfl
  obtain ⟨W1, hW1⟩ : ∃ W1, W1 = w.alloc (.cells #[.int .i64 x.1, .int .i64 x.2] 28) := ⟨_, rfl⟩
  have G1 : Gr w W1 := by rw [hW1]; exact (Gr.refl _).alloc _
  have hz : w.heap.size < W1.heap.size := by rw [hW1]; simp
  obtain ⟨nb, hnb⟩ : ∃ nb, nb = w.heap.size := ⟨_, rfl⟩
  have k1 := cell_grown (a := ⟨B1, 0, none⟩) (Nat.lt_trans h1 hz) ((G1.cell h1).trans c1)
  have k2 := cell_grown (a := ⟨B2, 0, none⟩) (Nat.lt_trans h2 hz) ((G1.cell h2).trans c20)
  have k3 := cell_grown (a := ⟨B2, 1, none⟩) (Nat.lt_trans h2 hz) ((G1.cell h2).trans c21)
  have k4 := cell_grown (a := ⟨cb, 0, none⟩) (Nat.lt_trans hc hz) ((G1.cell hc).trans cf)
  have k5 := cell_grown (w := W1) (a := ⟨nb, 0, none⟩) (v := .int .i64 x.1) (by rw [hnb]; exact hz) (by rw [hW1, hnb]; simp)
  have k6 := cell_grown (w := W1) (a := ⟨nb, 1, none⟩) (v := .int .i64 x.2) (by rw [hnb]; exact hz) (by rw [hW1, hnb]; simp)
  go_enter Try.func62, Try.ntmps62
  go_wp2_with fail
  rw [← hW1, ← hnb]
  clear hW1 hnb c1 c20 c21 cf
  go_quiet_grown (first | (go_at_fn fb; refine Calls.grown_of (v := .bool r) (hcall _)))
  go_wp2
  go_ret
  exact ⟨rfl, (G1.drewN _).grown _⟩
set_option maxHeartbeats 1000000 in
theorem place1_any (fb : Nat) (bel : P2 → P2 → Bool) (hF : FnOk fb bel) (x v : P2) (B1 B2 cb : Nat) (w : World) (h1 : B1 < w.heap.size) (h2 : B2 < w.heap.size) (hc : cb < w.heap.size)
    (c1 : w.cell? ⟨B1, 0, none⟩ = some (.pointer (some ⟨cb, 0, none⟩))) (c20 : w.cell? ⟨B2, 0, none⟩ = some (.int .i64 v.1)) (c21 : w.cell? ⟨B2, 1, none⟩ = some (.int .i64 v.2)) (cf : w.cell? ⟨cb, 1, none⟩ = some (fv fb)) :
    Calls Try.prog 63 #[pv x, .pointer (some ⟨B1, 0, none⟩), .pointer (some ⟨B2, 0, none⟩)] w fun e w' => e = .returned (.bool (bel v x)) ∧ Gr w w' := by
  have he := hF.enter
  have hcall := hF.calls v x
  generalize bel v x = r at hcall ⊢
  have hm : Try.prog.follows .mixedOrders = true := by kernel_rfl
  obtain ⟨W1, hW1⟩ : ∃ W1, W1 = w.alloc (.cells #[.int .i64 x.1, .int .i64 x.2] 28) := ⟨_, rfl⟩
  have G1 : Gr w W1 := by rw [hW1]; exact (Gr.refl _).alloc _
  have hz : w.heap.size < W1.heap.size := by rw [hW1]; simp
  obtain ⟨nb, hnb⟩ : ∃ nb, nb = w.heap.size := ⟨_, rfl⟩
  have k1 := cell_grown (a := ⟨B1, 0, none⟩) (Nat.lt_trans h1 hz) ((G1.cell h1).trans c1)
  have k2 := cell_grown (a := ⟨B2, 0, none⟩) (Nat.lt_trans h2 hz) ((G1.cell h2).trans c20)
  have k3 := cell_grown (a := ⟨B2, 1, none⟩) (Nat.lt_trans h2 hz) ((G1.cell h2).trans c21)
  have k4 := cell_grown (a := ⟨cb, 1, none⟩) (Nat.lt_trans hc hz) ((G1.cell hc).trans cf)
  have k5 := cell_grown (w := W1) (a := ⟨nb, 0, none⟩) (v := .int .i64 x.1) (by rw [hnb]; exact hz) (by rw [hW1, hnb]; simp)
  have k6 := cell_grown (w := W1) (a := ⟨nb, 1, none⟩) (v := .int .i64 x.2) (by rw [hnb]; exact hz) (by rw [hW1, hnb]; simp)
  go_enter Try.func63, Try.ntmps63
  go_wp2_with fail
  rw [← hW1, ← hnb]
  clear hW1 hnb c1 c20 c21 cf
  go_quiet_grown (first | (go_at_fn fb; refine Calls.grown_of (v := .bool r) (hcall _)))
  go_wp2
  go_ret
  exact ⟨rfl, (G1.drewN _).grown _⟩
end Go.Proofs.Ytbomkeginbhhoaa
