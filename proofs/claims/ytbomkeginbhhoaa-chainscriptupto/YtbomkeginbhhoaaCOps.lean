import Derived.Test.YtbomkeginbhhoaaRows
import Derived.Test.YtbomkeginbhhoaaGr
import Derived.Test.YtbomkeginbhhoaaCPure
import Derived.WalkKit
import Derived.WalkSpells
import Derived.Deep.RegionHeld3
import Derived.Deep.DrawnRows
import Derived.Deep.QuietTactic
import Derived.BigQuiet
import Derived.Sort.Grow
namespace Go.Proofs.Ytbomkeginbhhoaa
open Go.RowKit Go.Sort
attribute [local go_sem ↓] Go.wp_at_zero Go.wp_at_succ

abbrev P2 := Int × Int
/-- A pair as a value. -/
abbrev pv (x : P2) : Value := .agg #[.int .i64 x.1, .int .i64 x.2]
theorem ret_bool {a b : Bool} (h : a = b) : Ending.returned (.bool a) = .returned (.bool b) := by rw [h]

/-- '==' of two pairs. -/
def peq (a b x y : Int) : Bool := (a == x) && (b == y)
theorem peq_iff (a b x y : Int) : peq a b x y = true ↔ a = x ∧ b = y := by simp [peq]
theorem peq_t {s t : P2} (h : s = t) : peq s.1 s.2 t.1 t.2 = true := by subst h; simp [peq]
theorem peq_f {s t : P2} (h : s ≠ t) : peq s.1 s.2 t.1 t.2 = false := by
  rw [← Bool.not_eq_true, peq_iff]
  rintro ⟨h1, h2⟩
  exact h (Prod.ext h1 h2)
theorem run_eqP2 (a b x y : Int) (w : World) : Sem.run Try.prog (Op.equalIn 10000 28 (.agg #[.int .i64 a, .int .i64 b]) (.agg #[.int .i64 x, .int .i64 y])) w = .ok (peq a b x y) w := by
  have u3 := Try.underlying3
  have a3 := Try.isAgg3
  have z3 := Try.sizeOf3
  have hS : Try.prog.underlying 28 = some (.struct (Try.prog.fieldsOf 28)) := by kernel_rfl
  have hp : Try.prog.stoodInHeld 28 = false := by kernel_rfl
  rw [show (10000 : Nat) = 9999 + 1 from rfl, run_equalIn_agg w 9999 28 _ _ hS hp]
  simp only [Program.fieldsOf, Try.underlying28]
  go_simp
  by_cases h1 : a = x <;> by_cases h2 : b = y <;> simp [peq, h1, h2]

/-- The functions by their number. -/
def rbel (k : Int) (a b : P2) : Bool :=
  if k = 0 then decide (a.1 ≤ b.1) && decide (a.2 ≤ b.2) else if k = 2 then true else if k = 3 then peq a.1 a.2 b.1 b.2 else if k = 4 then decide (a.1 ≤ b.1)
  else if k = 5 then decide ((wrap64 (wrap64 (a.1 + wrap64 (2 * b.1)) + b.2)).tmod 3 = 0) else false
def rfst (k : Int) (a b : P2) : Bool :=
  if k = 0 ∨ k = 3 then decide (a.1 < b.1) || (decide (a.1 = b.1) && decide (a.2 < b.2)) else if k = 2 then true else if k = 4 then decide (b.1 < a.1)
  else if k = 5 then decide ((wrap64 (wrap64 (wrap64 (2 * a.1) + b.1) + a.2)).tmod 5 < 2) else false

set_option maxHeartbeats 2000000 in
set_option maxRecDepth 100000 in
theorem Below_any (k : Int) (a b : P2) (w : World) :
    Calls Try.prog 20 #[.int .i64 k, pv a, pv b] w fun e w' => e = .returned (.bool (rbel k a b)) ∧ Gr w w' := by
  have heq := fun a b x y W => run_eqP2 a b x y W
  obtain ⟨a1, a2⟩ := a
  obtain ⟨b1, b2⟩ := b
  by_cases h0 : k = 0
  · subst h0
    have HR : Hid (rbel 0 (a1, a2) (b1, b2) = (decide (a1 ≤ b1) && decide (a2 ≤ b2))) := by unfold rbel; simp [Hid]
    rw [HR.out]
    go_enter Try.func20, Try.ntmps20
    go_wp2
    all_goals (go_ret; exact ⟨ret_bool (by first | rfl | assumption | (simp_all; done) | (simp_all; omega) | (simp; omega)), ((Gr.refl _).alloc _).alloc _⟩)
  by_cases h2 : k = 2
  · subst h2
    have HR : Hid (rbel 2 (a1, a2) (b1, b2) = true) := by unfold rbel; simp [Hid]
    rw [HR.out]
    go_enter Try.func20, Try.ntmps20
    go_wp2
    all_goals (go_ret; exact ⟨ret_bool (by first | rfl | assumption | (simp_all; done) | (simp_all; omega) | (simp; omega)), ((Gr.refl _).alloc _).alloc _⟩)
  by_cases h3 : k = 3
  · subst h3
    have HR : Hid (rbel 3 (a1, a2) (b1, b2) = peq a1 a2 b1 b2) := by unfold rbel; simp [Hid]
    rw [HR.out]
    go_enter Try.func20, Try.ntmps20
    go_wp2
    all_goals (go_ret; exact ⟨ret_bool (by first | rfl | assumption | (simp_all; done) | (simp_all; omega) | (simp; omega)), ((Gr.refl _).alloc _).alloc _⟩)
  by_cases h4 : k = 4
  · subst h4
    have HR : Hid (rbel 4 (a1, a2) (b1, b2) = decide (a1 ≤ b1)) := by unfold rbel; simp [Hid]
    rw [HR.out]
    go_enter Try.func20, Try.ntmps20
    go_wp2
    all_goals (go_ret; exact ⟨ret_bool (by first | rfl | assumption | (simp_all; done) | (simp_all; omega) | (simp; omega)), ((Gr.refl _).alloc _).alloc _⟩)
  by_cases h5 : k = 5
  · subst h5
    have HR : Hid (rbel 5 (a1, a2) (b1, b2) = decide ((wrap64 (wrap64 (a1 + wrap64 (2 * b1)) + b2)).tmod 3 = 0)) := by unfold rbel; simp [Hid]
    rw [HR.out]
    go_enter Try.func20, Try.ntmps20
    go_wp2
    all_goals (go_ret; exact ⟨ret_bool (by first | rfl | assumption | (simp_all; done) | (simp_all; omega) | (simp; omega)), ((Gr.refl _).alloc _).alloc _⟩)
  have HR : Hid (rbel k (a1, a2) (b1, b2) = false) := by unfold rbel; simp [Hid, h0, h2, h3, h4, h5]
  rw [HR.out]
  go_enter Try.func20, Try.ntmps20
  go_wp2
  all_goals (go_ret; exact ⟨ret_bool (by first | rfl | assumption | (simp_all; done) | (simp_all; omega) | (simp; omega)), ((Gr.refl _).alloc _).alloc _⟩)

set_option maxHeartbeats 2000000 in
set_option maxRecDepth 100000 in
theorem First_any (k : Int) (a b : P2) (w : World) :
    Calls Try.prog 53 #[.int .i64 k, pv a, pv b] w fun e w' => e = .returned (.bool (rfst k a b)) ∧ Gr w w' := by
  have heq := fun a b x y W => run_eqP2 a b x y W
  obtain ⟨a1, a2⟩ := a
  obtain ⟨b1, b2⟩ := b
  by_cases h0 : k = 0
  · subst h0
    have HR : Hid (rfst 0 (a1, a2) (b1, b2) = (decide (a1 < b1) || (decide (a1 = b1) && decide (a2 < b2)))) := by unfold rfst; simp [Hid]
    rw [HR.out]
    go_enter Try.func53, Try.ntmps53
    go_wp2
    all_goals (go_ret; exact ⟨ret_bool (by first | rfl | assumption | (simp_all; done) | (simp_all; omega) | (simp; omega)), ((Gr.refl _).alloc _).alloc _⟩)
  by_cases h3 : k = 3
  · subst h3
    have HR : Hid (rfst 3 (a1, a2) (b1, b2) = (decide (a1 < b1) || (decide (a1 = b1) && decide (a2 < b2)))) := by unfold rfst; simp [Hid]
    rw [HR.out]
    go_enter Try.func53, Try.ntmps53
    go_wp2
    all_goals (go_ret; exact ⟨ret_bool (by first | rfl | assumption | (simp_all; done) | (simp_all; omega) | (simp; omega)), ((Gr.refl _).alloc _).alloc _⟩)
  by_cases h2 : k = 2
  · subst h2
    have HR : Hid (rfst 2 (a1, a2) (b1, b2) = true) := by unfold rfst; simp [Hid]
    rw [HR.out]
    go_enter Try.func53, Try.ntmps53
    go_wp2
    all_goals (go_ret; exact ⟨ret_bool (by first | rfl | assumption | (simp_all; done) | (simp_all; omega) | (simp; omega)), ((Gr.refl _).alloc _).alloc _⟩)
  by_cases h4 : k = 4
  · subst h4
    have HR : Hid (rfst 4 (a1, a2) (b1, b2) = decide (b1 < a1)) := by unfold rfst; simp [Hid]
    rw [HR.out]
    go_enter Try.func53, Try.ntmps53
    go_wp2
    all_goals (go_ret; exact ⟨ret_bool (by first | rfl | assumption | (simp_all; done) | (simp_all; omega) | (simp; omega)), ((Gr.refl _).alloc _).alloc _⟩)
  by_cases h5 : k = 5
  · subst h5
    have HR : Hid (rfst 5 (a1, a2) (b1, b2) = decide ((wrap64 (wrap64 (wrap64 (2 * a1) + b1) + a2)).tmod 5 < 2)) := by unfold rfst; simp [Hid]
    rw [HR.out]
    go_enter Try.func53, Try.ntmps53
    go_wp2
    all_goals (go_ret; exact ⟨ret_bool (by first | rfl | assumption | (simp_all; done) | (simp_all; omega) | (simp; omega)), ((Gr.refl _).alloc _).alloc _⟩)
  have HR : Hid (rfst k (a1, a2) (b1, b2) = false) := by unfold rfst; simp [Hid, h0, h3, h2, h4, h5]
  rw [HR.out]
  go_enter Try.func53, Try.ntmps53
  go_wp2
  all_goals (go_ret; exact ⟨ret_bool (by first | rfl | assumption | (simp_all; done) | (simp_all; omega) | (simp; omega)), ((Gr.refl _).alloc _).alloc _⟩)
end Go.Proofs.Ytbomkeginbhhoaa
