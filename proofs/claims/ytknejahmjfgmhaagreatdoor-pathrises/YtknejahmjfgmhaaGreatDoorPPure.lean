import Derived.Test.YtknejahmjfgmhaaGreatDoorPOps
import Derived.Test.YtknejahmjfgmhaaGreatDoorPWays
import Derived.Test.YtknejahmjfgmhaaGreatDoorSorted
namespace Go.Proofs.YtknejahmjfgmhaaGreatDoor
open Go.RowKit Go.Sort

theorem teq_le (a b c x y z : Int) : teq a b c x y z = (tle a b c x y z && tle x y z a b c) := by
  rw [Bool.eq_iff_iff, teq_iff, Bool.and_eq_true]
  simp only [tle, Bool.and_eq_true, decide_eq_true_iff]
  omega
theorem cmp_ways (a b c x y z : Int) : (tcmp a b c x y z = -1 ∧ tcmp x y z a b c = 1 ∧ teq a b c x y z = false ∧ tle a b c x y z = true) ∨ (tcmp a b c x y z = -1 ∧ tcmp x y z a b c = 1 ∧ teq a b c x y z = false ∧ tle a b c x y z = false) ∨ (tcmp a b c x y z = 0 ∧ tcmp x y z a b c = 0 ∧ teq a b c x y z = true ∧ tle a b c x y z = true) ∨ (tcmp a b c x y z = 1 ∧ tcmp x y z a b c = -1 ∧ teq a b c x y z = false ∧ tle a b c x y z = false) := by
  have h1 := tcmp_bd a b c x y z
  have h2 := tcmp_neg a b c x y z
  have h3 := tcmp_zero a b c x y z
  have h4 := teq_iff a b c x y z
  have h5 : tle a b c x y z = true ↔ a ≤ x ∧ b ≤ y ∧ c ≤ z := by simp [tle]
  cases ht : teq a b c x y z <;> cases hl : tle a b c x y z <;> rw [ht] at h4 <;> rw [hl] at h5 <;> simp at h4 h5 ⊢ <;> omega
theorem tle_trans' (a b c x y z p q r : Int) : tle a b c x y z = true → tle x y z p q r = true → tle a b c p q r = true := by
  simp only [tle, Bool.and_eq_true, decide_eq_true_iff]
  omega

/-- No time goes back, and none stays but by the empty path. -/
theorem on_rise (a b c s t u : Nat) (h : pok a b c s t u = true) : tle s t u (pon (pok a b c s t u) (a + s) : Nat) (pon (pok a b c s t u) (b + t) : Nat) (pon (pok a b c s t u) (c + u) : Nat) = true ∧
    teq (pon (pok a b c s t u) (a + s) : Nat) (pon (pok a b c s t u) (b + t) : Nat) (pon (pok a b c s t u) (c + u) : Nat) s t u = teq a b c 0 0 0 := by
  rw [h]
  simp only [pon_true]
  constructor
  · simp only [tle, Bool.and_eq_true, decide_eq_true_iff]; omega
  · rw [Bool.eq_iff_iff, teq_iff, teq_iff]; omega
/-- A lesser path makes a lesser time of a lesser one. -/
theorem on_mono (a b c x y z s t u s' t' u' : Nat) (h1 : tle a b c x y z = true) (h2 : tle s t u s' t' u' = true) (h3 : pok x y z s' t' u' = true) : pok a b c s t u = true ∧
    tle (pon (pok a b c s t u) (a + s) : Nat) (pon (pok a b c s t u) (b + t) : Nat) (pon (pok a b c s t u) (c + u) : Nat) (pon (pok x y z s' t' u') (x + s') : Nat) (pon (pok x y z s' t' u') (y + t') : Nat) (pon (pok x y z s' t' u') (z + u') : Nat) = true := by
  simp only [tle, Bool.and_eq_true, decide_eq_true_iff] at h1 h2
  have h4 := (pok_iff ..).1 h3
  have h5 : pok a b c s t u = true := (pok_iff ..).2 ⟨by omega, by omega, by omega⟩
  refine ⟨h5, ?_⟩
  rw [h3, h5]
  simp only [pon_true, tle, Bool.and_eq_true]
  obtain ⟨e1, e2, e3⟩ := h1
  obtain ⟨f1, f2, f3⟩ := h2
  exact ⟨decide_eq_true (by omega), decide_eq_true (by omega), decide_eq_true (by omega)⟩
end Go.Proofs.YtknejahmjfgmhaaGreatDoor
