import Derived.Test.YtnpmmodcmfgbjaaGreatMEqD
namespace Go.Proofs.YtnpmmodcmfgbjaaGreat
open Go.RowKit Go.Sort Go.Maps
open Tt (Tl byd byd_f byd_t)
attribute [local go_sem ↓] Go.wp_at_zero Go.wp_at_succ

def t0 : Tm := ⟨(0, 0, 0), by decide⟩
def tA : Tm := ⟨(1, 0, 0), by decide⟩
def tB : Tm := ⟨(0, 1, 0), by decide⟩
theorem n0A : t0 ≠ tA := by decide
theorem n0B : t0 ≠ tB := by decide
theorem nAB : tA ≠ tB := by decide
abbrev kd1 : List Dl := [(t0, 2)]
abbrev kd2 : List Dl := [(t0, -2), (tA, 1), (tB, 1)]
def kf1 : Tm → Int := upd (fun _ => 0) t0 2
def kf2 : Tm → Int := upd (upd (fun _ => 0) tA 1) tB 1
theorem kf1_eq : newc (fun _ => 0) kd1 = kf1 := by
  funext t
  simp only [newc, sm, kf1, List.foldl_cons, List.foldl_nil]
  unfold upd
  by_cases h : t = t0
  · rw [if_pos h, if_pos h]; unfold wrap64; omega
  · rw [if_neg h, if_neg h]; show wrap64 (0 + 0) = 0; unfold wrap64; omega
theorem kf2_eq : newc kf1 kd2 = kf2 := by
  funext t
  simp only [newc, sm, kf1, kf2, List.foldl_cons, List.foldl_nil]
  unfold upd
  have h1 := n0A; have h2 := n0B; have h3 := nAB
  by_cases hA : t = tA
  · subst hA
    simp [h1.symm, h3]
    unfold wrap64; omega
  · by_cases hB : t = tB
    · subst hB
      simp [h2.symm, h3.symm]
      unfold wrap64; omega
    · by_cases h0 : t = t0
      · subst h0
        simp [h1, h2]
        unfold wrap64; omega
      · simp [hA, hB, h0]
        unfold wrap64; omega
theorem kb1 : bad (fun _ => 0) kd1 = false := by
  unfold bad
  rw [kf1_eq]
  decide
theorem kb2 : bad kf1 kd2 = false := by
  unfold bad
  rw [kf2_eq]
  decide
theorem kfr1 : IsFr kf1 [t0] := by
  refine ⟨by simp [Good], fun x hx => ?_, fun y hy => ?_⟩
  · simp at hx; subst hx; decide
  · have : y = t0 := by
      by_cases h : y = t0
      · exact h
      · rw [kf1, upd_other _ _ h] at hy; omega
    subst this
    decide
theorem kfr2 : IsFr kf2 [tB, tA] := by
  refine ⟨?_, fun x hx => ?_, fun y hy => ?_⟩
  · simp only [Good, List.pairwise_cons, List.mem_singleton, forall_eq, List.not_mem_nil, false_imp_iff, implies_true, List.Pairwise.nil, and_true]
    decide
  · simp at hx
    rcases hx with rfl | rfl <;> decide
  · have : y = tA ∨ y = tB := by
      by_cases h : y = tB
      · exact Or.inr h
      · by_cases h' : y = tA
        · exact Or.inl h'
        · rw [kf2, upd_other _ _ h, upd_other _ _ h'] at hy; omega
    rcases this with rfl | rfl <;> decide
theorem kdl1 : dlt [] [t0] = [(t0, 1)] := by
  rw [dlt_eq (m := [t0]) (by simp) (by simp) (by simp) (by simp)]
  simp
theorem kdl2 : dlt [t0] [tB, tA] = [(t0, -1), (tB, 1), (tA, 1)] := by
  have h1 := n0A; have h2 := n0B; have h3 := nAB
  rw [dlt_eq (m := [t0, tB, tA]) (by simp) (by simp [h3.symm]) ?_ (fun x => ?_)]
  · simp [h1, h2]
  · simp only [List.pairwise_cons, List.mem_cons, List.not_mem_nil, or_false, forall_eq_or_imp, forall_eq, false_imp_iff, implies_true, List.Pairwise.nil, and_true]
    decide
  · simp only [List.mem_cons, List.not_mem_nil, or_false]
    constructor
    · rintro (rfl | rfl | rfl)
      · exact Or.inl ⟨rfl, by simp [h1, h2]⟩
      · exact Or.inr ⟨Or.inl rfl, fun e => h2 e.symm⟩
      · exact Or.inr ⟨Or.inr rfl, fun e => h1 e.symm⟩
    · rintro (⟨rfl, _⟩ | ⟨h | h, _⟩)
      · exact Or.inl rfl
      · exact Or.inr (Or.inl h)
      · exact Or.inr (Or.inr h)
end Go.Proofs.YtnpmmodcmfgbjaaGreat
