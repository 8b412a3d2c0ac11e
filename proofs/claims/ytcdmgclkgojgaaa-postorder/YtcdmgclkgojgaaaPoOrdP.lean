import Derived.Test.YtcdmgclkgojgaaaPoTotO
namespace Go.Proofs.Ytcdmgclkgojgaaa.Po
open Go.RowKit Go.Sort
/-- What holds behind k steps. -/
structure Iv (W k : Nat) (Q pu : Nat → List Th) (tk : Nat → Nat) (n : Nat) : Prop where
  q : ∀ i, i < 64 → Q i = (pu i).drop (tk i)
  le : ∀ i, i < 64 → tk i ≤ (pu i).length
  lim : ∀ i, i < 64 → (pu i).length ≤ k
  lnk : ∀ i, i < 64 → pu i ≠ [] → ∃ f t : Nat, Lnk W f t ∧ i = 8 * f + t
  n : n = tot W Q
theorem Iv.init (W : Nat) (h8 : W ≤ 8) : Iv W 0 (fun _ => []) (fun _ => []) (fun _ => 0) 0 :=
  ⟨fun _ _ => rfl, fun _ _ => Nat.le_refl _, fun _ _ => Nat.le_refl _, fun _ _ h => absurd rfl h, (tot_nil h8 (fun _ _ => rfl)).symm⟩
theorem Iv.mono {W k : Nat} {Q pu : Nat → List Th} {tk : Nat → Nat} {n : Nat} (h : Iv W k Q pu tk n) : Iv W (k + 1) Q pu tk n :=
  ⟨h.q, h.le, fun i hi => Nat.le_succ_of_le (h.lim i hi), h.lnk, h.n⟩
theorem Iv.put {W k : Nat} {Q pu : Nat → List Th} {tk : Nat → Nat} {n F T : Nat} (h : Iv W k Q pu tk n) (h8 : W ≤ 8) (hk : Lnk W F T) (x : Th) : Iv W (k + 1) (ptn W Q F T x) (upd pu (8 * F + T) (pu (8 * F + T) ++ [x])) tk (n + 1) := by
  have hnm : nm F T = 8 * F + T := by unfold nm; simp
  refine ⟨fun i hi => ?_, fun i hi => ?_, fun i hi => ?_, fun i hi hne => ?_, by rw [tot_ptn h8 hk, h.n]⟩
  · unfold ptn
    rw [if_pos hk, hnm]
    by_cases e : i = 8 * F + T
    · subst e; rw [upd_self, upd_self, h.q _ hi, List.drop_append_of_le_length (h.le _ hi)]
    · rw [upd_ne _ _ e, upd_ne _ _ e, h.q i hi]
  · by_cases e : i = 8 * F + T
    · subst e; rw [upd_self]; have := h.le _ hi; simp; omega
    · rw [upd_ne _ _ e]; exact h.le i hi
  · by_cases e : i = 8 * F + T
    · subst e; rw [upd_self]; have := h.lim _ hi; simp; omega
    · rw [upd_ne _ _ e]; exact Nat.le_succ_of_le (h.lim i hi)
  · by_cases e : i = 8 * F + T
    · exact ⟨F, T, hk, e⟩
    · rw [upd_ne _ _ e] at hne; exact h.lnk i hi hne
theorem Iv.take {W k : Nat} {Q pu : Nat → List Th} {tk : Nat → Nat} {n F T : Nat} (h : Iv W k Q pu tk n) (h8 : W ≤ 8) (hk : Lnk W F T) (hlt : tk (8 * F + T) < (pu (8 * F + T)).length) (hi0 : 8 * F + T < 64) :
    ∃ x, (pu (8 * F + T))[tk (8 * F + T)]? = some x ∧ lk W Q F T 0 = (x, 0) ∧ 0 < n ∧ Iv W k (tkn W Q F T) pu (upd tk (8 * F + T) (tk (8 * F + T) + 1)) (n - 1) := by
  have hnm : nm F T = 8 * F + T := by unfold nm; simp
  have hq : Q (8 * F + T) = (pu (8 * F + T)).drop (tk (8 * F + T)) := h.q _ hi0
  have hx : (pu (8 * F + T)).drop (tk (8 * F + T)) = (pu (8 * F + T))[tk (8 * F + T)] :: (pu (8 * F + T)).drop (tk (8 * F + T) + 1) := List.drop_eq_getElem_cons hlt
  have hne : Q (nm F T) ≠ [] := by rw [hnm, hq, hx]; exact List.cons_ne_nil _ _
  have ht := tot_tkn h8 hk hne
  have hn := h.n
  refine ⟨(pu (8 * F + T))[tk (8 * F + T)], List.getElem?_eq_getElem hlt, ?_, by omega, ⟨fun i hi => ?_, fun i hi => ?_, h.lim, h.lnk, by omega⟩⟩
  · unfold lk
    rw [if_pos hk, if_pos (Int.le_refl _), hnm, hq, hx]
    rfl
  · unfold tkn
    rw [if_pos hk, hnm]
    by_cases e : i = 8 * F + T
    · subst e; rw [upd_self, upd_self, hq, hx]; rfl
    · rw [upd_ne _ _ e, upd_ne _ _ e]; exact h.q i hi
  · by_cases e : i = 8 * F + T
    · subst e; rw [upd_self]; exact hlt
    · rw [upd_ne _ _ e]; exact h.le i hi
/-- All are taken. -/
theorem Iv.done {W k : Nat} {Q pu : Nat → List Th} {tk : Nat → Nat} {n : Nat} (h : Iv W k Q pu tk n) (h8 : W ≤ 8) (hd : ∀ i, i < 64 → (pu i).length ≤ tk i) : tot W Q = 0 ∧ bsy W Q = [] := by
  have hz : ∀ i, i < 64 → Q i = [] := fun i hi => by rw [h.q i hi]; exact List.drop_of_length_le (hd i hi)
  exact ⟨tot_nil h8 hz, bsy_nil h8 hz⟩
end Go.Proofs.Ytcdmgclkgojgaaa.Po
