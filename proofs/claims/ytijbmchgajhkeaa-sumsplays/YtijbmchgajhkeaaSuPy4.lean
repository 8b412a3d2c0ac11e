import Derived.Test.YtijbmchgajhkeaaSuPy3
namespace Go.Proofs.Ytijbmchgajhkeaa
open Go.RowKit Go.Sort Go.Maps Go.Shelf
section
variable {w W W' : World} {gs gr N M : Nat} {s r : Nat → Nat} {S R : Nat → Nat → Prop} {A : Nat → List Ct}
theorem Py.mono (h : Py w gs gr N M s r S R A W) {N' M' : Nat} (hN : N ≤ N') (hM : M ≤ M') : Py w gs gr N' M' s r S R A W :=
  ⟨h.cs, h.cr, fun i hi => (h.su i hi).mono hN, h.ru, h.sr, h.ss, h.rr, h.own, h.lists, h.bl, fun i hi => Nat.le_trans (h.len i hi) hM⟩
/-- Pair i is turned into what is said. -/
theorem Py.turn (h : Py w gs gr N M s r S R A W) {i : Nat} (hi : i < 2) {Si Ri : Nat → Prop} {Ai : List Ct} (h1 : Su W' Si N (s i) Ai) (h2 : Rs W' Ri (r i) Ai) (h3 : ∀ k, Si k → ¬ Ri k) (h4 : ∀ k, Si k → S i k ∨ W.heap.size ≤ k) (h5 : ∀ k, Ri k → R i k ∨ W.heap.size ≤ k) (hk : Kp (fun k => S i k ∨ R i k) W W') (h6 : Ai.length ≤ M) :
    Py w gs gr N M s r (fun j => if j = i then (fun k => Si k ∧ k < W'.heap.size) else S j) (fun j => if j = i then (fun k => Ri k ∧ k < W'.heap.size) else R j) (fun j => if j = i then Ai else A j) W' := by
  have hgs : ¬ (S i gs ∨ R i gs) := fun e => (h.own i hi gs e).2.2.1 rfl
  have hgr : ¬ (S i gr ∨ R i gr) := fun e => (h.own i hi gr e).2.2.2 rfl
  have lgs := (Array.getElem?_eq_some_iff.1 h.cs).1
  have lgr := (Array.getElem?_eq_some_iff.1 h.cr).1
  have hz := h.bl.size
  have hsz := hk.size
  have c1 := h1.cut
  have c2 := h2.cut
  refine ⟨(hk.block gs lgs hgs).trans h.cs, (hk.block gr lgr hgr).trans h.cr, fun j hj => ?_, fun j hj => ?_, fun j l hj hl k h7 h8 => ?_, fun j l hj hl hne k h7 h8 => ?_, fun j l hj hl hne k h7 h8 => ?_, fun j hj k h7 => ?_, h.lists, h.bl.trans (hk.below hz fun k hk' => (h.own i hi k hk').1), fun j hj => ?_⟩
  · by_cases e : j = i
    · subst e; rw [if_pos rfl, if_pos rfl]; exact c1
    · rw [if_neg e, if_neg e]
      exact (h.su j hj).kp hk fun k h7 h8 => h8.elim (h.ss j i hj hi e k h7) (h.sr j i hj hi k h7)
  · by_cases e : j = i
    · subst e; rw [if_pos rfl, if_pos rfl]; exact c2
    · rw [if_neg e, if_neg e]
      exact (h.ru j hj).kp hk fun k h7 h8 => h8.elim (fun h9 => h.sr i j hi hj k h9 h7) (h.rr j i hj hi e k h7)
  · by_cases e : j = i
    · rw [if_pos e] at h7
      by_cases e2 : l = i
      · rw [if_pos e2] at h8; exact h3 k h7.1 h8.1
      · rw [if_neg e2] at h8
        rcases h4 k h7.1 with h9 | h9
        · exact h.sr i l hi hl k h9 h8
        · have := (h.own l hl k (.inr h8)).2.1; omega
    · rw [if_neg e] at h7
      by_cases e2 : l = i
      · rw [if_pos e2] at h8
        rcases h5 k h8.1 with h9 | h9
        · exact h.sr j i hj hi k h7 h9
        · have := (h.own j hj k (.inl h7)).2.1; omega
      · rw [if_neg e2] at h8; exact h.sr j l hj hl k h7 h8
  · by_cases e : j = i
    · rw [if_pos e] at h7
      rw [if_neg (by omega)] at h8
      rcases h4 k h7.1 with h9 | h9
      · exact h.ss i l hi hl (by omega) k h9 h8
      · have := (h.own l hl k (.inl h8)).2.1; omega
    · rw [if_neg e] at h7
      by_cases e2 : l = i
      · rw [if_pos e2] at h8
        rcases h4 k h8.1 with h9 | h9
        · exact h.ss j i hj hi e k h7 h9
        · have := (h.own j hj k (.inl h7)).2.1; omega
      · rw [if_neg e2] at h8; exact h.ss j l hj hl hne k h7 h8
  · by_cases e : j = i
    · rw [if_pos e] at h7
      rw [if_neg (by omega)] at h8
      rcases h5 k h7.1 with h9 | h9
      · exact h.rr i l hi hl (by omega) k h9 h8
      · have := (h.own l hl k (.inr h8)).2.1; omega
    · rw [if_neg e] at h7
      by_cases e2 : l = i
      · rw [if_pos e2] at h8
        rcases h5 k h8.1 with h9 | h9
        · exact h.rr j i hj hi e k h7 h9
        · have := (h.own j hj k (.inr h7)).2.1; omega
      · rw [if_neg e2] at h8; exact h.rr j l hj hl hne k h7 h8
  · by_cases e : j = i
    · rw [if_pos e, if_pos e] at h7
      have h9 : (S i k ∨ R i k) ∨ W.heap.size ≤ k := by
        rcases h7 with h7 | h7
        · exact (h4 k h7.1).imp .inl id
        · exact (h5 k h7.1).imp .inr id
      have h10 : k < W'.heap.size := h7.elim (·.2) (·.2)
      rcases h9 with h9 | h9
      · have := h.own i hi k h9; exact ⟨this.1, h10, this.2.2⟩
      · exact ⟨by omega, h10, by omega, by omega⟩
    · rw [if_neg e, if_neg e] at h7
      have := h.own j hj k h7
      exact ⟨this.1, by omega, this.2.2⟩
  · by_cases e : j = i
    · rw [if_pos e]; exact h6
    · rw [if_neg e]; exact h.len j hj
end
end Go.Proofs.Ytijbmchgajhkeaa
