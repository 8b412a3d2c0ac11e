import Derived.Test.YtijbmchgajhkeaaSuStp
namespace Go.Proofs.Ytijbmchgajhkeaa
open Go.RowKit Go.Sort Go.Maps Go.Shelf

/-- Two Sums and the document's two beside them, in two lists of pointers; every block has one owner. -/
structure Py (w : World) (gs gr : Nat) (N M : Nat) (s r : Nat → Nat) (S R : Nat → Nat → Prop) (A : Nat → List Ct) (W : World) : Prop where
  cs : W.heap[gs]? = some (.cells #[.pointer (some ⟨s 0, 0, none⟩), .pointer (some ⟨s 1, 0, none⟩)] 24 (0, 0))
  cr : W.heap[gr]? = some (.cells #[.pointer (some ⟨r 0, 0, none⟩), .pointer (some ⟨r 1, 0, none⟩)] 50 (0, 0))
  su : ∀ i, i < 2 → Su W (S i) N (s i) (A i)
  ru : ∀ i, i < 2 → Rs W (R i) (r i) (A i)
  sr : ∀ i j, i < 2 → j < 2 → ∀ k, S i k → ¬ R j k
  ss : ∀ i j, i < 2 → j < 2 → i ≠ j → ∀ k, S i k → ¬ S j k
  rr : ∀ i j, i < 2 → j < 2 → i ≠ j → ∀ k, R i k → ¬ R j k
  own : ∀ i, i < 2 → ∀ k, S i k ∨ R i k → w.heap.size ≤ k ∧ k < W.heap.size ∧ k ≠ gs ∧ k ≠ gr
  lists : w.heap.size ≤ gs ∧ w.heap.size ≤ gr ∧ gs ≠ gr
  bl : Below w.heap.size w W
  len : ∀ i, i < 2 → (A i).length ≤ M
section
variable {w W W' : World} {gs gr N M : Nat} {s r : Nat → Nat} {S R : Nat → Nat → Prop} {A : Nat → List Ct}
theorem Py.below (h : Py w gs gr N M s r S R A W) (hb : Below W.heap.size W W') : Py w gs gr N M s r S R A W' :=
  ⟨(hb.block gs (Array.getElem?_eq_some_iff.1 h.cs).1).trans h.cs, (hb.block gr (Array.getElem?_eq_some_iff.1 h.cr).1).trans h.cr, fun i hi => (h.su i hi).below hb, fun i hi => (h.ru i hi).below hb, h.sr, h.ss, h.rr, fun i hi k hk => ⟨(h.own i hi k hk).1, Nat.lt_of_lt_of_le (h.own i hi k hk).2.1 hb.size, (h.own i hi k hk).2.2⟩, h.lists, h.bl.trans (hb.mono h.bl.size), h.len⟩
/-- A step on pair i. -/
theorem Py.step (h : Py w gs gr N M s r S R A W) {i : Nat} (hi : i < 2) (hs : Stp W (S i) (R i) N (s i) (r i) (A i) W') :
    ∃ S' R' A', Py w gs gr (N + 3) (M + 1) s r S' R' A' W' ∧ Kp (fun k => S i k ∨ R i k) W W' := by
  obtain ⟨Si, Ri, Ai, h1, h2, h3, h4, h5, hk, h6⟩ := hs
  have hgs : ¬ (S i gs ∨ R i gs) := fun e => (h.own i hi gs e).2.2.1 rfl
  have hgr : ¬ (S i gr ∨ R i gr) := fun e => (h.own i hi gr e).2.2.2 rfl
  have lgs := (Array.getElem?_eq_some_iff.1 h.cs).1
  have lgr := (Array.getElem?_eq_some_iff.1 h.cr).1
  have hz := h.bl.size
  have hsz := hk.size
  have c1 := h1.cut
  have c2 := h2.cut
  refine ⟨fun j => if j = i then (fun k => Si k ∧ k < W'.heap.size) else S j, fun j => if j = i then (fun k => Ri k ∧ k < W'.heap.size) else R j, fun j => if j = i then Ai else A j, ⟨(hk.block gs lgs hgs).trans h.cs, (hk.block gr lgr hgr).trans h.cr, fun j hj => ?_, fun j hj => ?_, fun j l hj hl k h7 h8 => ?_, fun j l hj hl hne k h7 h8 => ?_, fun j l hj hl hne k h7 h8 => ?_, fun j hj k h7 => ?_, h.lists, h.bl.trans (hk.below hz fun k hk' => (h.own i hi k hk').1), fun j hj => ?_⟩, hk⟩
  · by_cases e : j = i
    · subst e; rw [if_pos rfl, if_pos rfl]; exact c1
    · rw [if_neg e, if_neg e]
      exact ((h.su j hj).mono (Nat.le_add_right N 3)).kp hk fun k h7 h8 => h8.elim (h.ss j i hj hi e k h7) (h.sr j i hj hi k h7)
  · by_cases e : j = i
    · subst e; rw [if_pos rfl, if_pos rfl]; exact c2
    · rw [if_neg e, if_neg e]
      exact (h.ru j hj).kp hk fun k h7 h8 => h8.elim (fun h9 => h.sr i j hi hj k h9 h7) (h.rr j i hj hi e k h7)
  · by_cases e : j = i
    · rw [if_pos e] at h7
      by_cases e2 : l = i
      · rw [if_pos e2] at h8; exact h3 k h7.1 h8.1
      · rw [if_neg e2] at h8
        rcases h4 k h7.1 with h9 | h9
        · exact h.sr i l hi hl k h9 h8
        · have := (h.own l hl k (.inr h8)).2.1; omega
    · rw [if_neg e] at h7
      by_cases e2 : l = i
      · rw [if_pos e2] at h8
        rcases h5 k h8.1 with h9 | h9
        · exact h.sr j i hj hi k h7 h9
        · have := (h.own j hj k (.inl h7)).2.1; omega
      · rw [if_neg e2] at h8; exact h.sr j l hj hl k h7 h8
  · by_cases e : j = i
    · rw [if_pos e] at h7
      rw [if_neg (by omega)] at h8
      rcases h4 k h7.1 with h9 | h9
      · exact h.ss i l hi hl (by omega) k h9 h8
      · have := (h.own l hl k (.inl h8)).2.1; omega
    · rw [if_neg e] at h7
      by_cases e2 : l = i
      · rw [if_pos e2] at h8
        rcases h4 k h8.1 with h9 | h9
        · exact h.ss j i hj hi e k h7 h9
        · have := (h.own j hj k (.inl h7)).2.1; omega
      · rw [if_neg e2] at h8; exact h.ss j l hj hl hne k h7 h8
  · by_cases e : j = i
    · rw [if_pos e] at h7
      rw [if_neg (by omega)] at h8
      rcases h5 k h7.1 with h9 | h9
      · exact h.rr i l hi hl (by omega) k h9 h8
      · have := (h.own l hl k (.inr h8)).2.1; omega
    · rw [if_neg e] at h7
      by_cases e2 : l = i
      · rw [if_pos e2] at h8
        rcases h5 k h8.1 with h9 | h9
        · exact h.rr j i hj hi e k h7 h9
        · have := (h.own j hj k (.inr h7)).2.1; omega
      · rw [if_neg e2] at h8; exact h.rr j l hj hl hne k h7 h8
  · by_cases e : j = i
    · rw [if_pos e, if_pos e] at h7
      have h9 : (S i k ∨ R i k) ∨ W.heap.size ≤ k := by
        rcases h7 with h7 | h7
        · exact (h4 k h7.1).imp .inl id
        · exact (h5 k h7.1).imp .inr id
      have h10 : k < W'.heap.size := h7.elim (·.2) (·.2)
      rcases h9 with h9 | h9
      · have := h.own i hi k h9; exact ⟨this.1, h10, this.2.2⟩
      · exact ⟨by omega, h10, by omega, by omega⟩
    · rw [if_neg e, if_neg e] at h7
      have := h.own j hj k h7
      exact ⟨this.1, by omega, this.2.2⟩
  · by_cases e : j = i
    · rw [if_pos e]; exact Nat.le_trans h6 (Nat.succ_le_succ (h.len i hi))
    · rw [if_neg e]; exact Nat.le_succ_of_le (h.len j hj)
end
end Go.Proofs.Ytijbmchgajhkeaa
