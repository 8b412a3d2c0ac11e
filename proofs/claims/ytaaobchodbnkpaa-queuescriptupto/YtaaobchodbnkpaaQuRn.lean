import Derived.WalkKit
namespace Go.Proofs.Ytaaobchodbnkpaa.Qe
section
variable {α : Type}
/-- A room X in which, from f on and round, the m things of l stand. -/
structure Rn (X : List α) (f m : Nat) (l : List α) : Prop where
  len : l.length = m
  le : m ≤ X.length
  fst : f < X.length ∨ (X = [] ∧ f = 0)
  at_ : ∀ i x, l[i]? = some x → X[(f + i) % X.length]? = some x
theorem Rn.nil : Rn ([] : List α) 0 0 [] := ⟨rfl, Nat.le_refl _, Or.inr ⟨rfl, rfl⟩, fun i x h => by simp at h⟩
theorem Rn.flt {X : List α} {f m : Nat} {l : List α} (h : Rn X f m l) (hm : 0 < m) : f < X.length := by
  have := h.le
  rcases h.fst with h | ⟨h, _⟩
  · exact h
  · subst h; simp at this; omega
theorem Rn.fle {X : List α} {f m : Nat} {l : List α} (h : Rn X f m l) : f ≤ X.length := by
  rcases h.fst with h | ⟨h, h2⟩
  · omega
  · omega
theorem mod_small {a n : Nat} (h : a < n) : a % n = a := Nat.mod_eq_of_lt h
theorem mod_round {a n : Nat} (h1 : n ≤ a) (h2 : a < 2 * n) : a % n = a - n := by
  rw [Nat.mod_eq_sub_mod h1, Nat.mod_eq_of_lt (by omega)]
/-- What is cut out of it. -/
theorem Rn.cut {X : List α} {f m : Nat} {l : List α} (h : Rn X f m l) : (X.drop f).take (min (f + m) X.length - f) ++ X.take (m - (min (f + m) X.length - f)) = l := by
  have hl := h.len
  have hle := h.le
  have hf := h.fle
  apply List.ext_getElem?
  intro i
  by_cases hi : i < m
  · obtain ⟨x, hx⟩ : ∃ x, l[i]? = some x := ⟨l[i]'(by omega), by simp⟩
    have hX := h.at_ i x hx
    have hfl := h.flt (by omega)
    rw [hx]
    by_cases hc : i < min (f + m) X.length - f
    · rw [List.getElem?_append_left (by simp; omega), List.getElem?_take, if_pos hc, List.getElem?_drop]
      rwa [mod_small (by omega)] at hX
    · have h1 : ((X.drop f).take (min (f + m) X.length - f)).length = min (f + m) X.length - f := by simp; omega
      rw [List.getElem?_append_right (by omega), h1, List.getElem?_take, if_pos (by omega)]
      rw [mod_round (by omega) (by omega)] at hX
      rw [← hX]
      congr 1
      omega
  · rw [List.getElem?_eq_none (by simp; omega), List.getElem?_eq_none (by omega)]
theorem Rn.parts {X : List α} {f m : Nat} {l : List α} (h : Rn X f m l) : (X.drop f).take (min (f + m) X.length - f) = l.take (min (f + m) X.length - f) ∧ X.take (m - (min (f + m) X.length - f)) = l.drop (min (f + m) X.length - f) ∧ min (f + m) X.length - f ≤ m := by
  have hc := h.cut
  have hf := h.fle
  have h1 : ((X.drop f).take (min (f + m) X.length - f)).length = min (f + m) X.length - f := by simp; omega
  refine ⟨?_, ?_, by omega⟩
  · conv => rhs; rw [← hc]
    rw [List.take_append_of_le_length (Nat.le_of_eq h1.symm)]
    exact (List.take_of_length_le (Nat.le_of_eq h1)).symm
  · conv => rhs; rw [← hc]
    rw [List.drop_append_of_le_length (by omega), List.drop_of_length_le (by omega), List.nil_append]
/-- A new room. -/
theorem Rn.made {l Z : List α} : Rn (l ++ Z) 0 l.length l := by
  refine ⟨rfl, by simp, ?_, fun i x hx => ?_⟩
  · by_cases e : 0 < (l ++ Z).length
    · exact Or.inl e
    · exact Or.inr ⟨List.eq_nil_of_length_eq_zero (by omega), rfl⟩
  · have hi := (List.getElem?_eq_some_iff.1 hx).1
    rw [Nat.zero_add, mod_small (by simp; omega), List.getElem?_append_left hi]
    exact hx
/-- One more. -/
theorem Rn.put {X : List α} {f m : Nat} {l : List α} (h : Rn X f m l) (hm : m < X.length) (x : α) : Rn (X.set ((f + m) % X.length) x) f (m + 1) (l ++ [x]) := by
  have hl := h.len
  have hf : f < X.length := by
    rcases h.fst with h | ⟨h, _⟩
    · exact h
    · subst h; simp at hm
  have hmod : (f + m) % X.length < X.length := Nat.mod_lt _ (by omega)
  refine ⟨by simp [hl], by rw [List.length_set]; exact hm, Or.inl (by simpa using hf), fun i y hy => ?_⟩
  rw [List.length_set]
  by_cases hi : i < m
  · rw [List.getElem?_append_left (by omega)] at hy
    have hX := h.at_ i y hy
    rw [List.getElem?_set_ne]
    · exact hX
    · intro e
      by_cases c1 : f + m < X.length
      · rw [mod_small c1, mod_small (by omega)] at e
        omega
      · rw [mod_round (a := f + m) (by omega) (by omega)] at e
        by_cases c2 : f + i < X.length
        · rw [mod_small c2] at e
          omega
        · rw [mod_round (a := f + i) (by omega) (by omega)] at e
          omega
  · have hlt := (List.getElem?_eq_some_iff.1 hy).1
    simp at hlt
    have : i = m := by omega
    subst this
    rw [List.getElem?_append_right (by omega)] at hy
    rw [show i - l.length = 0 by omega] at hy
    simp at hy
    subst hy
    rw [List.getElem?_set_self hmod]
/-- The first one goes out. -/
theorem Rn.take {X : List α} {f m : Nat} {x : α} {l : List α} (h : Rn X f m (x :: l)) (z : α) : X[f]? = some x ∧ Rn (X.set f z) ((f + 1) % X.length) (m - 1) l := by
  have hl := h.len
  simp at hl
  have hle := h.le
  have hf := h.flt (by omega)
  have h0 := h.at_ 0 x (by simp)
  rw [Nat.add_zero, mod_small hf] at h0
  have hm1 : (f + 1) % X.length < X.length := Nat.mod_lt _ (by omega)
  refine ⟨h0, by omega, by simp; omega, Or.inl (by simpa using hm1), fun i y hy => ?_⟩
  have hi := (List.getElem?_eq_some_iff.1 hy).1
  have hX := h.at_ (i + 1) y (by simpa using hy)
  rw [List.length_set]
  have e1 : ((f + 1) % X.length + i) % X.length = (f + (i + 1)) % X.length := by
    rw [Nat.mod_add_mod]
    congr 1
    omega
  rw [e1, List.getElem?_set_ne]
  · exact hX
  · intro e
    by_cases c : f + (i + 1) < X.length
    · rw [mod_small c] at e
      omega
    · rw [mod_round (by omega) (by omega)] at e
      omega
end
end Go.Proofs.Ytaaobchodbnkpaa.Qe
