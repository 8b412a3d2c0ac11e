import Derived.Test.YtcdmgclkgojgaaaPoNewI
namespace Go.Proofs.Ytcdmgclkgojgaaa.Pi
open Go.RowKit Go.Sort

theorem sumTo_one {g g' : Nat → Nat} {i : Nat} (h : ∀ j, j ≠ i → g' j = g j) : ∀ n, (i < n → sumTo g' n + g i = sumTo g n + g' i) ∧ (n ≤ i → sumTo g' n = sumTo g n) := by
  intro n
  induction n with
  | zero => exact ⟨fun h => absurd h (Nat.not_lt_zero _), fun _ => rfl⟩
  | succ n ih =>
    constructor
    · intro hi
      rw [sumTo, sumTo]
      by_cases e : i = n
      · subst e
        have := ih.2 (Nat.le_refl _)
        omega
      · have h1 := ih.1 (by omega)
        have h2 := h n (fun q => e q.symm)
        omega
    · intro hi
      rw [sumTo, sumTo, ih.2 (by omega), h n (by omega)]
theorem sumTo_zero {g : Nat → Nat} (h : ∀ j, g j = 0) (n : Nat) : sumTo g n = 0 := by
  induction n with
  | zero => rfl
  | succ n ih => rw [sumTo, ih, h n]
theorem sumTo_congr {g g' : Nat → Nat} (h : ∀ j, g j = g' j) (n : Nat) : sumTo g n = sumTo g' n := by
  rw [show g = g' from funext h]
theorem nm_inj {W : Nat} {f t f' t' : Int} (h8 : W ≤ 8) (h : Lnk W f t) (h' : Lnk W f' t') (e : nm f t = nm f' t') : f = f' ∧ t = t' := by
  obtain ⟨⟨a1, a2⟩, ⟨a3, a4⟩, _⟩ := h
  obtain ⟨⟨b1, b2⟩, ⟨b3, b4⟩, _⟩ := h'
  unfold nm at e
  omega
theorem ln_upd {W : Nat} {Q : Nat → List Th} {f t : Int} (h8 : W ≤ 8) (h : Lnk W f t) (l : List Th) (f' t' : Int) : ln W (upd Q (nm f t) l) f' t' = if f' = f ∧ t' = t then l.length else ln W Q f' t' := by
  unfold ln
  by_cases hk : Lnk W f' t'
  · rw [if_pos hk, if_pos hk]
    by_cases e : f' = f ∧ t' = t
    · rw [if_pos e, e.1, e.2, upd_self]
    · rw [if_neg e, upd_ne]
      intro e2
      exact e (nm_inj h8 hk h e2)
  · rw [if_neg hk, if_neg hk, if_neg]
    rintro ⟨rfl, rfl⟩
    exact hk h
theorem tot_upd {W : Nat} {Q : Nat → List Th} {f t : Int} (h8 : W ≤ 8) (h : Lnk W f t) (l : List Th) : tot W (upd Q (nm f t) l) + (Q (nm f t)).length = tot W Q + l.length := by
  have hk := h
  obtain ⟨⟨a1, a2⟩, ⟨a3, a4⟩, _⟩ := h
  obtain ⟨F, rfl⟩ : ∃ F : Nat, f = F := ⟨f.toNat, by omega⟩
  obtain ⟨T, rfl⟩ : ∃ T : Nat, t = T := ⟨t.toNat, by omega⟩
  have hln : (Q (nm F T)).length = ln W Q F T := by unfold ln; rw [if_pos hk]
  have e1 : ∀ j : Nat, j ≠ F → sumTo (fun t : Nat => ln W (upd Q (nm F T) l) j t) W = sumTo (fun t : Nat => ln W Q j t) W := fun j hj => sumTo_congr (fun q => by rw [ln_upd h8 hk, if_neg]; rintro ⟨e, _⟩; exact hj (by omega)) W
  have e2 := (sumTo_one (g := fun f : Nat => sumTo (fun t : Nat => ln W Q f t) W) (g' := fun f : Nat => sumTo (fun t : Nat => ln W (upd Q (nm F T) l) f t) W) (i := F) e1 W).1 (by omega)
  have e3 := (sumTo_one (g := fun t : Nat => ln W Q F t) (g' := fun t : Nat => ln W (upd Q (nm F T) l) F t) (i := T) (fun j hj => by rw [ln_upd h8 hk, if_neg]; rintro ⟨_, e⟩; exact hj (by omega)) W).1 (by omega)
  have e4 : ln W (upd Q (nm F T) l) F T = l.length := by rw [ln_upd h8 hk, if_pos ⟨rfl, rfl⟩]
  unfold tot
  rw [hln]
  omega
theorem tot_ptn {W : Nat} {Q : Nat → List Th} {f t : Int} (h8 : W ≤ 8) (h : Lnk W f t) (x : Th) : tot W (ptn W Q f t x) = tot W Q + 1 := by
  unfold ptn
  rw [if_pos h]
  have := tot_upd (Q := Q) h8 h (Q (nm f t) ++ [x])
  rw [List.length_append] at this
  simp at this
  omega
theorem tot_tkn {W : Nat} {Q : Nat → List Th} {f t : Int} (h8 : W ≤ 8) (h : Lnk W f t) (hn : Q (nm f t) ≠ []) : tot W (tkn W Q f t) + 1 = tot W Q := by
  unfold tkn
  rw [if_pos h]
  have := tot_upd (Q := Q) h8 h (Q (nm f t)).tail
  cases hq : Q (nm f t) with
  | nil => exact absurd hq hn
  | cons x l =>
    rw [hq] at this
    simp at this
    simp
    omega
theorem tot_le {W N : Nat} {Q : Nat → List Th} (h8 : W ≤ 8) (h : ∀ f t : Int, ln W Q f t ≤ N) : tot W Q ≤ 64 * N := by
  have h1 : ∀ F : Nat, sumTo (fun t : Nat => ln W Q F t) W ≤ 8 * N := fun F => Nat.le_trans (sumTo_le _ N (fun i => h _ _) W) (Nat.mul_le_mul_right _ h8)
  refine Nat.le_trans (sumTo_le _ (8 * N) h1 W) ?_
  have : W * (8 * N) ≤ 8 * (8 * N) := Nat.mul_le_mul_right _ h8
  omega
theorem ln_nil {W : Nat} {Q : Nat → List Th} (h8 : W ≤ 8) (h : ∀ i, i < 64 → Q i = []) (f t : Int) : ln W Q f t = 0 := by
  unfold ln
  by_cases hk : Lnk W f t
  · rw [if_pos hk, h _ (nm_lt hk h8)]; rfl
  · rw [if_neg hk]
theorem tot_nil {W : Nat} {Q : Nat → List Th} (h8 : W ≤ 8) (h : ∀ i, i < 64 → Q i = []) : tot W Q = 0 := by
  unfold tot
  exact sumTo_zero (fun f => sumTo_zero (fun t => ln_nil h8 h _ _) _) _
theorem bsR_nil {g : Nat → Nat → Nat} (h : ∀ f t, g f t = 0) (F n : Nat) : bsR g F n = [] := by
  induction n with
  | zero => rfl
  | succ n ih => rw [bsR, ih, h, if_neg (Nat.lt_irrefl 0)]; rfl
theorem bsA_nil {g : Nat → Nat → Nat} (h : ∀ f t, g f t = 0) (W n : Nat) : bsA g W n = [] := by
  induction n with
  | zero => rfl
  | succ n ih => rw [bsA, ih, bsR_nil h]; rfl
theorem bsy_nil {W : Nat} {Q : Nat → List Th} (h8 : W ≤ 8) (h : ∀ i, i < 64 → Q i = []) : bsy W Q = [] := by
  unfold bsy
  exact bsA_nil (fun f t => ln_nil h8 h _ _) _ _
end Go.Proofs.Ytcdmgclkgojgaaa.Pi
