import Derived.Test.YtifjjnnpoleinaaKInt
import Derived.Test.YtifjjnnpoleinaaGHang
namespace Go.Proofs.Ytifjjnnpoleinaa.Df
open Go.RowKit Go.Sort

/-- A slice as an element. -/
structure LV where
  q : Option Addr
  m : Nat
  c : Nat
abbrev LV.v (x : LV) : Value := .slice x.q x.m x.c
def EL : El LV where
  k := 1
  enc x := [x.v]
  len _ := rfl
  one x u hu := by
    simp at hu
    subst hu
    rfl
theorem ls_atL {w : World} {v : Value} {ts : List LV} (h : Ls EL w v ts) {j : Nat} {x : LV} (hj : ts[j]? = some x) : ∃ b off c, v = .slice (some ⟨b, off, none⟩) ts.length c ∧ b < w.heap.size ∧ w.cell? ⟨b, off + j, none⟩ = some x.v := by
  obtain ⟨b, off, c, hv, hb, hc⟩ := h.get hj
  have h0 := hc 0 _ (by decide) rfl
  simp only [show EL.k = 1 from rfl, Nat.mul_one, Nat.add_zero] at h0
  exact ⟨b, off, c, hv, hb, h0⟩
/-- Lists of numbers, one behind the other, that are read. -/
def Ff (M : Nat) (w : World) (v : Value) (ls : List (List Int)) : Prop := ∃ vs : List LV, Lz EL M w v vs ∧ vs.length = ls.length ∧ ∀ (i : Nat) (x : LV) (l : List Int), vs[i]? = some x → ls[i]? = some l → Lz EI M w x.v l
section
variable {M : Nat} {w w' : World} {v : Value} {ls : List (List Int)}
theorem Ff.form (h : Ff M w v ls) : ∃ p c, v = .slice p ls.length c := by
  obtain ⟨vs, h1, h2, _⟩ := h
  rw [← h2]
  exact h1.form
theorem Ff.below (h : Ff M w v ls) (hb : Below w.heap.size w w') : Ff M w' v ls := by
  obtain ⟨vs, h1, h2, h3⟩ := h
  exact ⟨vs, h1.below hb, h2, fun i x l hx hl => (h3 i x l hx hl).below hb⟩
theorem Ff.at (h : Ff M w v ls) {i : Nat} {l : List Int} (hl : ls[i]? = some l) : ∃ b off c q c2, v = .slice (some ⟨b, off, none⟩) ls.length c ∧ b < w.heap.size ∧ w.cell? ⟨b, off + i, none⟩ = some (.slice q l.length c2) ∧ Lz EI M w (.slice q l.length c2) l := by
  obtain ⟨vs, h1, h2, h3⟩ := h
  have hi := (List.getElem?_eq_some_iff.1 hl).1
  obtain ⟨x, hx⟩ : ∃ x, vs[i]? = some x := ⟨vs[i]'(by omega), by simp⟩
  have hz := h3 i x l hx hl
  obtain ⟨b, off, c, hv, hb, hc⟩ := ls_atL (h1.ls hx) hx
  obtain ⟨q, c2, hq⟩ := hz.form
  rw [hq] at hc hz
  exact ⟨b, off, c, q, c2, by rw [hv, h2], hb, hc, hz⟩
end
/-- How often a number stands in lists. -/
def cntL (ls : List (List Int)) (x : Int) : Nat := (ls.map fun l => l.count x).sum
theorem cntL_append (a b : List (List Int)) (x : Int) : cntL (a ++ b) x = cntL a x + cntL b x := by simp [cntL]
theorem cntL_one (l : List Int) (x : Int) : cntL [l] x = l.count x := by simp [cntL]
end Go.Proofs.Ytifjjnnpoleinaa.Df
