import Derived.Test.YtijbmchgajhkeaaSuPy
namespace Go.Proofs.Ytijbmchgajhkeaa
open Go.RowKit Go.Sort Go.Maps Go.Shelf

section
variable {w W W' : World} {gs gr N M : Nat} {s r : Nat → Nat} {S R : Nat → Nat → Prop} {A : Nat → List Ct}
theorem two_cases {j : Nat} (h : j < 2) : j = 0 ∨ j = 1 := by omega
theorem Py.cellS (h : Py w gs gr N M s r S R A W) {j : Nat} (hj : j < 2) : W.cell? ⟨gs, j, none⟩ = some (.pointer (some ⟨s j, 0, none⟩)) := by
  rcases two_cases hj with rfl | rfl <;> simp [World.cell?, h.cs]
theorem Py.cellR (h : Py w gs gr N M s r S R A W) {j : Nat} (hj : j < 2) : W.cell? ⟨gr, j, none⟩ = some (.pointer (some ⟨r j, 0, none⟩)) := by
  rcases two_cases hj with rfl | rfl <;> simp [World.cell?, h.cr]
/-- Pair j becomes a copy of pair l. -/
theorem Py.copy (h : Py w gs gr N M s r S R A W) {j l sc rc : Nat} (hj : j < 2) (hl : l < 2) (hne : j ≠ l) {W1 W2 W3 W4 : World}
    (h1 : Su W1 (fun k => W.heap.size ≤ k) N sc (A l)) (b1 : Below W.heap.size W W1)
    (c2 : W2.heap[gs]? = some (.cells #[.pointer (some ⟨if 0 = j then sc else s 0, 0, none⟩), .pointer (some ⟨if 1 = j then sc else s 1, 0, none⟩)] 24 (0, 0))) (k2 : Kp (fun k => k = gs) W1 W2)
    (h3 : Rs W3 (fun k => W2.heap.size ≤ k) rc (A l)) (b3 : Below W2.heap.size W2 W3)
    (c4 : W4.heap[gr]? = some (.cells #[.pointer (some ⟨if 0 = j then rc else r 0, 0, none⟩), .pointer (some ⟨if 1 = j then rc else r 1, 0, none⟩)] 50 (0, 0))) (k4 : Kp (fun k => k = gr) W3 W4) :
    Py w gs gr N M (fun i => if i = j then sc else s i) (fun i => if i = j then rc else r i) (fun i => if i = j then (fun k => W.heap.size ≤ k ∧ k < W1.heap.size) else S i) (fun i => if i = j then (fun k => W2.heap.size ≤ k ∧ k < W3.heap.size) else R i) (fun i => if i = j then A l else A i) W4 := by
  have lgs := (Array.getElem?_eq_some_iff.1 h.cs).1
  have lgr := (Array.getElem?_eq_some_iff.1 h.cr).1
  have z0 := h.bl.size
  have z1 := b1.size
  have z2 := k2.size
  have z3 := b3.size
  have z4 := k4.size
  have hgg := h.lists.2.2
  have keep : Kp (fun k => k = gs ∨ k = gr) W W4 := (((Kp.of_below (S := fun k => k = gs ∨ k = gr) b1).trans k2 (fun k _ e => .inl e)).trans (Kp.of_below (S := fun _ => False) b3) (fun _ _ e => e.elim)).trans k4 (fun k _ e => .inr e)
  have o := h.own
  refine ⟨?_, ?_, fun i hi => ?_, fun i hi => ?_, fun i m hi hm k h7 h8 => ?_, fun i m hi hm hne' k h7 h8 => ?_, fun i m hi hm hne' k h7 h8 => ?_, fun i hi k h7 => ?_, h.lists, h.bl.trans (keep.below z0 fun k hk => hk.elim (fun e => e ▸ h.lists.1) (fun e => e ▸ h.lists.2.1)), fun i hi => ?_⟩
  · refine ((k4.block gs (by omega) hgg).trans (b3.block gs (by omega))).trans (c2.trans ?_)
    rcases two_cases hj with rfl | rfl <;> rfl
  · refine c4.trans ?_
    rcases two_cases hj with rfl | rfl <;> rfl
  · by_cases e : i = j
    · subst e
      rw [if_pos rfl, if_pos rfl, if_pos rfl]
      refine (((h1.cut).kp k2 fun k h7 h8 => ?_).below b3).kp k4 fun k h7 h8 => ?_
      · have := h7.1; omega
      · have := h7.1; omega
    · rw [if_neg e, if_neg e, if_neg e]
      exact (h.su i hi).kp keep fun k h7 h8 => h8.elim (o i hi k (.inl h7)).2.2.1 (o i hi k (.inl h7)).2.2.2
  · by_cases e : i = j
    · subst e
      rw [if_pos rfl, if_pos rfl, if_pos rfl]
      exact (h3.cut).kp k4 fun k h7 h8 => by have := h7.1; omega
    · rw [if_neg e, if_neg e, if_neg e]
      exact (h.ru i hi).kp keep fun k h7 h8 => h8.elim (o i hi k (.inr h7)).2.2.1 (o i hi k (.inr h7)).2.2.2
  · by_cases e : i = j
    · rw [if_pos e] at h7
      by_cases e2 : m = j
      · rw [if_pos e2] at h8; have := h7.2; have := h8.1; omega
      · rw [if_neg e2] at h8; have := (o m hm k (.inr h8)).2.1; have := h7.1; omega
    · rw [if_neg e] at h7
      by_cases e2 : m = j
      · rw [if_pos e2] at h8; have := (o i hi k (.inl h7)).2.1; have := h8.1; omega
      · rw [if_neg e2] at h8; exact h.sr i m hi hm k h7 h8
  · by_cases e : i = j
    · rw [if_pos e] at h7
      rw [if_neg (by omega)] at h8
      have := (o m hm k (.inl h8)).2.1; have := h7.1; omega
    · rw [if_neg e] at h7
      by_cases e2 : m = j
      · rw [if_pos e2] at h8; have := (o i hi k (.inl h7)).2.1; have := h8.1; omega
      · rw [if_neg e2] at h8; exact h.ss i m hi hm hne' k h7 h8
  · by_cases e : i = j
    · rw [if_pos e] at h7
      rw [if_neg (by omega)] at h8
      have := (o m hm k (.inr h8)).2.1; have := h7.1; omega
    · rw [if_neg e] at h7
      by_cases e2 : m = j
      · rw [if_pos e2] at h8; have := (o i hi k (.inr h7)).2.1; have := h8.1; omega
      · rw [if_neg e2] at h8; exact h.rr i m hi hm hne' k h7 h8
  · by_cases e : i = j
    · rw [if_pos e, if_pos e] at h7
      rcases h7 with h7 | h7
      · have := h7.1; have := h7.2
        exact ⟨by omega, by omega, by omega, by omega⟩
      · have := h7.1; have := h7.2
        exact ⟨by omega, by omega, by omega, by omega⟩
    · rw [if_neg e, if_neg e] at h7
      have := o i hi k h7
      exact ⟨this.1, by omega, this.2.2⟩
  · by_cases e : i = j
    · rw [if_pos e]; exact h.len l hl
    · rw [if_neg e]; exact h.len i hi
end
/-- One step of a script, as it lies. -/
structure Opx where
  k : Int
  i : Int
  t : Tm
  r : Rc
  pf : Option Addr
  nF : Nat
  cf : Nat
instance : Inhabited Opx := ⟨⟨0, 0, ⟨(0, 0, 0), by decide⟩, (⟨0, by decide⟩, ⟨0, by decide⟩), none, 0, 0⟩⟩
def EO : El Opx where
  k := 8
  enc o := [.int .i64 o.k, .int .i64 o.i, .int .u64 o.t.1.1, .int .u64 o.t.1.2.1, .int .u64 o.t.1.2.2, .int .u64 o.r.1.1, .int .u64 o.r.2.1, .slice o.pf o.nF o.cf]
  len _ := rfl
  one x u hu := by
    simp at hu
    rcases hu with rfl | rfl | rfl | rfl | rfl | rfl | rfl | rfl <;> rfl
theorem Ls.atO {w : World} {v : Value} {l : List Opx} (h : Ls EO w v l) {j : Nat} {o : Opx} (hj : l[j]? = some o) :
    ∃ b off c, v = .slice (some ⟨b, off, none⟩) l.length c ∧ b < w.heap.size ∧ w.cell? ⟨b, off + j * 8, none⟩ = some (.int .i64 o.k) ∧ w.cell? ⟨b, off + j * 8 + 1, none⟩ = some (.int .i64 o.i) ∧ w.cell? ⟨b, off + j * 8 + 2, none⟩ = some (.int .u64 o.t.1.1) ∧ w.cell? ⟨b, off + j * 8 + 3, none⟩ = some (.int .u64 o.t.1.2.1) ∧ w.cell? ⟨b, off + j * 8 + 4, none⟩ = some (.int .u64 o.t.1.2.2) ∧ w.cell? ⟨b, off + j * 8 + 5, none⟩ = some (.int .u64 o.r.1.1) ∧ w.cell? ⟨b, off + j * 8 + 6, none⟩ = some (.int .u64 o.r.2.1) ∧ w.cell? ⟨b, off + j * 8 + 7, none⟩ = some (.slice o.pf o.nF o.cf) := by
  obtain ⟨b, off, c, hv, hb, hc⟩ := h.get hj
  exact ⟨b, off, c, hv, hb, hc 0 _ (by decide) rfl, hc 1 _ (by decide) rfl, hc 2 _ (by decide) rfl, hc 3 _ (by decide) rfl, hc 4 _ (by decide) rfl, hc 5 _ (by decide) rfl, hc 6 _ (by decide) rfl, hc 7 _ (by decide) rfl⟩
/-- The lists that lie in a script's steps. -/
def Fits (w : World) (sc : List Opx) : Prop := ∀ (j : Nat) (o : Opx), sc[j]? = some o → ∃ F : List Tm, Lw ET w (.slice o.pf o.nF o.cf) F ∧ o.nF = F.length ∧ o.nF ≤ 5864062014804
end Go.Proofs.Ytijbmchgajhkeaa
