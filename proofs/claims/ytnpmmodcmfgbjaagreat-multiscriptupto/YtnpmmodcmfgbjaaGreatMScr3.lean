import Derived.Test.YtnpmmodcmfgbjaaGreatMRapQ
namespace Go.Proofs.YtnpmmodcmfgbjaaGreat
open Go.RowKit Go.Sort

section
variable {w0 W : World} {m nT nU nD : Nat} {M : Nat → Ml} {R : Nat → Rd} {VT VU VD VX : Nat → Value} {CT CU : Nat → List Tm} {CD : Nat → List Dl} {ow : Nat → Nat} {sM sR : Value} {kb : Nat} {sT sU sD sX : Value} {w2 w3 w4 w7 w8 w10 : World} {i g : Nat}
/-- What stands ahead of the book's appends. -/
theorem Scr.mid (h : Scr w0 W m nT nU nD M R VT VU VD VX CT CU CD ow sM sR kb sT sU sD sX) (hi : i < m) (b2 : Below W.heap.size W w2) (hgW : W.heap.size ≤ g)
    (k3 : Kp (fun k => k = (M i).b ∨ k = (M i).cb ∨ (M i).v.ownBlock = some k) w2 w3) (k4 : Kp (fun k => k = (R i).r.b) w3 w4) (k7 : Kp (fun k => k = g) w4 w7) : Kp (fun k => ow k = 3 + 2 * i ∨ ow k = 4 + 2 * i) W w7 := by
  obtain ⟨-, -, hM⟩ := h.mu i hi
  obtain ⟨-, hR, -⟩ := h.rm i hi
  refine (((Kp.of_below b2).trans k3 (fun q _ e => Or.inl (hM q ?_))).trans k4 (fun q _ e => Or.inr (hR q (Or.inl e)))).trans k7 (fun q hq e => by omega)
  rcases e with e | e | e
  · exact Or.inr (Or.inr (Or.inl e))
  · exact Or.inr (Or.inr (Or.inr (Or.inl e)))
  · exact Or.inr (Or.inr (Or.inr (Or.inr e)))
theorem Scr.mid_bk (h : Scr w0 W m nT nU nD M R VT VU VD VX CT CU CD ow sM sR kb sT sU sD sX) (hi : i < m) (k : Kp (fun k => ow k = 3 + 2 * i ∨ ow k = 4 + 2 * i) W w7) :
    w7.heap[kb]? = some (.cells #[sT, sU, sD, sX] 34 (0, 0)) ∧ w7.ownsRow 0 38 1 sD nD ((List.range nD).map VD) ∧ w7.ownsRow 0 38 1 sX nD ((List.range nD).map VX) := by
  have h5 := h.five
  exact ⟨(k.block kb h.kbl (fun e => by rw [h.bk.2] at e; omega)).trans h.bk.1, owns_kp k h.bD.1 (fun q hq e => by rw [h.bD.2 q hq] at e; omega), owns_kp k h.bX.1 (fun q hq e => by rw [h.bX.2 q hq] at e; omega)⟩
theorem Scr.mid_bk2 (h : Scr w0 W m nT nU nD M R VT VU VD VX CT CU CD ow sM sR kb sT sU sD sX) (hi : i < m) (k : Kp (fun k => ow k = 3 + 2 * i ∨ ow k = 4 + 2 * i) W w7) (k8 : Kp (fun q => sD.ownBlock = some q) w7 w8) (sD' : Value) :
    w8.heap[kb]? = some (.cells #[sT, sU, sD, sX] 34 (0, 0)) ∧ (w8.setCell ⟨kb, 2, none⟩ sD').ownsRow 0 38 1 sX nD ((List.range nD).map VX) := by
  obtain ⟨h1, _, h3⟩ := h.mid_bk hi k
  have hkb : kb < w7.heap.size := (Array.getElem?_eq_some_iff.1 h1).1
  have h8 : w8.heap[kb]? = some (.cells #[sT, sU, sD, sX] 34 (0, 0)) := (k8.block kb hkb (fun e => by have := h.bD.2 kb e; rw [h.bk.2] at this; omega)).trans h1
  refine ⟨h8, owns_kp (book_set h8 2 sD').2 (owns_kp k8 h3 (fun q hq e => ?_)) (fun q hq e => ?_)⟩
  · have a1 := h.bX.2 q hq; have a2 := h.bD.2 q e; omega
  · have a1 := h.bX.2 q hq; rw [e, h.bk.2] at a1; omega
theorem Scr.mid_bk3 (h : Scr w0 W m nT nU nD M R VT VU VD VX CT CU CD ow sM sR kb sT sU sD sX) {sD' : Value} (h8 : w8.heap[kb]? = some (.cells #[sT, sU, sD, sX] 34 (0, 0))) (k10 : Kp (fun q => sX.ownBlock = some q) (w8.setCell ⟨kb, 2, none⟩ sD') w10) :
    w10.heap[kb]? = some (.cells #[sT, sU, sD', sX] 34 (0, 0)) := by
  have h9 := (book_set h8 2 sD').1
  exact (k10.block kb (Array.getElem?_eq_some_iff.1 h9).1 (fun e => by have := h.bX.2 kb e; rw [h.bk.2] at this; omega)).trans h9
/-- Behind applied. -/
theorem Scr.applied (h : Scr w0 W m nT nU nD M R VT VU VD VX CT CU CD ow sM sR kb sT sU sD sX) (hi : i < m) {M' : Ml} {R' : Rd} {vo wt sD' sX' : Value} {d : List Dl}
    (b2 : Below W.heap.size W w2) (hgW : W.heap.size ≤ g) (hg2 : g < w2.heap.size)
    (same : M'.mb = (M i).mb ∧ M'.tb = (M i).tb ∧ M'.b = (M i).b ∧ M'.cb = (M i).cb) (hm3 : M'.ok w3) (hF : IsFr M'.f M'.fr) (hvo : w3.ownsRow w2.heap.size 54 4 vo d.length (fl ED d))
    (k3 : Kp (fun k => k = (M i).b ∨ k = (M i).cb ∨ (M i).v.ownBlock = some k) w2 w3) (hv' : ∀ q, M'.v.ownBlock = some q → (M i).v.ownBlock = some q ∨ w2.heap.size ≤ q) (hvv : ∀ q, M'.v.ownBlock = some q → vo.ownBlock ≠ some q)
    (hrb : R'.r.b = (R i).r.b) (hr4 : R'.ok w4) (hc : cn R'.T R'.N = M'.f) (hwt : w4.ownsRow w3.heap.size 54 4 wt d.length (fl ED d)) (k4 : Kp (fun k => k = (R i).r.b) w3 w4) (hR' : ∀ k, R'.r.own k → (R i).r.own k ∨ w3.heap.size ≤ k) (hrw : ∀ q, R'.r.own q → wt.ownBlock ≠ some q)
    (k7 : Kp (fun k => k = g) w4 w7) (k8 : Kp (fun q => sD.ownBlock = some q) w7 w8) (hD : w8.ownsRow 0 38 1 sD' (nD + 1) ((List.range nD).map VD ++ [vo])) (hDl : ∀ q, sD'.ownBlock = some q → sD.ownBlock = some q ∨ w7.heap.size ≤ q)
    (k10 : Kp (fun q => sX.ownBlock = some q) (w8.setCell ⟨kb, 2, none⟩ sD') w10) (hX : w10.ownsRow 0 38 1 sX' (nD + 1) ((List.range nD).map VX ++ [wt])) (hXl : ∀ q, sX'.ownBlock = some q → sX.ownBlock = some q ∨ w8.heap.size ≤ q) :
    ∃ V1 V2 C' ow', (∀ p, p < nD → C' p = CD p) ∧ C' nD = d ∧ Scr w0 (w10.setCell ⟨kb, 3, none⟩ sX') m nT nU (nD + 1) (fun j => if j = i then M' else M j) (fun j => if j = i then R' else R j) VT VU V1 V2 CT CU C' ow' sM sR kb sT sU sD' sX' := by
  have h5 := h.five
  obtain ⟨hmu, -, hMt⟩ := h.mu i hi
  obtain ⟨hrm, hRt, -⟩ := h.rm i hi
  have K7 := h.mid hi b2 hgW k3 k4 k7
  obtain ⟨h8, -⟩ := h.mid_bk2 hi K7 k8 sD'
  have h10 := h.mid_bk3 h8 k10
  have z2 := b2.size
  have z3 := k3.size
  have z4 := k4.size
  have z7 := k7.size
  have z8 := k8.size
  have kS9 := (book_set h8 2 sD').2
  have kS11 := (book_set h10 3 sX').2
  have z10 : w8.heap.size ≤ w10.heap.size := Nat.le_trans kS9.size k10.size
  have hkbW := h.kbl
  have dl : ∀ q, sD.ownBlock = some q → q < W.heap.size ∧ ow q = 17 := fun q hq => ⟨owns_lt h.bD.1 q hq, h.bD.2 q hq⟩
  have xl : ∀ q, sX.ownBlock = some q → q < W.heap.size ∧ ow q = 18 := fun q hq => ⟨owns_lt h.bX.1 q hq, h.bX.2 q hq⟩
  have hMo : ∀ k, M'.own k → (k < W.heap.size ∧ ow k = 3 + 2 * i) ∨ (w2.heap.size ≤ k ∧ M'.v.ownBlock = some k) := fun k hk => by
    have old : (M i).own k → k < W.heap.size ∧ ow k = 3 + 2 * i := fun e => ⟨Ml.lt hmu k e, hMt k e⟩
    rcases hk with e | e | e | e | e
    · exact Or.inl (old (Or.inl (e.trans same.1)))
    · exact Or.inl (old (Or.inr (Or.inl (e.trans same.2.1))))
    · exact Or.inl (old (Or.inr (Or.inr (Or.inl (e.trans same.2.2.1)))))
    · exact Or.inl (old (Or.inr (Or.inr (Or.inr (Or.inl (e.trans same.2.2.2))))))
    · rcases hv' k e with h1 | h1
      · exact Or.inl (old (Or.inr (Or.inr (Or.inr (Or.inr h1)))))
      · exact Or.inr ⟨h1, e⟩
  have hRo : ∀ k, R'.r.own k → (k < W.heap.size ∧ ow k = 4 + 2 * i) ∨ w3.heap.size ≤ k := fun k hk => (hR' k hk).imp (fun e => ⟨hrm.own_lt k e, hRt k e⟩) id
  have hrbo : (R i).r.b < W.heap.size ∧ ow (R i).r.b = 4 + 2 * i := ⟨hrm.lt, hRt _ (Or.inl rfl)⟩
  have K11 : Kp (fun q => (q < W.heap.size ∧ (ow q = 2 ∨ ow q = 17 ∨ ow q = 18))) w7 (w10.setCell ⟨kb, 3, none⟩ sX') := by
    have kbt : kb < W.heap.size ∧ (ow kb = 2 ∨ ow kb = 17 ∨ ow kb = 18) := ⟨hkbW, Or.inl h.bk.2⟩
    refine (((⟨k8.os, k8.tape, k8.output, k8.size, fun q hq hn => k8.block q hq (fun e => hn ⟨(dl q e).1, Or.inr (Or.inl (dl q e).2)⟩)⟩ : Kp (fun q => (q < W.heap.size ∧ (ow q = 2 ∨ ow q = 17 ∨ ow q = 18))) w7 w8).trans kS9 (fun q _ e => by rw [e]; exact kbt)).trans k10 (fun q _ e => ⟨(xl q e).1, Or.inr (Or.inr (xl q e).2)⟩)).trans kS11 (fun q _ e => by rw [e]; exact kbt)
  have rowOf : ∀ {e : TypeId} {s n : Nat} {u : Value} {xs : List Value} {lo : Nat}, W.heap.size ≤ lo → w7.ownsRow lo e s u n xs → (w10.setCell ⟨kb, 3, none⟩ sX').ownsRow 0 e s u n xs := fun hlo ho =>
    owns_base (owns_kp K11 ho (fun q hq e => by have := (ho.lt q hq).1; omega)) (Nat.zero_le _)
  have hvo7 : w7.ownsRow w2.heap.size 54 4 vo d.length (fl ED d) := owns_kp k7 (owns_kp k4 hvo (fun q hq e => by have := (hvo.lt q hq).1; omega)) (fun q hq e => by have := (hvo.lt q hq).1; omega)
  have hwt7 : w7.ownsRow w3.heap.size 54 4 wt d.length (fl ED d) := owns_kp k7 hwt (fun q hq e => by have := (hwt.lt q hq).1; omega)
  have hm7 : M'.ok w7 := Ml.kp (Ml.kp hm3 k4 (fun k hk e => by
    rcases hMo k hk with h1 | h1
    · rw [e] at h1; omega
    · omega)) k7 (fun k hk e => by
    rcases hMo k hk with h1 | h1
    · omega
    · omega)
  have hr7 : R'.ok w7 := hr4.kp k7 (fun k hk e => by
    rcases hRo k hk with h1 | h1
    · omega
    · omega)
  have vl := fun q (e : vo.ownBlock = some q) => hvo.lt q e
  have wl := fun q (e : wt.ownBlock = some q) => hwt.lt q e
  obtain ⟨nw, hnw⟩ : ∃ nw : Nat → Nat, nw = fun k => open Classical in if M'.v.ownBlock = some k then 3 + 2 * i else if R'.r.own k then 4 + 2 * i else if vo.ownBlock = some k then 22 + 4 * nD else if wt.ownBlock = some k then 23 + 4 * nD else if sD'.ownBlock = some k then 17 else 18 := ⟨_, rfl⟩
  have mvl : ∀ k, M'.v.ownBlock = some k → k < w3.heap.size := fun k hk => hm3.ch.row k hk
  have rl : ∀ k, R'.r.own k → k < w4.heap.size := fun k hk => hr4.own_lt k hk
  refine h.apply hi nw (Ml.kp hm7 K11 (fun k hk e => ?_)) hF same.1 (fun k hk => ?_) (hr7.kp K11 (fun k hk e => ?_)) hc hrb (fun k hk => ?_) (book_set h10 3 sX').1 ?_ (fun k hk => ?_) ?_ (fun k hk => ?_) (rowOf z2 hvo7) (fun k hk => ?_) (rowOf (Nat.le_trans z2 z3) hwt7) (fun k hk => ?_) ?_
  · rcases hMo k hk with h1 | h1
    · omega
    · omega
  · rcases hMo k hk with h1 | h1
    · exact Or.inl h1
    · refine Or.inr ⟨by omega, ?_⟩
      rw [hnw]; simp only [if_pos h1.2]
  · rcases hRo k hk with h1 | h1
    · omega
    · omega
  · rcases hRo k hk with h1 | h1
    · exact Or.inl h1
    · refine Or.inr ⟨by omega, ?_⟩
      have n1 : ¬ M'.v.ownBlock = some k := fun e => by have := mvl k e; omega
      rw [hnw]; simp only [if_neg n1, if_pos hk]
  · refine owns_kp kS11 (owns_kp k10 (owns_kp kS9 hD (fun q hq e => ?_)) (fun q hq e => ?_)) (fun q hq e => ?_)
    · rcases hDl q hq with h1 | h1
      · have := (dl q h1).2; rw [e, h.bk.2] at this; omega
      · omega
    · rcases hDl q hq with h1 | h1
      · have := (dl q h1).2; have := (xl q e).2; omega
      · have := (xl q e).1; omega
    · rcases hDl q hq with h1 | h1
      · have := (dl q h1).2; rw [e, h.bk.2] at this; omega
      · omega
  · rcases hDl k hk with h1 | h1
    · exact Or.inl (dl k h1)
    · refine Or.inr ⟨by omega, ?_⟩
      have n1 : ¬ M'.v.ownBlock = some k := fun e => by have := mvl k e; omega
      have n2 : ¬ R'.r.own k := fun e => by have := rl k e; omega
      have n3 : ¬ vo.ownBlock = some k := fun e => by have := vl k e; omega
      have n4 : ¬ wt.ownBlock = some k := fun e => by have := wl k e; omega
      rw [hnw]; simp only [if_neg n1, if_neg n2, if_neg n3, if_neg n4, if_pos hk]
  · exact owns_kp kS11 hX (fun q hq e => by
      rcases hXl q hq with h1 | h1
      · have := (xl q h1).2; rw [e, h.bk.2] at this; omega
      · omega)
  · rcases hXl k hk with h1 | h1
    · exact Or.inl (xl k h1)
    · refine Or.inr ⟨by omega, ?_⟩
      have n1 : ¬ M'.v.ownBlock = some k := fun e => by have := mvl k e; omega
      have n2 : ¬ R'.r.own k := fun e => by have := rl k e; omega
      have n3 : ¬ vo.ownBlock = some k := fun e => by have := vl k e; omega
      have n4 : ¬ wt.ownBlock = some k := fun e => by have := wl k e; omega
      have n5 : ¬ sD'.ownBlock = some k := fun e => by have := (hD.lt k e).2; omega
      rw [hnw]; simp only [if_neg n1, if_neg n2, if_neg n3, if_neg n4, if_neg n5]
  · have a := vl k hk
    refine ⟨by omega, ?_⟩
    have n1 : ¬ M'.v.ownBlock = some k := fun e => hvv k e hk
    have n2 : ¬ R'.r.own k := fun e => by
      rcases hRo k e with h1 | h1
      · omega
      · omega
    rw [hnw]; simp only [if_neg n1, if_neg n2, if_pos hk]
  · have a := wl k hk
    refine ⟨by omega, ?_⟩
    have n1 : ¬ M'.v.ownBlock = some k := fun e => by have := mvl k e; omega
    have n2 : ¬ R'.r.own k := fun e => hrw k e hk
    have n3 : ¬ vo.ownBlock = some k := fun e => by have := vl k e; omega
    rw [hnw]; simp only [if_neg n1, if_neg n2, if_neg n3, if_pos hk]
  · exact (⟨K7.os, K7.tape, K7.output, K7.size, fun q hq hn => K7.block q hq (fun e => hn (Or.inl e))⟩ : Kp (fun k => (ow k = 3 + 2 * i ∨ ow k = 4 + 2 * i) ∨ ow k = 2 ∨ ow k = 17 ∨ ow k = 18) W w7).trans K11 (fun q _ e => Or.inr e.2)
end
end Go.Proofs.YtnpmmodcmfgbjaaGreat
