import Derived.Test.YtnpmmodcmfgbjaaGreatMCopy3
import Derived.Test.YtnpmmodcmfgbjaaGreatMSt0
namespace Go.Proofs.YtnpmmodcmfgbjaaGreat
open Go.RowKit Go.Sort

/-- All blocks of v bear the tag t. -/
def Tg (ow : Nat → Nat) (t : Nat) (v : Value) : Prop := ∀ g, v.ownBlock = some g → ow g = t
/-- Below s as it was, from s on by f. -/
def ext (ow : Nat → Nat) (s : Nat) (f : Nat → Nat) (k : Nat) : Nat := if k < s then ow k else f k
theorem ext_lt {ow : Nat → Nat} {s : Nat} {f : Nat → Nat} {k : Nat} (h : k < s) : ext ow s f k = ow k := if_pos h
theorem ext_ge {ow : Nat → Nat} {s : Nat} {f : Nat → Nat} {k : Nat} (h : s ≤ k) : ext ow s f k = f k := if_neg (Nat.not_lt.2 h)
theorem Tg.ext {ow : Nat → Nat} {s : Nat} {f : Nat → Nat} {t : Nat} {v : Value} (h : Tg ow t v) (hv : ∀ g, v.ownBlock = some g → g < s) : Tg (ext ow s f) t v := fun g hg => by rw [ext_lt (hv g hg)]; exact h g hg
theorem owns_lt {W : World} {b : Nat} {e : TypeId} {s : Nat} {v : Value} {n : Nat} {xs : List Value} (h : W.ownsRow b e s v n xs) : ∀ g, v.ownBlock = some g → g < W.heap.size := fun g hg => (h.lt g hg).2

/-- A Multi: where it lies, what it counts. -/
structure Ml where
  mb : Nat
  tb : Nat
  b : Nat
  cb : Nat
  n : Nat
  v : Value
  f : Tm → Int
  fr : List Tm
def Ml.own (m : Ml) (k : Nat) : Prop := k = m.mb ∨ k = m.tb ∨ k = m.b ∨ k = m.cb ∨ m.v.ownBlock = some k
abbrev Ml.ok (m : Ml) (W : World) : Prop := Mu W m.mb m.tb m.b m.cb m.n m.v m.f m.fr
theorem Ml.kp {m : Ml} {W W' : World} {S : Nat → Prop} (h : m.ok W) (hk : Kp S W W') (hS : ∀ k, m.own k → ¬ S k) : m.ok W' :=
  Mu.kp h hk (hS _ (Or.inl rfl)) (hS _ (Or.inr (Or.inl rfl))) (hS _ (Or.inr (Or.inr (Or.inl rfl)))) (hS _ (Or.inr (Or.inr (Or.inr (Or.inl rfl))))) (fun k e => hS k (Or.inr (Or.inr (Or.inr (Or.inr e)))))
theorem Ml.lt {m : Ml} {W : World} (h : m.ok W) : ∀ k, m.own k → k < W.heap.size := fun k hk => by
  rcases hk with rfl | rfl | rfl | rfl | hk
  · exact Mu.lt h
  · exact h.tl.lt
  · exact h.tl.ta.lt
  · exact h.ch.lt
  · exact h.ch.row k hk
/-- The document's: its block and lists, its times and counts. -/
structure Rd where
  r : Rm
  T : List Tm
  N : List Int
abbrev Rd.ok (r : Rd) (W : World) : Prop := RM W r.r r.T r.N

/-- What the script holds: each block has one owner. -/
structure Scr (w0 W : World) (m nT nU nD : Nat) (M : Nat → Ml) (R : Nat → Rd) (VT VU VD VX : Nat → Value) (CT CU : Nat → List Tm) (CD : Nat → List Dl) (ow : Nat → Nat) (sM sR : Value) (kb : Nat) (sT sU sD sX : Value) : Prop where
  mu : ∀ i, i < m → (M i).ok W ∧ IsFr (M i).f (M i).fr ∧ ∀ k, (M i).own k → ow k = 3 + 2 * i
  rm : ∀ i, i < m → (R i).ok W ∧ (∀ k, (R i).r.own k → ow k = 4 + 2 * i) ∧ cn (R i).T (R i).N = (M i).f
  ms : W.ownsRow 0 24 1 sM m ((List.range m).map fun i => .pointer (some ⟨(M i).mb, 0, none⟩)) ∧ Tg ow 0 sM
  rs : W.ownsRow 0 27 1 sR m ((List.range m).map fun i => .pointer (some ⟨(R i).r.b, 0, none⟩)) ∧ Tg ow 1 sR
  bk : W.heap[kb]? = some (.cells #[sT, sU, sD, sX] 34 (0, 0)) ∧ ow kb = 2
  bT : W.ownsRow 0 42 1 sT nT ((List.range nT).map VT) ∧ Tg ow 15 sT
  bU : W.ownsRow 0 42 1 sU nU ((List.range nU).map VU) ∧ Tg ow 16 sU
  bD : W.ownsRow 0 38 1 sD nD ((List.range nD).map VD) ∧ Tg ow 17 sD
  bX : W.ownsRow 0 38 1 sX nD ((List.range nD).map VX) ∧ Tg ow 18 sX
  pT : ∀ p, p < nT → W.ownsRow 0 37 3 (VT p) (CT p).length (flT (CT p)) ∧ Tg ow (20 + 4 * p) (VT p)
  pU : ∀ p, p < nU → W.ownsRow 0 37 3 (VU p) (CU p).length (flT (CU p)) ∧ Tg ow (21 + 4 * p) (VU p)
  pD : ∀ p, p < nD → W.ownsRow 0 54 4 (VD p) (CD p).length (fl ED (CD p)) ∧ Tg ow (22 + 4 * p) (VD p)
  pX : ∀ p, p < nD → W.ownsRow 0 54 4 (VX p) (CD p).length (fl ED (CD p)) ∧ Tg ow (23 + 4 * p) (VX p)
  old : ∀ k, k < w0.heap.size → ow k = 14
  size : w0.heap.size ≤ W.heap.size
  below : Below w0.heap.size w0 W
  five : m ≤ 5

section
variable {w0 W W' : World} {m nT nU nD : Nat} {M : Nat → Ml} {R : Nat → Rd} {VT VU VD VX : Nat → Value} {CT CU : Nat → List Tm} {CD : Nat → List Dl} {ow : Nat → Nat} {sM sR : Value} {kb : Nat} {sT sU sD sX : Value}
theorem Scr.kbl (h : Scr w0 W m nT nU nD M R VT VU VD VX CT CU CD ow sM sR kb sT sU sD sX) : kb < W.heap.size := (Array.getElem?_eq_some_iff.1 h.bk.1).1
/-- What is not turned, under new tags for new blocks. -/
theorem keep_row {A : Nat → Prop} (hk : Kp (fun k => A (ow k)) W W') (nw : Nat → Nat) {e : TypeId} {s : Nat} {u : Value} {n : Nat} {xs : List Value} {t : Nat} (ht : ¬ A t) (h : W.ownsRow 0 e s u n xs ∧ Tg ow t u) :
    W'.ownsRow 0 e s u n xs ∧ Tg (ext ow W.heap.size nw) t u :=
  ⟨owns_kp hk h.1 (fun q hq e => ht (by rw [← h.2 q hq]; exact e)), h.2.ext (owns_lt h.1)⟩
theorem Scr.keep_mu (h : Scr w0 W m nT nU nD M R VT VU VD VX CT CU CD ow sM sR kb sT sU sD sX) {A : Nat → Prop} (hk : Kp (fun k => A (ow k)) W W') (nw : Nat → Nat) {i : Nat} (hi : i < m) (ht : ¬ A (3 + 2 * i)) :
    (M i).ok W' ∧ IsFr (M i).f (M i).fr ∧ ∀ k, (M i).own k → ext ow W.heap.size nw k = 3 + 2 * i := by
  obtain ⟨h1, h2, h3⟩ := h.mu i hi
  exact ⟨Ml.kp h1 hk (fun k hk' e => ht (by rw [← h3 k hk']; exact e)), h2, fun k hk' => by rw [ext_lt (Ml.lt h1 k hk')]; exact h3 k hk'⟩
theorem Scr.keep_rm (h : Scr w0 W m nT nU nD M R VT VU VD VX CT CU CD ow sM sR kb sT sU sD sX) {A : Nat → Prop} (hk : Kp (fun k => A (ow k)) W W') (nw : Nat → Nat) {i : Nat} (hi : i < m) (ht : ¬ A (4 + 2 * i)) :
    (R i).ok W' ∧ (∀ k, (R i).r.own k → ext ow W.heap.size nw k = 4 + 2 * i) ∧ cn (R i).T (R i).N = (M i).f := by
  obtain ⟨h1, h2, h3⟩ := h.rm i hi
  exact ⟨h1.kp hk (fun k hk' e => ht (by rw [← h2 k hk']; exact e)), fun k hk' => by rw [ext_lt (h1.own_lt k hk')]; exact h2 k hk', h3⟩
theorem Scr.keep_bl (h : Scr w0 W m nT nU nD M R VT VU VD VX CT CU CD ow sM sR kb sT sU sD sX) {A : Nat → Prop} (hk : Kp (fun k => A (ow k)) W W') (h14 : ¬ A 14) : Below w0.heap.size w0 W' :=
  h.below.trans (hk.below h.size (fun k hk' => by
    rcases Nat.lt_or_ge k w0.heap.size with hlt | hge
    · exact absurd (by rw [← h.old k hlt]; exact hk') h14
    · exact hge))
theorem Scr.keep_old (h : Scr w0 W m nT nU nD M R VT VU VD VX CT CU CD ow sM sR kb sT sU sD sX) (nw : Nat → Nat) : ∀ k, k < w0.heap.size → ext ow W.heap.size nw k = 14 := fun k hk => by
  rw [ext_lt (Nat.lt_of_lt_of_le hk h.size)]; exact h.old k hk
/-- Nothing old has turned. -/
theorem Scr.kept (h : Scr w0 W m nT nU nD M R VT VU VD VX CT CU CD ow sM sR kb sT sU sD sX) (hb : Below W.heap.size W W') : Scr w0 W' m nT nU nD M R VT VU VD VX CT CU CD ow sM sR kb sT sU sD sX :=
  ⟨fun i hi => ⟨(h.mu i hi).1.below hb, (h.mu i hi).2⟩, fun i hi => ⟨(h.rm i hi).1.bel hb, (h.rm i hi).2⟩, ⟨owns_below h.ms.1 hb, h.ms.2⟩, ⟨owns_below h.rs.1 hb, h.rs.2⟩, ⟨(hb.block kb h.kbl).trans h.bk.1, h.bk.2⟩,
    ⟨owns_below h.bT.1 hb, h.bT.2⟩, ⟨owns_below h.bU.1 hb, h.bU.2⟩, ⟨owns_below h.bD.1 hb, h.bD.2⟩, ⟨owns_below h.bX.1 hb, h.bX.2⟩,
    fun p hp => ⟨owns_below (h.pT p hp).1 hb, (h.pT p hp).2⟩, fun p hp => ⟨owns_below (h.pU p hp).1 hb, (h.pU p hp).2⟩, fun p hp => ⟨owns_below (h.pD p hp).1 hb, (h.pD p hp).2⟩, fun p hp => ⟨owns_below (h.pX p hp).1 hb, (h.pX p hp).2⟩,
    h.old, Nat.le_trans h.size hb.size, h.below.trans (hb.mono h.size), h.five⟩
theorem map_two (V V' : Nat → Value) (n : Nat) (h : ∀ p, p < n → V' p = V p) : (List.range (n + 2)).map V' = (List.range n).map V ++ [V' n, V' (n + 1)] := by
  rw [show n + 2 = n + 1 + 1 from rfl, List.range_succ, List.range_succ, List.map_append, List.map_append]
  have : (List.range n).map V' = (List.range n).map V := List.map_congr_left fun p hp => h p (List.mem_range.1 hp)
  rw [this]; simp
theorem map_one (V V' : Nat → Value) (n : Nat) (h : ∀ p, p < n → V' p = V p) : (List.range (n + 1)).map V' = (List.range n).map V ++ [V' n] := by
  rw [List.range_succ, List.map_append]
  have : (List.range n).map V' = (List.range n).map V := List.map_congr_left fun p hp => h p (List.mem_range.1 hp)
  rw [this]; simp
/-- A cell of the book is set. -/
theorem book_set {W : World} {kb : Nat} {a b c d : Value} (h : W.heap[kb]? = some (.cells #[a, b, c, d] 34 (0, 0))) (j : Nat) (u : Value) :
    (W.setCell ⟨kb, j, none⟩ u).heap[kb]? = some (.cells (#[a, b, c, d].setIfInBounds j u) 34 (0, 0)) ∧ Kp (fun q => q = kb) W (W.setCell ⟨kb, j, none⟩ u) := by
  have e := setCell_eq_setRow W kb j _ _ _ u h
  rw [e]
  exact ⟨setRow_heap W kb _ _ _ _ h, ⟨rfl, rfl, rfl, by simp [World.setRow], fun k _ hne => setRow_other W kb k _ (by omega)⟩⟩
/-- Two lists are put into the book. -/
theorem Scr.putT {W1 W2 W3 : World} (h : Scr w0 W m nT nU nD M R VT VU VD VX CT CU CD ow sM sR kb sT sU sD sX) {a1 a2 s' : Value} {d1 d2 : List Tm} (b1 : Below W.heap.size W W1) (b2 : Below W1.heap.size W1 W2)
    (h1 : W1.ownsRow W.heap.size 37 3 a1 d1.length (flT d1)) (h2 : W2.ownsRow W1.heap.size 37 3 a2 d2.length (flT d2)) (k3 : Kp (fun q => sT.ownBlock = some q) W2 W3)
    (hs : W3.ownsRow 0 42 1 s' (nT + 2) ((List.range nT).map VT ++ [a1, a2])) (hsl : ∀ g, s'.ownBlock = some g → sT.ownBlock = some g ∨ W2.heap.size ≤ g) :
    ∃ V' C' ow', (∀ p, p < nT → C' p = CT p) ∧ C' nT = d1 ∧ C' (nT + 1) = d2 ∧ Scr w0 (W3.setCell ⟨kb, 0, none⟩ s') m (nT + 2) nU nD M R V' VU VD VX C' CU CD ow' sM sR kb s' sU sD sX := by
  have z1 := b1.size
  have z2 := b2.size
  have z3 := k3.size
  have hb2 := h.kept b1 |>.kept b2
  have hbl : ∀ g, sT.ownBlock = some g → g < W.heap.size := owns_lt h.bT.1
  have hk3 : W3.heap[kb]? = some (.cells #[sT, sU, sD, sX] 34 (0, 0)) := (k3.block kb hb2.kbl (fun e => by have := h.bT.2 kb e; rw [h.bk.2] at this; omega)).trans hb2.bk.1
  obtain ⟨hblk, k4⟩ := book_set hk3 0 s'
  have K : Kp (fun k => ow k = 2 ∨ ow k = 15) W (W3.setCell ⟨kb, 0, none⟩ s') :=
    (((Kp.of_below b1 : Kp (fun k => ow k = 2 ∨ ow k = 15) W W1).trans (Kp.of_below b2 : Kp (fun _ => False) W1 W2) (fun _ _ h => h.elim)).trans k3 (fun q _ e => Or.inr (h.bT.2 q e))).trans k4 (fun q _ e => Or.inl (by rw [e]; exact h.bk.2))
  obtain ⟨nw, hnw⟩ : ∃ nw : Nat → Nat, nw = fun k => if k < W1.heap.size then 20 + 4 * nT else if k < W2.heap.size then 20 + 4 * (nT + 1) else 15 := ⟨_, rfl⟩
  have K3 : Kp (fun q => sT.ownBlock = some q ∨ q = kb) W2 (W3.setCell ⟨kb, 0, none⟩ s') := (⟨k3.os, k3.tape, k3.output, k3.size, fun q hq hn => k3.block q hq (fun e => hn (Or.inl e))⟩ : Kp (fun q => sT.ownBlock = some q ∨ q = kb) W2 W3).trans k4 (fun q _ e => Or.inr e)
  have hkbW := h.kbl
  have fresh : ∀ {e : TypeId} {s n : Nat} {u : Value} {xs : List Value} {lo : Nat}, W.heap.size ≤ lo → W2.ownsRow lo e s u n xs → (W3.setCell ⟨kb, 0, none⟩ s').ownsRow 0 e s u n xs := fun hlo ho =>
    owns_base (owns_kp K3 ho (fun q hq e => by
      have h1 := (ho.lt q hq).1
      rcases e with e | e
      · have := hbl q e; omega
      · omega)) (Nat.zero_le _)
  refine ⟨fun p => if p = nT then a1 else if p = nT + 1 then a2 else VT p, fun p => if p = nT then d1 else if p = nT + 1 then d2 else CT p, ext ow W.heap.size nw, fun p hp => ?_, ?_, ?_, ?_⟩
  · simp only [if_neg (show ¬ p = nT by omega), if_neg (show ¬ p = nT + 1 by omega)]
  · simp only [if_true]
  · simp only [if_neg (show ¬ nT + 1 = nT by omega), if_true]
  have keepR : ∀ {e : TypeId} {s : Nat} {u : Value} {n : Nat} {xs : List Value} {t : Nat}, t ≠ 2 → t ≠ 15 → W.ownsRow 0 e s u n xs ∧ Tg ow t u → (W3.setCell ⟨kb, 0, none⟩ s').ownsRow 0 e s u n xs ∧ Tg (ext ow W.heap.size nw) t u := fun h1 h2 h3 =>
    keep_row (A := fun t => t = 2 ∨ t = 15) K nw (by omega) h3
  have hself : ∀ p, p < nT + 2 → (W3.setCell ⟨kb, 0, none⟩ s').ownsRow 0 37 3 (if p = nT then a1 else if p = nT + 1 then a2 else VT p) (if p = nT then d1 else if p = nT + 1 then d2 else CT p).length (flT (if p = nT then d1 else if p = nT + 1 then d2 else CT p)) ∧ Tg (ext ow W.heap.size nw) (20 + 4 * p) (if p = nT then a1 else if p = nT + 1 then a2 else VT p) := fun p hp => by
    by_cases e1 : p = nT
    · subst e1
      simp only [if_true]
      refine ⟨fresh (Nat.le_refl _) (owns_below h1 b2), fun g hg => ?_⟩
      have := h1.lt g hg
      rw [ext_ge (by omega), hnw]
      simp only [if_pos this.2]
    · simp only [if_neg e1]
      by_cases e2 : p = nT + 1
      · subst e2
        simp only [if_true]
        refine ⟨fresh z1 h2, fun g hg => ?_⟩
        have := h2.lt g hg
        rw [ext_ge (by omega), hnw]
        simp only [if_neg (show ¬ g < W1.heap.size by omega), if_pos this.2]
      · simp only [if_neg e2]
        exact keepR (by omega) (by omega) (h.pT p (by omega))
  have hrow : (W3.setCell ⟨kb, 0, none⟩ s').ownsRow 0 42 1 s' (nT + 2) ((List.range (nT + 2)).map fun p => if p = nT then a1 else if p = nT + 1 then a2 else VT p) ∧ Tg (ext ow W.heap.size nw) 15 s' := by
    refine ⟨?_, fun g hg => ?_⟩
    · rw [map_two VT _ nT (fun p hp => by rw [if_neg (by omega), if_neg (by omega)])]
      simp only [if_true, if_neg (show ¬ nT + 1 = nT by omega)]
      exact owns_kp k4 hs (fun q hq e => by
        rcases hsl q hq with h3 | h3
        · have := h.bT.2 q h3; rw [e, h.bk.2] at this; omega
        · omega)
    · rcases hsl g hg with h3 | h3
      · rw [ext_lt (hbl g h3)]; exact h.bT.2 g h3
      · rw [ext_ge (by omega), hnw]
        simp only [if_neg (show ¬ g < W1.heap.size by omega), if_neg (show ¬ g < W2.heap.size by omega)]
  refine ⟨fun i hi => h.keep_mu (A := fun t => t = 2 ∨ t = 15) K nw hi (by have := h.five; omega), fun i hi => h.keep_rm (A := fun t => t = 2 ∨ t = 15) K nw hi (by have := h.five; omega), keepR (by omega) (by omega) h.ms, keepR (by omega) (by omega) h.rs, ⟨hblk, by rw [ext_lt hkbW]; exact h.bk.2⟩,
    hrow, keepR (by omega) (by omega) h.bU, keepR (by omega) (by omega) h.bD, keepR (by omega) (by omega) h.bX,
    hself, fun p hp => keepR (by omega) (by omega) (h.pU p hp), fun p hp => keepR (by omega) (by omega) (h.pD p hp), fun p hp => keepR (by omega) (by omega) (h.pX p hp), h.keep_old nw, Nat.le_trans h.size K.size, h.keep_bl (A := fun t => t = 2 ∨ t = 15) K (by omega), h.five⟩
/-- Two lists are put into the book. -/
theorem Scr.putU {W1 W2 W3 : World} (h : Scr w0 W m nT nU nD M R VT VU VD VX CT CU CD ow sM sR kb sT sU sD sX) {a1 a2 s' : Value} {d1 d2 : List Tm} (b1 : Below W.heap.size W W1) (b2 : Below W1.heap.size W1 W2)
    (h1 : W1.ownsRow W.heap.size 37 3 a1 d1.length (flT d1)) (h2 : W2.ownsRow W1.heap.size 37 3 a2 d2.length (flT d2)) (k3 : Kp (fun q => sU.ownBlock = some q) W2 W3)
    (hs : W3.ownsRow 0 42 1 s' (nU + 2) ((List.range nU).map VU ++ [a1, a2])) (hsl : ∀ g, s'.ownBlock = some g → sU.ownBlock = some g ∨ W2.heap.size ≤ g) :
    ∃ V' C' ow', (∀ p, p < nU → C' p = CU p) ∧ C' nU = d1 ∧ C' (nU + 1) = d2 ∧ Scr w0 (W3.setCell ⟨kb, 1, none⟩ s') m nT (nU + 2) nD M R VT V' VD VX CT C' CD ow' sM sR kb sT s' sD sX := by
  have z1 := b1.size
  have z2 := b2.size
  have z3 := k3.size
  have hb2 := h.kept b1 |>.kept b2
  have hbl : ∀ g, sU.ownBlock = some g → g < W.heap.size := owns_lt h.bU.1
  have hk3 : W3.heap[kb]? = some (.cells #[sT, sU, sD, sX] 34 (0, 0)) := (k3.block kb hb2.kbl (fun e => by have := h.bU.2 kb e; rw [h.bk.2] at this; omega)).trans hb2.bk.1
  obtain ⟨hblk, k4⟩ := book_set hk3 1 s'
  have K : Kp (fun k => ow k = 2 ∨ ow k = 16) W (W3.setCell ⟨kb, 1, none⟩ s') :=
    (((Kp.of_below b1 : Kp (fun k => ow k = 2 ∨ ow k = 16) W W1).trans (Kp.of_below b2 : Kp (fun _ => False) W1 W2) (fun _ _ h => h.elim)).trans k3 (fun q _ e => Or.inr (h.bU.2 q e))).trans k4 (fun q _ e => Or.inl (by rw [e]; exact h.bk.2))
  obtain ⟨nw, hnw⟩ : ∃ nw : Nat → Nat, nw = fun k => if k < W1.heap.size then 21 + 4 * nU else if k < W2.heap.size then 21 + 4 * (nU + 1) else 16 := ⟨_, rfl⟩
  have K3 : Kp (fun q => sU.ownBlock = some q ∨ q = kb) W2 (W3.setCell ⟨kb, 1, none⟩ s') := (⟨k3.os, k3.tape, k3.output, k3.size, fun q hq hn => k3.block q hq (fun e => hn (Or.inl e))⟩ : Kp (fun q => sU.ownBlock = some q ∨ q = kb) W2 W3).trans k4 (fun q _ e => Or.inr e)
  have hkbW := h.kbl
  have fresh : ∀ {e : TypeId} {s n : Nat} {u : Value} {xs : List Value} {lo : Nat}, W.heap.size ≤ lo → W2.ownsRow lo e s u n xs → (W3.setCell ⟨kb, 1, none⟩ s').ownsRow 0 e s u n xs := fun hlo ho =>
    owns_base (owns_kp K3 ho (fun q hq e => by
      have h1 := (ho.lt q hq).1
      rcases e with e | e
      · have := hbl q e; omega
      · omega)) (Nat.zero_le _)
  refine ⟨fun p => if p = nU then a1 else if p = nU + 1 then a2 else VU p, fun p => if p = nU then d1 else if p = nU + 1 then d2 else CU p, ext ow W.heap.size nw, fun p hp => ?_, ?_, ?_, ?_⟩
  · simp only [if_neg (show ¬ p = nU by omega), if_neg (show ¬ p = nU + 1 by omega)]
  · simp only [if_true]
  · simp only [if_neg (show ¬ nU + 1 = nU by omega), if_true]
  have keepR : ∀ {e : TypeId} {s : Nat} {u : Value} {n : Nat} {xs : List Value} {t : Nat}, t ≠ 2 → t ≠ 16 → W.ownsRow 0 e s u n xs ∧ Tg ow t u → (W3.setCell ⟨kb, 1, none⟩ s').ownsRow 0 e s u n xs ∧ Tg (ext ow W.heap.size nw) t u := fun h1 h2 h3 =>
    keep_row (A := fun t => t = 2 ∨ t = 16) K nw (by omega) h3
  have hself : ∀ p, p < nU + 2 → (W3.setCell ⟨kb, 1, none⟩ s').ownsRow 0 37 3 (if p = nU then a1 else if p = nU + 1 then a2 else VU p) (if p = nU then d1 else if p = nU + 1 then d2 else CU p).length (flT (if p = nU then d1 else if p = nU + 1 then d2 else CU p)) ∧ Tg (ext ow W.heap.size nw) (21 + 4 * p) (if p = nU then a1 else if p = nU + 1 then a2 else VU p) := fun p hp => by
    by_cases e1 : p = nU
    · subst e1
      simp only [if_true]
      refine ⟨fresh (Nat.le_refl _) (owns_below h1 b2), fun g hg => ?_⟩
      have := h1.lt g hg
      rw [ext_ge (by omega), hnw]
      simp only [if_pos this.2]
    · simp only [if_neg e1]
      by_cases e2 : p = nU + 1
      · subst e2
        simp only [if_true]
        refine ⟨fresh z1 h2, fun g hg => ?_⟩
        have := h2.lt g hg
        rw [ext_ge (by omega), hnw]
        simp only [if_neg (show ¬ g < W1.heap.size by omega), if_pos this.2]
      · simp only [if_neg e2]
        exact keepR (by omega) (by omega) (h.pU p (by omega))
  have hrow : (W3.setCell ⟨kb, 1, none⟩ s').ownsRow 0 42 1 s' (nU + 2) ((List.range (nU + 2)).map fun p => if p = nU then a1 else if p = nU + 1 then a2 else VU p) ∧ Tg (ext ow W.heap.size nw) 16 s' := by
    refine ⟨?_, fun g hg => ?_⟩
    · rw [map_two VU _ nU (fun p hp => by rw [if_neg (by omega), if_neg (by omega)])]
      simp only [if_true, if_neg (show ¬ nU + 1 = nU by omega)]
      exact owns_kp k4 hs (fun q hq e => by
        rcases hsl q hq with h3 | h3
        · have := h.bU.2 q h3; rw [e, h.bk.2] at this; omega
        · omega)
    · rcases hsl g hg with h3 | h3
      · rw [ext_lt (hbl g h3)]; exact h.bU.2 g h3
      · rw [ext_ge (by omega), hnw]
        simp only [if_neg (show ¬ g < W1.heap.size by omega), if_neg (show ¬ g < W2.heap.size by omega)]
  refine ⟨fun i hi => h.keep_mu (A := fun t => t = 2 ∨ t = 16) K nw hi (by have := h.five; omega), fun i hi => h.keep_rm (A := fun t => t = 2 ∨ t = 16) K nw hi (by have := h.five; omega), keepR (by omega) (by omega) h.ms, keepR (by omega) (by omega) h.rs, ⟨hblk, by rw [ext_lt hkbW]; exact h.bk.2⟩,
    keepR (by omega) (by omega) h.bT, hrow, keepR (by omega) (by omega) h.bD, keepR (by omega) (by omega) h.bX,
    fun p hp => keepR (by omega) (by omega) (h.pT p hp), hself, fun p hp => keepR (by omega) (by omega) (h.pD p hp), fun p hp => keepR (by omega) (by omega) (h.pX p hp), h.keep_old nw, Nat.le_trans h.size K.size, h.keep_bl (A := fun t => t = 2 ∨ t = 16) K (by omega), h.five⟩
end
end Go.Proofs.YtnpmmodcmfgbjaaGreat
