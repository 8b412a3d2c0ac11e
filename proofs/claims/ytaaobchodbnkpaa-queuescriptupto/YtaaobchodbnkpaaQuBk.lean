import Derived.Test.YtaaobchodbnkpaaQuAns
import Derived.Test.YtaaobchodbnkpaaQuSt1
namespace Go.Proofs.Ytaaobchodbnkpaa.Qe
open Go.RowKit Go.Sort

/-- A column of the book: a list that bears the mark t, of lists that bear the marks j, j + 4, .. -/
structure Col {α : Type} (E : El α) (e se : TypeId) (w : World) (tag : Nat → Nat) (t j : Nat) (s : Value) (n : Nat) (V : Nat → Value) (C : Nat → List α) : Prop where
  row : Ow w tag t se 1 s n ((List.range n).map V)
  pg : ∀ p, p < n → Ow w tag (j + 4 * p) e E.k (V p) (C p).length (fl E (C p))
section
variable {α : Type} {E : El α} {e se : TypeId} {w w' : World} {tag tag' : Nat → Nat} {t j n : Nat} {s : Value} {V : Nat → Value} {C : Nat → List α} {A : Nat → Prop}
theorem Col.nx (h : Col E e se w tag t j s n V C) (hn : Nx A tag tag' w w') (ht : ¬ A t) (hj : ∀ p, p < n → ¬ A (j + 4 * p)) : Col E e se w' tag' t j s n V C :=
  ⟨h.row.nx hn ht, fun p hp => (h.pg p hp).nx hn (hj p hp)⟩
theorem map_push (n : Nat) (V : Nat → Value) (u : Value) : ((List.range (n + 1)).map fun i => if i = n then u else V i) = (List.range n).map V ++ [u] := by
  rw [List.range_succ, List.map_append]
  congr 1
  · refine List.map_congr_left fun i hi => ?_
    have := List.mem_range.1 hi
    exact if_neg (by omega)
  · simp
/-- A list more. -/
theorem Col.push {u s' : Value} {l : List α} (h : Col E e se w tag t j s n V C) (hu : Ow w tag (j + 4 * n) e E.k u l.length (fl E l)) (hs : w'.ownsRow 0 se 1 s' (n + 1) ((List.range n).map V ++ [u])) (hx : Nx (fun k => k = t) tag (tg tag w t) w w') (hn : ∀ g, s'.ownBlock = some g → s.ownBlock = some g ∨ w.heap.size ≤ g) (htj : t < j) :
    Col E e se w' (tg tag w t) t j s' (n + 1) (fun i => if i = n then u else V i) (fun i => if i = n then l else C i) := by
  refine ⟨⟨by rw [map_push]; exact hs, fun g hg => ?_⟩, fun p hp => ?_⟩
  · rcases hn g hg with h1 | h1
    · rw [tg_old (h.row.1.lt g h1).2]; exact h.row.2 g h1
    · exact tg_new h1
  · by_cases e : p = n
    · subst e
      simp only [if_true]
      exact hu.nx hx (by omega)
    · simp only [if_neg e]
      exact (h.pg p (by omega)).nx hx (by omega)
/-- Two lists more. -/
theorem Col.push2 {u u2 s' : Value} {l l2 : List α} (h : Col E e se w tag t j s n V C) (hu : Ow w tag (j + 4 * n) e E.k u l.length (fl E l)) (hu2 : Ow w tag (j + 4 * (n + 1)) e E.k u2 l2.length (fl E l2)) (hs : w'.ownsRow 0 se 1 s' (n + 2) ((List.range n).map V ++ [u, u2])) (hx : Nx (fun k => k = t) tag (tg tag w t) w w') (hn : ∀ g, s'.ownBlock = some g → s.ownBlock = some g ∨ w.heap.size ≤ g) (htj : t < j) :
    Col E e se w' (tg tag w t) t j s' (n + 2) (fun i => if i = n + 1 then u2 else if i = n then u else V i) (fun i => if i = n + 1 then l2 else if i = n then l else C i) := by
  refine ⟨⟨?_, fun g hg => ?_⟩, fun p hp => ?_⟩
  · rw [map_push (n + 1) (fun i => if i = n then u else V i) u2, map_push, List.append_assoc]; exact hs
  · rcases hn g hg with h1 | h1
    · rw [tg_old (h.row.1.lt g h1).2]; exact h.row.2 g h1
    · exact tg_new h1
  · by_cases e : p = n + 1
    · subst e
      simp only [if_true]
      exact hu2.nx hx (by omega)
    · by_cases e2 : p = n
      · subst e2
        simp only [if_true, if_neg e]
        exact hu.nx hx (by omega)
      · simp only [if_neg e, if_neg e2]
        exact (h.pg p (by omega)).nx hx (by omega)
/-- What an append to the column turns. -/
theorem Col.turn (h : Col E e se w tag t j s n V C) (hk : Kp (fun k => s.ownBlock = some k) w w') : Nx (fun k => k = t) tag (tg tag w t) w w' :=
  ⟨hk.mono (fun k hk => h.row.2 k hk), fun _ hk => tg_old hk⟩
end
/-- The book: its block bears 3, its lists 15 to 18, the lists in them 20 and more. -/
structure Bo (w : World) (tag : Nat → Nat) (kb nT nU nD nX : Nat) (sT sU sD sX : Value) (VT VU VD VX : Nat → Value) (CT CU : Nat → List Ms) (CD CX : Nat → List Cg) : Prop where
  blk : w.heap[kb]? = some (.cells #[sT, sU, sD, sX] 64 (0, 0))
  mr : tag kb = 3
  cT : Col EM 36 22 w tag 15 20 sT nT VT CT
  cU : Col EM 36 22 w tag 16 21 sU nU VU CU
  cD : Col EC 51 45 w tag 17 22 sD nD VD CD
  cX : Col EC 51 45 w tag 18 23 sX nX VX CX
section
variable {w w' : World} {tag tag' : Nat → Nat} {A : Nat → Prop} {kb nT nU nD nX : Nat} {sT sU sD sX : Value} {VT VU VD VX : Nat → Value} {CT CU : Nat → List Ms} {CD CX : Nat → List Cg}
theorem Bo.lt (h : Bo w tag kb nT nU nD nX sT sU sD sX VT VU VD VX CT CU CD CX) : kb < w.heap.size := (Array.getElem?_eq_some_iff.1 h.blk).1
theorem Bo.nx (h : Bo w tag kb nT nU nD nX sT sU sD sX VT VU VD VX CT CU CD CX) (hn : Nx A tag tag' w w') (h3 : ¬ A 3) (hA : ∀ k, A k → k < 15) : Bo w' tag' kb nT nU nD nX sT sU sD sX VT VU VD VX CT CU CD CX := by
  have g : ∀ k, 15 ≤ k → ¬ A k := fun k hk h => by have := hA k h; omega
  exact ⟨(hn.kp.block kb h.lt (fun e => h3 (by rw [← h.mr]; exact e))).trans h.blk, (hn.old kb h.lt).trans h.mr, h.cT.nx hn (g _ (by omega)) (fun p _ => g _ (by omega)), h.cU.nx hn (g _ (by omega)) (fun p _ => g _ (by omega)), h.cD.nx hn (g _ (by omega)) (fun p _ => g _ (by omega)), h.cX.nx hn (g _ (by omega)) (fun p _ => g _ (by omega))⟩
theorem Bo.below (h : Bo w tag kb nT nU nD nX sT sU sD sX VT VU VD VX CT CU CD CX) (hB : Below w.heap.size w w') (j : Nat) : Bo w' (tg tag w j) kb nT nU nD nX sT sU sD sX VT VU VD VX CT CU CD CX := h.nx (Nx.below (fun _ => False) tag j hB) (fun h => h) (fun _ h => h.elim)
/-- A column is other; the block is turned last (the store). -/
theorem Bo.setT {s' : Value} {n' : Nat} {V' : Nat → Value} {C' : Nat → List Ms} (h : Bo w tag kb nT nU nD nX sT sU sD sX VT VU VD VX CT CU CD CX) (hx : Nx (fun k => k = 15) tag tag' w w') (hc : Col EM 36 22 w' tag' 15 20 s' n' V' C') :
    w'.heap[kb]? = some (.cells #[sT, sU, sD, sX] 64 (0, 0)) ∧ ∀ w2, Kp (fun k => k = kb) w' w2 → w2.heap[kb]? = some (.cells #[s', sU, sD, sX] 64 (0, 0)) → Nx (fun k => k = 3 ∨ k = 15) tag tag' w w2 ∧ Bo w2 tag' kb n' nU nD nX s' sU sD sX V' VU VD VX C' CU CD CX := by
  have hmk : tag' kb = 3 := (hx.old kb h.lt).trans h.mr
  have hb1 : w'.heap[kb]? = some (.cells #[sT, sU, sD, sX] 64 (0, 0)) := (hx.kp.block kb h.lt (fun e => by have := h.mr; omega)).trans h.blk
  refine ⟨hb1, fun w2 h2 hb2 => ?_⟩
  have hy : Nx (fun k => k = 3) tag' tag' w' w2 := ⟨h2.mono (fun k e => by rw [e]; exact hmk), fun _ _ => rfl⟩
  exact ⟨(hx.mono (fun _ e => Or.inr e)).trans (hy.mono (fun _ e => Or.inl e)), hb2, hmk, hc.nx hy (by omega) (fun p _ => by omega), (h.cU.nx hx (by omega) (fun p _ => by omega)).nx hy (by omega) (fun p _ => by omega), (h.cD.nx hx (by omega) (fun p _ => by omega)).nx hy (by omega) (fun p _ => by omega), (h.cX.nx hx (by omega) (fun p _ => by omega)).nx hy (by omega) (fun p _ => by omega)⟩
theorem Bo.setU {s' : Value} {n' : Nat} {V' : Nat → Value} {C' : Nat → List Ms} (h : Bo w tag kb nT nU nD nX sT sU sD sX VT VU VD VX CT CU CD CX) (hx : Nx (fun k => k = 16) tag tag' w w') (hc : Col EM 36 22 w' tag' 16 21 s' n' V' C') :
    w'.heap[kb]? = some (.cells #[sT, sU, sD, sX] 64 (0, 0)) ∧ ∀ w2, Kp (fun k => k = kb) w' w2 → w2.heap[kb]? = some (.cells #[sT, s', sD, sX] 64 (0, 0)) → Nx (fun k => k = 3 ∨ k = 16) tag tag' w w2 ∧ Bo w2 tag' kb nT n' nD nX sT s' sD sX VT V' VD VX CT C' CD CX := by
  have hmk : tag' kb = 3 := (hx.old kb h.lt).trans h.mr
  have hb1 : w'.heap[kb]? = some (.cells #[sT, sU, sD, sX] 64 (0, 0)) := (hx.kp.block kb h.lt (fun e => by have := h.mr; omega)).trans h.blk
  refine ⟨hb1, fun w2 h2 hb2 => ?_⟩
  have hy : Nx (fun k => k = 3) tag' tag' w' w2 := ⟨h2.mono (fun k e => by rw [e]; exact hmk), fun _ _ => rfl⟩
  exact ⟨(hx.mono (fun _ e => Or.inr e)).trans (hy.mono (fun _ e => Or.inl e)), hb2, hmk, (h.cT.nx hx (by omega) (fun p _ => by omega)).nx hy (by omega) (fun p _ => by omega), hc.nx hy (by omega) (fun p _ => by omega), (h.cD.nx hx (by omega) (fun p _ => by omega)).nx hy (by omega) (fun p _ => by omega), (h.cX.nx hx (by omega) (fun p _ => by omega)).nx hy (by omega) (fun p _ => by omega)⟩
theorem Bo.setD {s' : Value} {n' : Nat} {V' : Nat → Value} {C' : Nat → List Cg} (h : Bo w tag kb nT nU nD nX sT sU sD sX VT VU VD VX CT CU CD CX) (hx : Nx (fun k => k = 17) tag tag' w w') (hc : Col EC 51 45 w' tag' 17 22 s' n' V' C') :
    w'.heap[kb]? = some (.cells #[sT, sU, sD, sX] 64 (0, 0)) ∧ ∀ w2, Kp (fun k => k = kb) w' w2 → w2.heap[kb]? = some (.cells #[sT, sU, s', sX] 64 (0, 0)) → Nx (fun k => k = 3 ∨ k = 17) tag tag' w w2 ∧ Bo w2 tag' kb nT nU n' nX sT sU s' sX VT VU V' VX CT CU C' CX := by
  have hmk : tag' kb = 3 := (hx.old kb h.lt).trans h.mr
  have hb1 : w'.heap[kb]? = some (.cells #[sT, sU, sD, sX] 64 (0, 0)) := (hx.kp.block kb h.lt (fun e => by have := h.mr; omega)).trans h.blk
  refine ⟨hb1, fun w2 h2 hb2 => ?_⟩
  have hy : Nx (fun k => k = 3) tag' tag' w' w2 := ⟨h2.mono (fun k e => by rw [e]; exact hmk), fun _ _ => rfl⟩
  exact ⟨(hx.mono (fun _ e => Or.inr e)).trans (hy.mono (fun _ e => Or.inl e)), hb2, hmk, (h.cT.nx hx (by omega) (fun p _ => by omega)).nx hy (by omega) (fun p _ => by omega), (h.cU.nx hx (by omega) (fun p _ => by omega)).nx hy (by omega) (fun p _ => by omega), hc.nx hy (by omega) (fun p _ => by omega), (h.cX.nx hx (by omega) (fun p _ => by omega)).nx hy (by omega) (fun p _ => by omega)⟩
theorem Bo.setX {s' : Value} {n' : Nat} {V' : Nat → Value} {C' : Nat → List Cg} (h : Bo w tag kb nT nU nD nX sT sU sD sX VT VU VD VX CT CU CD CX) (hx : Nx (fun k => k = 18) tag tag' w w') (hc : Col EC 51 45 w' tag' 18 23 s' n' V' C') :
    w'.heap[kb]? = some (.cells #[sT, sU, sD, sX] 64 (0, 0)) ∧ ∀ w2, Kp (fun k => k = kb) w' w2 → w2.heap[kb]? = some (.cells #[sT, sU, sD, s'] 64 (0, 0)) → Nx (fun k => k = 3 ∨ k = 18) tag tag' w w2 ∧ Bo w2 tag' kb nT nU nD n' sT sU sD s' VT VU VD V' CT CU CD C' := by
  have hmk : tag' kb = 3 := (hx.old kb h.lt).trans h.mr
  have hb1 : w'.heap[kb]? = some (.cells #[sT, sU, sD, sX] 64 (0, 0)) := (hx.kp.block kb h.lt (fun e => by have := h.mr; omega)).trans h.blk
  refine ⟨hb1, fun w2 h2 hb2 => ?_⟩
  have hy : Nx (fun k => k = 3) tag' tag' w' w2 := ⟨h2.mono (fun k e => by rw [e]; exact hmk), fun _ _ => rfl⟩
  exact ⟨(hx.mono (fun _ e => Or.inr e)).trans (hy.mono (fun _ e => Or.inl e)), hb2, hmk, (h.cT.nx hx (by omega) (fun p _ => by omega)).nx hy (by omega) (fun p _ => by omega), (h.cU.nx hx (by omega) (fun p _ => by omega)).nx hy (by omega) (fun p _ => by omega), (h.cD.nx hx (by omega) (fun p _ => by omega)).nx hy (by omega) (fun p _ => by omega), hc.nx hy (by omega) (fun p _ => by omega)⟩
theorem col_far {α : Type} {E : El α} {e se : TypeId} {t j n : Nat} {s : Value} {V : Nat → Value} {C : Nat → List α} (h : Col E e se w tag t j s n V C) : Fam E e w n V C :=
  ⟨fun i hi => (h.pg i hi).1, fun i k hi hk hne g hg hg2 => by have := (h.pg i hi).2 g hg; have := (h.pg k hk).2 g hg2; omega⟩
/-- The book as stay has it. -/
theorem Bo.bk (h : Bo w tag kb nT nT nD nD sT sU sD sX VT VU VD VX CT CT CD CD) (few : nT ≤ 1048576 ∧ nD ≤ 1048576) (small : (∀ i, i < nT → (CT i).length ≤ 1048576) ∧ ∀ i, i < nD → (CD i).length ≤ 1048576) : Qs.Bk w kb nT nD sT sU sD sX VT VU VD VX CT CD := by
  refine ⟨h.blk, h.cT.row.1, h.cU.row.1, h.cD.row.1, h.cX.row.1, col_far h.cT, col_far h.cD, fun i hi => owns_ls (E := EM) (h.cU.pg i hi).1, fun i hi => owns_ls (E := EC) (h.cX.pg i hi).1, ?_, ?_, few, small⟩
  · rintro q ⟨i, hi, hq⟩ ⟨k, hk, hq2⟩
    have := (h.cT.pg i hi).2 q hq
    have := (h.cD.pg k hk).2 q hq2
    omega
  · rintro q (⟨i, hi, hq⟩ | ⟨i, hi, hq⟩)
    · have h1 := (h.cT.pg i hi).2 q hq
      exact ⟨fun e => by have := h.mr; rw [e] at h1; omega, fun e => by have := h.cT.row.2 q e; omega, fun e => by have := h.cD.row.2 q e; omega⟩
    · have h1 := (h.cD.pg i hi).2 q hq
      exact ⟨fun e => by have := h.mr; rw [e] at h1; omega, fun e => by have := h.cT.row.2 q e; omega, fun e => by have := h.cD.row.2 q e; omega⟩
end
end Go.Proofs.Ytaaobchodbnkpaa.Qe
