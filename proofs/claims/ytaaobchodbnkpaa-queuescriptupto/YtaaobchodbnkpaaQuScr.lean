import Derived.Test.YtaaobchodbnkpaaQuAns
import Derived.Test.YtaaobchodbnkpaaQuAns2
import Derived.Test.YtaaobchodbnkpaaQuAns6
namespace Go.Proofs.Ytaaobchodbnkpaa.Qe
open Go.RowKit Go.Sort

section
variable {w w' : World} {tag : Nat → Nat} {a b qb rb N K kb nT nD : Nat} {Q : Nat → List Ms} {L : List Ms} {sT sU sD sX : Value} {VT VU VD VX : Nat → Value} {CT : Nat → List Ms} {CD : Nat → List Cg}
/-- A call that leaves the book as it was. -/
theorem Af.ab (h : Af w tag a b qb rb N (K + 1) w') (hbo : Bo w tag kb nT nT nD nD sT sU sD sX VT VU VD VX CT CT CD CD) (ha : a ≠ 3 ∧ a < 15) (hb : b ≠ 3 ∧ b < 15) (hl : (∀ i, i < nT → (CT i).length ≤ K) ∧ ∀ i, i < nD → (CD i).length ≤ K) : Ab w tag a b qb rb N (K + 1) kb (nT + 2) (nD + 2) w' := by
  obtain ⟨tag', Q', L', h1, h2⟩ := h
  exact ⟨tag', Q', L', nT, nD, _, _, _, _, _, _, _, _, CT, CD, h1, hbo.nx h2 (fun e => by omega) (fun k e => by omega), by omega, by omega, fun i hi => Nat.le_succ_of_le (hl.1 i hi), fun i hi => Nat.le_succ_of_le (hl.2 i hi), h2.mono (fun k hk => by omega)⟩
theorem Ab.more {mT mD mT' mD' : Nat} (h : Ab w tag a b qb rb N K kb mT mD w') (hT : mT ≤ mT') (hD : mD ≤ mD') : Ab w tag a b qb rb N (K + 1) kb mT' mD' w' := by
  obtain ⟨tag', Q', L', nT, nD, sT, sU, sD, sX, VT, VU, VD, VX, CT, CD, h1, h2, h3, h4, h5, h6, h7⟩ := h
  exact ⟨tag', Q', L', nT, nD, sT, sU, sD, sX, VT, VU, VD, VX, CT, CD, h1.mono (Nat.le_succ K), h2, Nat.le_trans h3 hT, Nat.le_trans h4 hD, fun i hi => Nat.le_succ_of_le (h5 i hi), fun i hi => Nat.le_succ_of_le (h6 i hi), h7⟩
/-- Every kind of a step. -/
theorem ans_any (h : Pr w tag a b qb rb N K Q L) (hbo : Bo w tag kb nT nT nD nD sT sU sD sX VT VU VD VX CT CT CD CD) (hab : a ≠ b) (ha : a ≠ 0 ∧ a ≠ 3 ∧ a < 15) (hb : b ≠ 0 ∧ b ≠ 3 ∧ b < 15) (hK : K ≤ 900000) (hnT : nT ≤ 1000000) (hnD : nD ≤ 1000000) (hN : N ≤ 192) (kind on : Int) (x : Ms) (hl : (∀ i, i < nT → (CT i).length ≤ K) ∧ ∀ i, i < nD → (CD i).length ≤ K) : Calls Try.prog 17 #[.pointer (some ⟨qb, 0, none⟩), .pointer (some ⟨rb, 0, none⟩), opv kind on x, .pointer (some ⟨kb, 0, none⟩)] w fun e w' => e = .returned (.bool true) ∧ Hid (Ab w tag a b qb rb N (K + 1) kb (nT + 2) (nD + 2) w') := by
  by_cases h0 : kind = 0
  · subst h0
    exact (ans0 h hab ha.1 hb.1 hK on x).mono fun e w' ⟨h1, h2⟩ => ⟨h1, h2.out.ab hbo ha.2 hb.2 hl⟩
  by_cases h1 : kind = 1
  · subst h1
    exact (ans1 h hab ha.1 hb.1 hK on x).mono fun e w' ⟨h1, h2⟩ => ⟨h1, h2.out.ab hbo ha.2 hb.2 hl⟩
  by_cases h2 : kind = 2
  · subst h2
    exact (ans2 h hbo hab ha hb hK hnT on x hl).mono fun e w' ⟨h1, h2⟩ => ⟨h1, h2.out.more (by omega) (by omega)⟩
  by_cases h3 : kind = 3
  · subst h3
    exact (ans3 h hbo ha.2 hb.2 hK hnT on x hl).mono fun e w' ⟨h1, h2⟩ => ⟨h1, h2.out.more (by omega) (by omega)⟩
  by_cases h4 : kind = 4
  · subst h4
    exact (ans4 h hab ha.1 hb.1 hK on x).mono fun e w' ⟨h1, h2⟩ => ⟨h1, h2.out.ab hbo ha.2 hb.2 hl⟩
  by_cases h5 : kind = 5
  · subst h5
    exact (ans5 h hab ha.1 hb.1 hK on x).mono fun e w' ⟨h1, h2⟩ => ⟨h1, h2.out.ab hbo ha.2 hb.2 hl⟩
  by_cases h6 : kind = 6
  · subst h6
    exact (ans6 h hbo ha.2 hb.2 hK hnD hN on x hl).mono fun e w' ⟨h1, h2⟩ => ⟨h1, h2.out.more (by omega) (by omega)⟩
  exact (ansN h hab ha.1 hb.1 kind on x h0 h1 h2 h3 h4 h5 h6).mono fun e w' ⟨h1, h2⟩ => ⟨h1, h2.out.ab hbo ha.2 hb.2 hl⟩
end
/-- Pointers to blocks. -/
abbrev pts (m : Nat) (hb : Nat → Nat) : List Value := (List.range m).map fun i => .pointer (some ⟨hb i, 0, none⟩)
theorem pts_succ (m : Nat) (hb : Nat → Nat) (x : Nat) : pts (m + 1) (fun j => if j = m then x else hb j) = pts m hb ++ [.pointer (some ⟨x, 0, none⟩)] := by
  unfold pts
  rw [List.range_succ, List.map_append]
  congr 1
  · refine List.map_congr_left fun p hp => ?_
    have := List.mem_range.1 hp
    dsimp only
    rw [if_neg (by omega)]
  · simp
/-- The book as the script holds it: at most mT and mD lists, none longer than K. -/
def Bq (w : World) (tag : Nat → Nat) (kb mT mD K : Nat) : Prop := ∃ nT nD sT sU sD sX VT VU VD VX CT CD, Bo w tag kb nT nT nD nD sT sU sD sX VT VU VD VX CT CT CD CD ∧ nT ≤ mT ∧ nD ≤ mD ∧ (∀ i, i < nT → (CT i).length ≤ K) ∧ ∀ i, i < nD → (CD i).length ≤ K
/-- What the script holds. -/
structure Sq (w0 w : World) (tag : Nat → Nat) (m K N kb mT mD : Nat) (hb rb : Nat → Nat) (Q : Nat → Nat → List Ms) (L : Nat → List Ms) (sQ sR : Value) : Prop where
  pr : ∀ i, i < m → Pr w tag (4 + 2 * i) (5 + 2 * i) (hb i) (rb i) N K (Q i) (L i)
  ps : Ow w tag 1 24 1 sQ m (pts m hb)
  rs : Ow w tag 2 55 1 sR m (pts m rb)
  bk : Bq w tag kb mT mD K
  m4 : m ≤ 4
  old : ∀ k, k < w0.heap.size → tag k = 0
  bel : Below w0.heap.size w0 w
section
variable {w0 w w' : World} {tag tag' : Nat → Nat} {m K N kb mT mD : Nat} {hb rb : Nat → Nat} {Q : Nat → Nat → List Ms} {L : Nat → List Ms} {sQ sR : Value} {A : Nat → Prop}
theorem Bq.nx (h : Bq w tag kb mT mD K) (hn : Nx A tag tag' w w') (h3 : ¬ A 3) (hA : ∀ k, A k → k < 15) : Bq w' tag' kb mT mD K := by
  obtain ⟨nT, nD, sT, sU, sD, sX, VT, VU, VD, VX, CT, CD, h1, h2⟩ := h
  exact ⟨nT, nD, sT, sU, sD, sX, VT, VU, VD, VX, CT, CD, h1.nx hn h3 hA, h2⟩
theorem Sq.old_nx (h : Sq w0 w tag m K N kb mT mD hb rb Q L sQ sR) (hn : Nx A tag tag' w w') : ∀ k, k < w0.heap.size → tag' k = 0 := fun k hk => (hn.old k (Nat.lt_of_lt_of_le hk h.bel.size)).trans (h.old k hk)
theorem Sq.bel_nx (h : Sq w0 w tag m K N kb mT mD hb rb Q L sQ sR) (hn : Nx A tag tag' w w') (hA : ¬ A 0) : Below w0.heap.size w0 w' :=
  h.bel.trans (hn.kp.below h.bel.size (fun k hk => Nat.le_of_not_lt (fun hlt => hA (by rw [← h.old k hlt]; exact hk))))
theorem Sq.nx (h : Sq w0 w tag m K N kb mT mD hb rb Q L sQ sR) (hn : Nx (fun _ => False) tag tag' w w') : Sq w0 w' tag' m K N kb mT mD hb rb Q L sQ sR :=
  ⟨fun i hi => (h.pr i hi).nx hn (fun h => h) (fun h => h), h.ps.nx hn (fun h => h), h.rs.nx hn (fun h => h), h.bk.nx hn (fun h => h) (fun _ h => h.elim), h.m4, h.old_nx hn, h.bel_nx hn (fun h => h)⟩
theorem Sq.below (h : Sq w0 w tag m K N kb mT mD hb rb Q L sQ sR) (hB : Below w.heap.size w w') (j : Nat) : Sq w0 w' (tg tag w j) m K N kb mT mD hb rb Q L sQ sR := h.nx (Nx.below _ tag j hB)
theorem Sq.same (h : Sq w0 w tag m K N kb mT mD hb rb Q L sQ sR) (hB : Below w.heap.size w w') : Sq w0 w' tag m K N kb mT mD hb rb Q L sQ sR := h.nx (Nx.same _ tag hB)
/-- One step on pair i. -/
theorem Sq.ans (h : Sq w0 w tag m K N kb mT mD hb rb Q L sQ sR) {i nT nD : Nat} (hi : i < m) (hT : nT ≤ mT) (hD : nD ≤ mD) (ha : Ab w tag (4 + 2 * i) (5 + 2 * i) (hb i) (rb i) N (K + 1) kb (nT + 2) (nD + 2) w') : ∃ tag' Q' L', Sq w0 w' tag' m (K + 1) N kb (mT + 2) (mD + 2) hb rb Q' L' sQ sR := by
  obtain ⟨tag', q, l, n1, n2, sT, sU, sD, sX, VT, VU, VD, VX, CT, CD, h1, h2, h3, h4, h5, h6, hn⟩ := ha
  have hm := h.m4
  refine ⟨tag', fun j => if j = i then q else Q j, fun j => if j = i then l else L j, fun j hj => ?_, h.ps.nx hn (by omega), h.rs.nx hn (by omega), ⟨n1, n2, sT, sU, sD, sX, VT, VU, VD, VX, CT, CD, h2, by omega, by omega, h5, h6⟩, h.m4, h.old_nx hn, h.bel_nx hn (by omega)⟩
  by_cases e : j = i
  · subst e; rw [if_pos rfl, if_pos rfl]; exact h1
  · rw [if_neg e, if_neg e]
    exact ((h.pr j hj).nx hn (by omega) (by omega)).mono (Nat.le_succ K)
/-- Where the pointers lie. -/
theorem Ow.pts_at {j e m : Nat} {hb : Nat → Nat} {s : Value} (h : Ow w tag j e 1 s m (pts m hb)) {i : Nat} (hi : i < m) : ∃ g c, s = .slice (some ⟨g, 0, none⟩) m c ∧ g < w.heap.size ∧ w.cell? ⟨g, i, none⟩ = some (.pointer (some ⟨hb i, 0, none⟩)) ∧ tag g = j := by
  rcases h.1.2 with ⟨_, h0⟩ | ⟨g, c, cur, hs, _, hh, _⟩
  · omega
  · have := h.1.cells (g := g) (by rw [hs]; rfl) i (.pointer (some ⟨hb i, 0, none⟩)) (by simp [pts, hi])
    rw [addA, Nat.zero_add] at this
    exact ⟨g, c, hs, (Array.getElem?_eq_some_iff.1 hh).1, this, h.2 g (by rw [hs]; rfl)⟩
/-- The list of queues is longer by a copy. -/
structure Hq2 (w0 w : World) (tag : Nat → Nat) (m K N kb mT mD : Nat) (hb rb : Nat → Nat) (Q : Nat → Nat → List Ms) (L : Nat → List Ms) (sQ sR : Value) (x : Nat) (q : Nat → List Ms) : Prop where
  pr : ∀ i, i < m → Pr w tag (4 + 2 * i) (5 + 2 * i) (hb i) (rb i) N K (Q i) (L i)
  ps : Ow w tag 1 24 1 sQ (m + 1) (pts m hb ++ [.pointer (some ⟨x, 0, none⟩)])
  rs : Ow w tag 2 55 1 sR m (pts m rb)
  bk : Bq w tag kb mT mD K
  m4 : m < 4
  old : ∀ k, k < w0.heap.size → tag k = 0
  bel : Below w0.heap.size w0 w
  p : Pt w tag (4 + 2 * m) x N K q
theorem Sq.psApp {x : Nat} {q : Nat → List Ms} {sQ' : Value} (h : Sq w0 w tag m K N kb mT mD hb rb Q L sQ sR) (hm : m < 4) (hp : Pt w tag (4 + 2 * m) x N K q)
    (hs : w'.ownsRow 0 24 1 sQ' (m + 1) (pts m hb ++ [.pointer (some ⟨x, 0, none⟩)])) (hk : Kp (fun k => sQ.ownBlock = some k) w w') (hn : ∀ g, sQ'.ownBlock = some g → sQ.ownBlock = some g ∨ w.heap.size ≤ g) :
    Hq2 w0 w' (tg tag w 1) m K N kb mT mD hb rb Q L sQ' sR x q := by
  have hx : Nx (fun k => k = 1) tag (tg tag w 1) w w' := ⟨hk.mono (fun k hk => h.ps.2 k hk), fun _ hk => tg_old hk⟩
  refine ⟨fun i hi => (h.pr i hi).nx hx (by omega) (by omega), ⟨hs, fun g hg => ?_⟩, h.rs.nx hx (by omega), h.bk.nx hx (by omega) (by omega), hm, h.old_nx hx, h.bel_nx hx (by omega), hp.nx hx (by omega)⟩
  rcases hn g hg with h1 | h1
  · rw [tg_old (h.ps.1.lt g h1).2]; exact h.ps.2 g h1
  · exact tg_new h1
theorem Hq2.below {x : Nat} {q : Nat → List Ms} (h : Hq2 w0 w tag m K N kb mT mD hb rb Q L sQ sR x q) (hB : Below w.heap.size w w') (j : Nat) : Hq2 w0 w' (tg tag w j) m K N kb mT mD hb rb Q L sQ sR x q := by
  have hx : Nx (fun _ => False) tag (tg tag w j) w w' := Nx.below _ tag j hB
  exact ⟨fun i hi => (h.pr i hi).nx hx (fun h => h) (fun h => h), h.ps.nx hx (fun h => h), h.rs.nx hx (fun h => h), h.bk.nx hx (fun h => h) (fun _ h => h.elim), h.m4, fun k hk => (hx.old k (Nat.lt_of_lt_of_le hk h.bel.size)).trans (h.old k hk), h.bel.trans (hB.mono h.bel.size), h.p.nx hx (fun h => h)⟩
theorem Hq2.done {x y : Nat} {q : Nat → List Ms} {l : List Ms} {sR' : Value} (h : Hq2 w0 w tag m K N kb mT mD hb rb Q L sQ sR x q) (hr : Rq w tag (5 + 2 * m) y N l) (hrel : Rl N q l) (hle : l.length ≤ K)
    (hs : w'.ownsRow 0 55 1 sR' (m + 1) (pts m rb ++ [.pointer (some ⟨y, 0, none⟩)])) (hk : Kp (fun k => sR.ownBlock = some k) w w') (hn : ∀ g, sR'.ownBlock = some g → sR.ownBlock = some g ∨ w.heap.size ≤ g) :
    ∃ tag' hb' rb' Q' L', Sq w0 w' tag' (m + 1) K N kb mT mD hb' rb' Q' L' sQ sR' := by
  have hx : Nx (fun k => k = 2) tag (tg tag w 2) w w' := ⟨hk.mono (fun k hk => h.rs.2 k hk), fun _ hk => tg_old hk⟩
  have hm := h.m4
  refine ⟨tg tag w 2, fun j => if j = m then x else hb j, fun j => if j = m then y else rb j, fun j => if j = m then q else Q j, fun j => if j = m then l else L j, fun i hi => ?_, ?_, ⟨by rw [pts_succ]; exact hs, fun g hg => ?_⟩, h.bk.nx hx (by omega) (by omega), by omega, fun k hk => (hx.old k (Nat.lt_of_lt_of_le hk h.bel.size)).trans (h.old k hk), h.bel.trans (hx.kp.below h.bel.size (fun k hk => Nat.le_of_not_lt (fun hlt => by have := h.old k hlt; omega)))⟩
  · by_cases e : i = m
    · subst e
      simp only [if_true]
      exact ⟨h.p.nx hx (by omega), hr.nx hx (by omega), hrel, hle⟩
    · simp only [if_neg e]
      exact (h.pr i (by omega)).nx hx (by omega) (by omega)
  · rw [pts_succ]; exact h.ps.nx hx (by omega)
  · rcases hn g hg with h1 | h1
    · rw [tg_old (h.rs.1.lt g h1).2]; exact h.rs.2 g h1
    · exact tg_new h1
end
theorem infoQp : (Try.prog.info? 24).map (fun i => (i.zero, i.size, i.bytes)) = some (some (.pointer none), 1, 8) := by kernel_rfl
theorem infoRp : (Try.prog.info? 55).map (fun i => (i.zero, i.size, i.bytes)) = some (some (.pointer none), 1, 8) := by kernel_rfl
end Go.Proofs.Ytaaobchodbnkpaa.Qe
