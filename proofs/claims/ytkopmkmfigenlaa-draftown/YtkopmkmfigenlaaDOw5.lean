import Derived.Test.YtkopmkmfigenlaaDOw2
import Derived.Test.YtkopmkmfigenlaaDOw3
import Derived.Test.YtkopmkmfigenlaaDOw4
namespace Go.Proofs.Ytkopmkmfigenlaa.Df
open Go.RowKit Go.Sort Wi

/-- A graph that was read, its place in the order: its lists lie from H to T. -/
structure GX where
  a : Int
  nv : LV
  ev : LV
  xs : List NV
  es : List Edg
  H : Nat
  T : Nat
def EX : El GX where
  k := 3
  enc p := [.int .i64 p.a, p.nv.v, p.ev.v]
  len _ := rfl
  one x u hu := by
    simp at hu
    rcases hu with rfl | rfl | rfl <;> rfl
theorem ls_atX {w : World} {v : Value} {ts : List GX} (h : Ls EX w v ts) {j : Nat} {x : GX} (hj : ts[j]? = some x) :
    ∃ b off c, v = .slice (some ⟨b, off, none⟩) ts.length c ∧ b < w.heap.size ∧ w.cell? ⟨b, off + j * 3, none⟩ = some (.int .i64 x.a) ∧ w.cell? ⟨b, off + j * 3 + 1, none⟩ = some x.nv.v ∧ w.cell? ⟨b, off + j * 3 + 2, none⟩ = some x.ev.v := by
  obtain ⟨b, off, c, hv, hb, hc⟩ := h.get hj
  exact ⟨b, off, c, hv, hb, hc 0 _ (by decide) rfl, hc 1 _ (by decide) rfl, hc 2 _ (by decide) rfl⟩
theorem infoX : (Try.prog.info? 25).map (fun i => (i.zero, i.size, i.bytes)) = some (some (.agg #[.int .i64 0, .slice none 0 0, .slice none 0 0]), 3, 56) := by kernel_rfl
/-- Rows of types other than those of the book's own and of graphs. -/
structure K4 (w w' : World) : Prop where
  get : ∀ {B' : Nat} {e : TypeId} {size n : Nat} {u : Value} {xs : List Value}, w.ownsRow B' e size u n xs → e ≠ 25 → e ≠ 61 → e ≠ 65 → e ≠ 22 → e ≠ 23 → e ≠ 43 → w'.ownsRow B' e size u n xs
  size : w.heap.size ≤ w'.heap.size
theorem K4.of_below {a b : World} (h : Below a.heap.size a b) : K4 a b := ⟨fun ho _ _ _ _ _ _ => owns_below ho h, h.size⟩
theorem K4.of_oth {a b : World} (h : Oth a b) (hs : a.heap.size ≤ b.heap.size) : K4 a b := ⟨fun ho _ e0 e1 e2 e3 e4 => h.get ho e0 e1 e2 e3 e4, hs⟩
theorem K4.trans {a b c : World} (h : K4 a b) (k : K4 b c) : K4 a c := ⟨fun ho e e0 e1 e2 e3 e4 => k.get (h.get ho e e0 e1 e2 e3 e4) e e0 e1 e2 e3 e4, Nat.le_trans h.size k.size⟩
theorem Go.k4 {H : Nat} {w w' : World} {nv ev : LV} {xs : List NV} {es : List Edg} (h : Go H w nv ev xs es) (ho : K4 w w') : Go H w' nv ev xs es :=
  ⟨ho.get h.nodes (by decide) (by decide) (by decide) (by decide) (by decide) (by decide), ho.get h.edges (by decide) (by decide) (by decide) (by decide) (by decide) (by decide), fun x hx => ⟨ho.get (h.each x hx).1 (by decide) (by decide) (by decide) (by decide) (by decide) (by decide), ho.get (h.each x hx).2 (by decide) (by decide) (by decide) (by decide) (by decide) (by decide)⟩, h.dup⟩
def gsel (g g2 : Gph) (i : Nat) : Gph := if i = 2 then g2 else g
structure Gx (B : Nat) (W : World) (g : Gph) (p : GX) : Prop where
  go : Go p.H W p.nv p.ev p.xs p.es
  ar : p.a = g.arity
  ns : p.xs.map NV.n = g.nodes
  ed : p.es = g.edges
  top : ∀ b, (p.nv.v.ownBlock = some b ∨ p.ev.v.ownBlock = some b ∨ ∃ x ∈ p.xs, x.cv.ownBlock = some b ∨ x.dv.ownBlock = some b) → b < p.T
  low : B ≤ p.H
  hi : p.T ≤ W.heap.size
  sm : p.xs.length ≤ 24 ∧ p.es.length ≤ 48 ∧ ∀ x ∈ p.xs, x.n.code.length ≤ 16 ∧ x.n.conns.length ≤ 16
/-- The graphs that were read, one behind the other. -/
structure Gs (B : Nat) (W : World) (g g2 : Gph) (ps : List GX) : Prop where
  each : ∀ (i : Nat) (p : GX), ps[i]? = some p → Gx B W (gsel g g2 i) p
  asc : ∀ (i j : Nat) (p q : GX), i < j → ps[i]? = some p → ps[j]? = some q → p.T ≤ q.H
theorem Gx.k4 {B : Nat} {W W' : World} {g : Gph} {p : GX} (h : Gx B W g p) (hk : K4 W W') : Gx B W' g p := ⟨h.go.k4 hk, h.ar, h.ns, h.ed, h.top, h.low, Nat.le_trans h.hi hk.size, h.sm⟩
theorem Gs.k4 {B : Nat} {W W' : World} {g g2 : Gph} {ps : List GX} (h : Gs B W g g2 ps) (hk : K4 W W') : Gs B W' g g2 ps := ⟨fun i p hp => (h.each i p hp).k4 hk, h.asc⟩
theorem Gs.nil (B : Nat) (W : World) (g g2 : Gph) : Gs B W g g2 [] := ⟨fun _ _ h => by simp at h, fun _ _ _ _ _ h => by simp at h⟩
theorem Gs.snoc {B : Nat} {W : World} {g g2 : Gph} {ps : List GX} {p : GX} (h : Gs B W g g2 ps) (hp : Gx B W (gsel g g2 ps.length) p) (ha : ∀ q ∈ ps, q.T ≤ p.H) : Gs B W g g2 (ps ++ [p]) := by
  refine ⟨fun i q hq => ?_, fun i j q r hij hq hr => ?_⟩
  · rcases Nat.lt_trichotomy i ps.length with hl | rfl | hl
    · rw [List.getElem?_append_left hl] at hq
      exact h.each i q hq
    · rw [List.getElem?_append_right (Nat.le_refl _), Nat.sub_self] at hq
      simp at hq
      rw [← hq]
      exact hp
    · rw [List.getElem?_eq_none (by simp; omega)] at hq
      cases hq
  · rcases Nat.lt_trichotomy j ps.length with hl | rfl | hl
    · rw [List.getElem?_append_left hl] at hr
      rw [List.getElem?_append_left (by omega)] at hq
      exact h.asc i j q r hij hq hr
    · rw [List.getElem?_append_right (Nat.le_refl _), Nat.sub_self] at hr
      rw [List.getElem?_append_left hij] at hq
      simp at hr
      rw [← hr]
      exact ha q (List.mem_of_getElem? hq)
    · rw [List.getElem?_eq_none (by simp; omega)] at hr
      cases hr
theorem Gx.gr {B : Nat} {W : World} {g : Gph} {p : GX} (h : Gx B W g p) : GR W.heap.size W p.nv.v p.ev.v p.xs p.es :=
  ⟨Or.inl ⟨owns_ls (E := EV) h.go.nodes, fun k hk => (owns_rd h.go.nodes k hk).2⟩, Or.inl ⟨owns_ls (E := ED) h.go.edges, fun k hk => (owns_rd h.go.edges k hk).2⟩, fun x hx => ⟨Or.inl ⟨owns_ls (E := EO) (h.go.each x hx).1, fun k hk => (owns_rd (h.go.each x hx).1 k hk).2⟩, Or.inl ⟨owns_ls (E := EC) (h.go.each x hx).2, fun k hk => (owns_rd (h.go.each x hx).2 k hk).2⟩⟩, fun x hx => by have := h.sm.2.2 x hx; omega, by have := h.sm; omega⟩
theorem nodup_at {xs : List NV} (h : (xs.flatMap NV.bs).Nodup) {i j : Nat} {x y : NV} {b : Nat} (hx : xs[i]? = some x) (hy : xs[j]? = some y) (h1 : b ∈ x.bs) (h2 : b ∈ y.bs) : i = j := by
  have hp := (List.pairwise_flatMap.1 h).2
  rw [List.pairwise_iff_getElem] at hp
  obtain ⟨hi, ei⟩ := List.getElem?_eq_some_iff.1 hx
  obtain ⟨hj, ej⟩ := List.getElem?_eq_some_iff.1 hy
  subst ei ej
  rcases Nat.lt_trichotomy i j with hl | e | hl
  · exact absurd rfl (hp i j hi hj hl b h1 b h2)
  · exact e
  · exact absurd rfl (hp j i hj hi hl b h2 b h1)
theorem gx_of {L : List UInt8} {g : Gph} {B : Nat} {H : Nat} {W : World} {nv ev : LV} {xs : List NV} (hL : (get L).1 = g) (h : GO H W nv.v ev.v xs g.edges) (hx : xs.map NV.n = g.nodes) (hB : B ≤ H) : Gx B W g ⟨g.arity, nv, ev, xs, g.edges, H, W.heap.size⟩ := by
  obtain ⟨s1, s2, s3, -⟩ := got_small (L := L)
  rw [hL] at s1 s2 s3
  have hl : xs.length = g.nodes.length := by rw [← hx, List.length_map]
  have hd := (List.nodup_append.1 h.nodes.dup).2.1
  refine ⟨⟨h.nodes.row, h.edges, fun x hx => ⟨(h.nodes.each x hx).code, (h.nodes.each x hx).conns⟩, fun i j x y b hi hj => ⟨fun e1 e2 => nodup_at hd hi hj (NV.bs_mem.2 (Or.inl e1)) (NV.bs_mem.2 (Or.inl e2)), fun e1 e2 => nodup_at hd hi hj (NV.bs_mem.2 (Or.inr e1)) (NV.bs_mem.2 (Or.inr e2))⟩⟩, rfl, hx, rfl, fun b hb => ?_, hB, Nat.le_refl _, by simp only; omega, s2, fun x hm => ?_⟩
  · rcases hb with hb | hb | ⟨x, hx, hb | hb⟩
    · exact (owns_rd h.nodes.row b hb).2
    · exact (owns_rd h.edges b hb).2
    · exact (owns_rd (h.nodes.each x hx).code b hb).2
    · exact (owns_rd (h.nodes.each x hx).conns b hb).2
  · exact s3 x.n (by rw [← hx]; exact List.mem_map.2 ⟨x, hm, rfl⟩)
def cvs (ps : List GX) : List LV := ps.flatMap fun p => p.xs.map cvL
def dvs (ps : List GX) : List LV := ps.flatMap fun p => p.xs.map dvL
def cos (ps : List GX) : List (List Opd) := ps.flatMap fun p => p.xs.map fun x => x.n.code
def cns (ps : List GX) : List (List Con) := ps.flatMap fun p => p.xs.map fun x => x.n.conns
theorem Gs.lw {B : Nat} {W : World} {g g2 : Gph} {ps : List GX} (h : Gs B W g g2 ps) {i : Nat} {p : GX} (hi : ps[i]? = some p) : Lw p.H (cvs (ps.take i)) ∧ Lw p.H (dvs (ps.take i)) ∧ Lw p.H ((ps.take i).map GX.nv) ∧ Lw p.H ((ps.take i).map GX.ev) := by
  have key : ∀ q ∈ ps.take i, ∀ b, (q.nv.v.ownBlock = some b ∨ q.ev.v.ownBlock = some b ∨ ∃ x ∈ q.xs, x.cv.ownBlock = some b ∨ x.dv.ownBlock = some b) → b < p.H := fun q hq b hb => by
    obtain ⟨j, hj, rfl⟩ := List.mem_iff_getElem.1 hq
    have hji : j < i ∧ j < ps.length := by simp at hj; omega
    have e : ps[j]? = some (ps.take i)[j] := by simp [hji.2]
    exact Nat.lt_of_lt_of_le ((h.each j _ e).top b hb) (h.asc j i _ p hji.1 e hi)
  refine ⟨fun v hv b hb => ?_, fun v hv b hb => ?_, fun v hv b hb => ?_, fun v hv b hb => ?_⟩
  · obtain ⟨q, hq, hv⟩ := List.mem_flatMap.1 hv
    obtain ⟨x, hx, rfl⟩ := List.mem_map.1 hv
    exact key q hq b (Or.inr (Or.inr ⟨x, hx, Or.inl hb⟩))
  · obtain ⟨q, hq, hv⟩ := List.mem_flatMap.1 hv
    obtain ⟨x, hx, rfl⟩ := List.mem_map.1 hv
    exact key q hq b (Or.inr (Or.inr ⟨x, hx, Or.inr hb⟩))
  · obtain ⟨q, hq, rfl⟩ := List.mem_map.1 hv
    exact key q hq b (Or.inl hb)
  · obtain ⟨q, hq, rfl⟩ := List.mem_map.1 hv
    exact key q hq b (Or.inr (Or.inl hb))
theorem gx_len {α : Type} (f : NV → α) : ∀ (ps : List GX), (∀ p ∈ ps, p.xs.length ≤ 24) → (ps.flatMap fun p => p.xs.map f).length ≤ 24 * ps.length
  | [], _ => by simp
  | p :: ps, h => by
    have h1 := gx_len f ps (fun q hq => h q (List.mem_cons_of_mem _ hq))
    have h2 := h p (List.mem_cons_self ..)
    simp only [List.flatMap_cons, List.length_append, List.length_map, List.length_cons]
    omega
theorem Gs.small {B : Nat} {W : World} {g g2 : Gph} {ps : List GX} (h : Gs B W g g2 ps) : ∀ p ∈ ps, p.xs.length ≤ 24 ∧ p.es.length ≤ 48 ∧ ∀ x ∈ p.xs, x.n.code.length ≤ 16 ∧ x.n.conns.length ≤ 16 := fun p hp => by
  obtain ⟨i, hi, rfl⟩ := List.mem_iff_getElem.1 hp
  exact (h.each i _ (by simp [hi])).sm
theorem Gs.lens {B : Nat} {W : World} {g g2 : Gph} {ps : List GX} (h : Gs B W g g2 ps) (h4 : ps.length ≤ 4) (i : Nat) : (cvs (ps.take i)).length ≤ 500 ∧ (dvs (ps.take i)).length ≤ 500 ∧ ((ps.take i).map GX.nv).length ≤ 500 ∧ ((ps.take i).map GX.ev).length ≤ 500 := by
  have h1 := gx_len cvL (ps.take i) (fun p hp => (h.small p (List.mem_of_mem_take hp)).1)
  have h2 := gx_len dvL (ps.take i) (fun p hp => (h.small p (List.mem_of_mem_take hp)).1)
  have h3 : (ps.take i).length ≤ 4 := by simp; omega
  refine ⟨by unfold cvs; omega, by unfold dvs; omega, by simp; omega, by simp; omega⟩
theorem Gs.sms {B : Nat} {W : World} {g g2 : Gph} {ps : List GX} (h : Gs B W g g2 ps) (h4 : ps.length ≤ 4) : Sm (cos ps) ∧ Sm (cns ps) ∧ Sm (ps.map GX.xs) ∧ Sm (ps.map GX.es) := by
  have h1 := gx_len (fun x => x.n.code) ps (fun p hp => (h.small p hp).1)
  have h2 := gx_len (fun x => x.n.conns) ps (fun p hp => (h.small p hp).1)
  refine ⟨⟨by unfold cos; omega, fun l hl => ?_⟩, ⟨by unfold cns; omega, fun l hl => ?_⟩, ⟨by simp; omega, fun l hl => ?_⟩, ⟨by simp; omega, fun l hl => ?_⟩⟩
  · obtain ⟨p, hp, hl⟩ := List.mem_flatMap.1 hl
    obtain ⟨x, hx, rfl⟩ := List.mem_map.1 hl
    have := ((h.small p hp).2.2 x hx).1
    omega
  · obtain ⟨p, hp, hl⟩ := List.mem_flatMap.1 hl
    obtain ⟨x, hx, rfl⟩ := List.mem_map.1 hl
    have := ((h.small p hp).2.2 x hx).2
    omega
  · obtain ⟨p, hp, rfl⟩ := List.mem_map.1 hl
    have := (h.small p hp).1
    omega
  · obtain ⟨p, hp, rfl⟩ := List.mem_map.1 hl
    have := (h.small p hp).2.1
    omega
theorem md_of {α : Type} (f : Int → α) {ls : List (List α)} (h : Sm ls) : Md f (grwn f ls ls.length) := by
  refine ⟨by rw [grwn_len]; exact h.1, fun i l hl => ?_⟩
  have hi : i < ls.length := by
    have := (List.getElem?_eq_some_iff.1 hl).1
    rwa [grwn_len] at this
  have e := grwn_full f (List.getElem?_eq_getElem hi)
  rw [hl, Option.some.injEq] at e
  have hs := h.2 ls[i] (List.getElem_mem hi)
  rw [e, mksF_len]
  exact ⟨rfl, by omega⟩
/-- One more graph in the book. -/
theorem take_more {ps : List GX} {i : Nat} {p : GX} (hp : ps[i]? = some p) : cvs (ps.take i) ++ p.xs.map cvL = cvs (ps.take (i + 1)) ∧ dvs (ps.take i) ++ p.xs.map dvL = dvs (ps.take (i + 1)) ∧ cos (ps.take i) ++ p.xs.map (fun x => x.n.code) = cos (ps.take (i + 1)) ∧ cns (ps.take i) ++ p.xs.map (fun x => x.n.conns) = cns (ps.take (i + 1)) ∧ (ps.take i).map GX.nv ++ [p.nv] = (ps.take (i + 1)).map GX.nv ∧ (ps.take i).map GX.xs ++ [p.xs] = (ps.take (i + 1)).map GX.xs ∧ (ps.take i).map GX.ev ++ [p.ev] = (ps.take (i + 1)).map GX.ev ∧ (ps.take i).map GX.es ++ [p.es] = (ps.take (i + 1)).map GX.es := by
  have ht : ps.take (i + 1) = ps.take i ++ [p] := by rw [List.take_add_one, hp]; rfl
  rw [ht]
  simp [cvs, dvs, cos, cns]
/-- What stands while graphs are read: all's row too. -/
structure Oi (w0 W : World) (g g2 : Gph) (ps : List GX) (v : Value) : Prop where
  bl : Below w0.heap.size w0 W
  gs : Gs w0.heap.size W g g2 ps
  row : W.ownsRow w0.heap.size 25 3 v ps.length (fl EX ps)
theorem Oi.below {w0 W W' : World} {g g2 : Gph} {ps : List GX} {v : Value} (h : Oi w0 W g g2 ps v) (hb : Below W.heap.size W W') : Oi w0 W' g g2 ps v := ⟨h.bl.trans (hb.mono h.bl.size), h.gs.k4 (K4.of_below hb), owns_below h.row hb⟩
theorem Oi.snoc {w0 W W' : World} {g g2 : Gph} {ps : List GX} {v v' : Value} {p : GX} (h : Oi w0 W g g2 ps v) (hp : Gx w0.heap.size W (gsel g g2 ps.length) p) (ha : ∀ q ∈ ps, q.T ≤ p.H) (h1 : W'.ownsRow w0.heap.size 25 3 v' (ps.length + 1) (fl EX ps ++ EX.enc p)) (h2 : W.grownBy W' v.ownBlock) : Oi w0 W' g g2 (ps ++ [p]) v' := by
  have k2 := Kp.grownBy (S := fun k => v.ownBlock = some k) h2 (fun _ h => h)
  have hk : K4 W W' := ⟨fun ho e _ _ _ _ _ => owns_kp k2 ho (fun b e1 e2 => owns_ne_own ho h.row e b e1 e2), k2.size⟩
  exact ⟨h.bl.trans (k2.below h.bl.size (fun k e => (owns_rd h.row k e).1)), (h.gs.snoc hp ha).k4 hk, owns_re h1 (by simp) (by rw [fl_append, fl_one])⟩
end Go.Proofs.Ytkopmkmfigenlaa.Df
