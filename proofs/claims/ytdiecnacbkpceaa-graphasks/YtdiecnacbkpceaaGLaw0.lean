import Derived.Test.YtdiecnacbkpceaaJ3
import Derived.Test.YtdiecnacbkpceaaGSmu
import Derived.Test.YtdiecnacbkpceaaGChk6
import Derived.Test.YtdiecnacbkpceaaGTak
namespace Go.Proofs.Ytdiecnacbkpceaa.Df
open Go.RowKit Go.Sort

theorem fl_lenE {α : Type} (E : El α) (l : List α) : (fl E l).length = l.length * E.k := by
  induction l with
  | nil => simp [fl]
  | cons x l ih => rw [fl_cons, List.length_append, ih, E.len, List.length_cons, Nat.add_mul, Nat.one_mul, Nat.add_comm]
/-- A list with its mark, as a row. -/
theorem Mk.own {α : Type} {E : El α} {T : TypeId} {W : World} {v : Value} {l : List α} {m : α} {B : Nat} (h : Mk E T W v l m) (hB : ∀ k, v.ownBlock = some k → B ≤ k) : W.ownsRow B T E.k v l.length (fl E l) := by
  obtain ⟨g, cap, B', rfl, hc, hl, hr⟩ := h
  rcases hr with ⟨h0, _⟩ | ⟨g', cap', cur, hv, hg, hh, hn, hm, hs, ht⟩
  · cases h0
  · simp only [Value.slice.injEq, Option.some.injEq, Addr.mk.injEq] at hv
    obtain ⟨⟨rfl, -, -⟩, -, rfl⟩ := hv
    refine ⟨fl_lenE E l, Or.inr ⟨g, cap, cur, rfl, hB g rfl, hh, by omega, hm, hs, ?_⟩⟩
    have h1 := congrArg (List.take (l.length * E.k)) ht
    rw [List.take_take, Nat.min_eq_left (Nat.mul_le_mul_right _ (Nat.le_succ _)), fl_append, List.take_left' (fl_lenE E l)] at h1
    exact h1
/-- What may be written into of a twin. -/
theorem Tw.sg {B : Nat} {w : World} {nv ev : Value} {ys : List NV} {es : List Edg} (h : Tw w nv ev ys es) (lo : (∀ k, nv.ownBlock = some k → B ≤ k) ∧ (∀ k, ev.ownBlock = some k → B ≤ k) ∧ ∀ y ∈ ys, (∀ k, y.cv.ownBlock = some k → B ≤ k) ∧ ∀ k, y.dv.ownBlock = some k → B ≤ k) (few : ys.length ≤ 24 ∧ es.length ≤ 48 ∧ ∀ y ∈ ys, y.n.code.length ≤ 16 ∧ y.n.conns.length ≤ 16) : Sg B w.heap.size w nv ev ys := by
  have key : ∀ {α : Type} {E : El α} {T : TypeId} {v : Value} {l : List α} {m : α}, Mk E T w v l m → (∀ k, v.ownBlock = some k → B ≤ k) → l.length ≤ 1000 → Ro B w.heap.size T E.k w v := fun h hB hl => ⟨_, _, hl, h.own hB, fun k e => (owns_rd (h.own hB) k e).2⟩
  exact ⟨h.nds.own lo.1, fun k e => (owns_rd (h.nds.own lo.1) k e).2, by omega, key h.eds lo.2.1 (by omega), fun y hy => ⟨key (h.each y hy).1 (lo.2.2 y hy).1 (by have := few.2.2 y hy; omega), key (h.each y hy).2 (lo.2.2 y hy).2 (by have := few.2.2 y hy; omega)⟩⟩
theorem Tw.cap {w : World} {nv ev : Value} {ys : List NV} {es : List Edg} (h : Tw w nv ev ys es) (hg : ∀ y ∈ ys, y.n.conns.length ≤ 140737488351232) : Gcap ev ys := by
  refine ⟨fun p n c e => ?_, fun y hy => ⟨?_, hg y hy⟩⟩
  · obtain ⟨g, cap, B', rfl, hc, _⟩ := h.eds
    simp only [Value.slice.injEq] at e
    omega
  · obtain ⟨g, cap, B', hv, hc, _⟩ := (h.each y hy).2
    simp only [Value.slice.injEq] at hv
    omega
theorem Cg.sg {B : Nat} {w : World} {nv ev : Value} {ys : List NV} {es : List Edg} (h : Cg B w nv ev ys es) (few : ys.length ≤ 24 ∧ es.length ≤ 48 ∧ ∀ y ∈ ys, y.n.code.length ≤ 16 ∧ y.n.conns.length ≤ 16) : Sg B w.heap.size w nv ev ys :=
  ⟨h.nodes, fun k e => (owns_rd h.nodes k e).2, by omega, ⟨_, _, by omega, h.edges, fun k e => (owns_rd h.edges k e).2⟩, fun y hy => ⟨⟨_, _, by have := few.2.2 y hy; omega, (h.each y hy).1, fun k e => (owns_rd (h.each y hy).1 k e).2⟩, ⟨_, _, by have := few.2.2 y hy; omega, (h.each y hy).2, fun k e => (owns_rd (h.each y hy).2 k e).2⟩⟩⟩
theorem nl_few {a : Int} {xs ys : List NV} {es : List Edg} (hok : Gok (gof a xs es)) (h : ys.map NV.n = xs.map NV.n) : ys.length ≤ 24 ∧ es.length ≤ 48 ∧ ∀ y ∈ ys, y.n.code.length ≤ 16 ∧ y.n.conns.length ≤ 16 := by
  have hl : ys.length = xs.length := by simpa using congrArg List.length h
  refine ⟨by have := hok.nl; simp at this; omega, hok.el, fun y hy => hok.lists y.n ?_⟩
  show y.n ∈ xs.map NV.n
  rw [← h]
  exact List.mem_map_of_mem hy
theorem connsN_len {a : Int} {n : Nod} (h : nflaw a n = 0) : (connsN n).length ≤ 16 := by
  have h1 := nflaw_ports h
  have h2 := nflaw_lists h
  unfold connsN
  split
  · simp
  · split
    · exact h2.2
    · rw [acrL_length]
      exact Nat.mul_le_mul (show n.ins.toNat ≤ 4 by omega) (show n.outs.toNat ≤ 4 by omega)
theorem connsAt_len {g : Gph} (h : Gok g) (i : Int) : (connsAt g.nodes i).length ≤ 16 := by
  unfold connsAt natN?
  by_cases h0 : 0 ≤ i
  · rw [if_pos h0]
    cases e : g.nodes[i.toNat]? with
    | none => simp
    | some n => exact connsN_len (h.ng _ _ (List.getElem?_eq_some_iff.1 e).1 e)
  · rw [if_neg h0]
    simp
/-- One connection is written over. -/
theorem fl_put5 (zs : List Con) (i : Nat) (c : Con) (hi : i < zs.length) : ((((((fl EC zs).set (i * 5) (.int .i64 c.inn)).set (i * 5 + 1) (.int .i64 c.out)).set (i * 5 + 2) (.int .u64 (c.via.1 : Nat))).set (i * 5 + 3) (.int .u64 (c.via.2.1 : Nat))).set (i * 5 + 4) (.int .u64 (c.via.2.2 : Nat))) = fl EC (zs.set i c) := by
  induction zs generalizing i with
  | nil => simp at hi
  | cons z zs ih =>
    cases i with
    | zero =>
      rw [List.set_cons_zero, fl_cons, fl_cons]
      rfl
    | succ i =>
      rw [List.set_cons_succ, fl_cons, fl_cons, ← ih i (by simpa using hi)]
      have hs : ∀ (l : List Value) (j : Nat) (u : Value), (EC.enc z ++ l).set (5 + j) u = EC.enc z ++ l.set j u := fun l j u => by
        rw [List.set_append_right _ _ (by rw [EC.len]; show 5 ≤ _; omega), EC.len, show EC.k = 5 from rfl, Nat.add_sub_cancel_left]
      rw [show (i + 1) * 5 = 5 + i * 5 by omega, hs, show 5 + i * 5 + 1 = 5 + (i * 5 + 1) by omega, hs, show 5 + i * 5 + 2 = 5 + (i * 5 + 2) by omega, hs, show 5 + i * 5 + 3 = 5 + (i * 5 + 3) by omega, hs, show 5 + i * 5 + 4 = 5 + (i * 5 + 4) by omega, hs]
theorem owns_put5 {w : World} {B : Nat} {T : TypeId} {g n cap : Nat} {zs : List Con} (h : w.ownsRow B T 5 (.slice (some ⟨g, 0, none⟩) n cap) zs.length (fl EC zs)) {i : Nat} (hi : i < zs.length) (c : Con) :
    (((((w.setCell ⟨g, i * 5, none⟩ (.int .i64 c.inn)).setCell ⟨g, i * 5 + 1, none⟩ (.int .i64 c.out)).setCell ⟨g, i * 5 + 2, none⟩ (.int .u64 (c.via.1 : Nat))).setCell ⟨g, i * 5 + 3, none⟩ (.int .u64 (c.via.2.1 : Nat))).setCell ⟨g, i * 5 + 4, none⟩ (.int .u64 (c.via.2.2 : Nat))).ownsRow B T 5 (.slice (some ⟨g, 0, none⟩) n cap) (zs.set i c).length (fl EC (zs.set i c)) ∧
    Kp (fun k => k = g) w (((((w.setCell ⟨g, i * 5, none⟩ (.int .i64 c.inn)).setCell ⟨g, i * 5 + 1, none⟩ (.int .i64 c.out)).setCell ⟨g, i * 5 + 2, none⟩ (.int .u64 (c.via.1 : Nat))).setCell ⟨g, i * 5 + 3, none⟩ (.int .u64 (c.via.2.1 : Nat))).setCell ⟨g, i * 5 + 4, none⟩ (.int .u64 (c.via.2.2 : Nat))) := by
  have hn := (owns_caps h _ _ _ rfl).1
  subst hn
  obtain ⟨h1, k1⟩ := owns_one h (i * 5) (.int .i64 c.inn)
  obtain ⟨h2, k2⟩ := owns_one h1 (i * 5 + 1) (.int .i64 c.out)
  obtain ⟨h3, k3⟩ := owns_one h2 (i * 5 + 2) (.int .u64 (c.via.1 : Nat))
  obtain ⟨h4, k4⟩ := owns_one h3 (i * 5 + 3) (.int .u64 (c.via.2.1 : Nat))
  obtain ⟨h5, k5⟩ := owns_one h4 (i * 5 + 4) (.int .u64 (c.via.2.2 : Nat))
  refine ⟨owns_re h5 (by rw [List.length_set]) (fl_put5 zs i c hi), (((k1.trans k2 (fun _ _ h => h)).trans k3 (fun _ _ h => h)).trans k4 (fun _ _ h => h)).trans k5 (fun _ _ h => h)⟩
/-- Three lists of connections, new and apart. -/
structure Cx (V W : World) (x y z : Value) (X Y Z : List Con) : Prop where
  bl : Below V.heap.size V W
  rx : W.ownsRow V.heap.size 64 5 x X.length (fl EC X)
  ry : W.ownsRow V.heap.size 64 5 y Y.length (fl EC Y)
  rz : W.ownsRow V.heap.size 64 5 z Z.length (fl EC Z)
  xy : ∀ k, x.ownBlock = some k → y.ownBlock ≠ some k
  xz : ∀ k, x.ownBlock = some k → z.ownBlock ≠ some k
  yz : ∀ k, y.ownBlock = some k → z.ownBlock ≠ some k
section
variable {V W W' : World} {x y z : Value} {X Y Z : List Con}
theorem Cx.below (h : Cx V W x y z X Y Z) (hb : Below W.heap.size W W') : Cx V W' x y z X Y Z :=
  ⟨h.bl.trans (hb.mono h.bl.size), owns_below h.rx hb, owns_below h.ry hb, owns_below h.rz hb, h.xy, h.xz, h.yz⟩
theorem Cx.putx (h : Cx V W x y z X Y Z) {X' : List Con} (k : Kp (fun k => x.ownBlock = some k) W W') (hx : W'.ownsRow V.heap.size 64 5 x X'.length (fl EC X')) : Cx V W' x y z X' Y Z :=
  ⟨h.bl.trans (k.below h.bl.size (fun j e => (owns_rd h.rx j e).1)), hx, owns_kp k h.ry (fun j e e2 => h.xy j e2 e), owns_kp k h.rz (fun j e e2 => h.xz j e2 e), h.xy, h.xz, h.yz⟩
theorem Cx.puty (h : Cx V W x y z X Y Z) {Y' : List Con} (k : Kp (fun k => y.ownBlock = some k) W W') (hy : W'.ownsRow V.heap.size 64 5 y Y'.length (fl EC Y')) : Cx V W' x y z X Y' Z :=
  ⟨h.bl.trans (k.below h.bl.size (fun j e => (owns_rd h.ry j e).1)), owns_kp k h.rx (fun j e e2 => h.xy j e e2), hy, owns_kp k h.rz (fun j e e2 => h.yz j e2 e), h.xy, h.xz, h.yz⟩
end
/-- twin, in the law's words. -/
theorem twin2_any {M nl el : Nat} {nv ev : Value} {a : Int} {xs : List NV} {es : List Edg} (w : World) (hG : GR M w nv ev xs es) (hM : M ≤ w.heap.size) (hnl : nl = xs.length) (hel : el = es.length) (hbg : xs.length * 112 ≤ 140737488351232 ∧ es.length * 40 ≤ 140737488351232 ∧ ∀ x ∈ xs, x.n.code.length * 16 ≤ 140737488351232 ∧ x.n.conns.length * 40 ≤ 140737488351232) : Calls Try.prog 6 #[.agg (gvc a nv ev)] w fun r w' => ∃ gn kn ge ke ys, r = .returned (.agg (gvc a (.slice (some ⟨gn, 0, none⟩) nl kn) (.slice (some ⟨ge, 0, none⟩) el ke))) ∧ Hid (Below w.heap.size w w' ∧ ys.map NV.n = xs.map NV.n ∧ Tw w' (.slice (some ⟨gn, 0, none⟩) nl kn) (.slice (some ⟨ge, 0, none⟩) el ke) ys es ∧ (∀ k, (Value.slice (some ⟨gn, 0, none⟩) nl kn).ownBlock = some k → w.heap.size ≤ k) ∧ (∀ k, (Value.slice (some ⟨ge, 0, none⟩) el ke).ownBlock = some k → w.heap.size ≤ k) ∧ ∀ y ∈ ys, (∀ k, y.cv.ownBlock = some k → w.heap.size ≤ k) ∧ ∀ k, y.dv.ownBlock = some k → w.heap.size ≤ k) := by
  refine (twin_any (a := a) w (hG.up hM) hbg).mono ?_
  rintro r w' ⟨nv2, ev2, ys, rfl, b2, hys, m1, m2, m3, lo⟩
  have hl : ys.length = nl := by rw [hnl]; simpa using congrArg List.length hys
  obtain ⟨gn, kn, B1, h1, -⟩ := id m1
  obtain ⟨ge, ke, B2, h2, -⟩ := id m2
  rw [hl] at h1
  rw [← hel] at h2
  subst h1
  subst h2
  exact ⟨gn, kn, ge, ke, ys, rfl, b2, hys, ⟨m1, m2, m3⟩, lo⟩
/-- Raw, in the law's words. -/
theorem raw2_any {B gb nl el : Nat} {a : Int} {xs : List NV} {es : List Edg} (w : World) (h : Gm B w gb (gof a xs es)) (hnl : nl = xs.length) (hel : el = es.length) : Calls Try.prog 21 #[.pointer (some ⟨gb, 0, none⟩)] w fun r w' => ∃ qn kn qe ke ys, r = .returned (.agg (gvc a (.slice qn nl kn) (.slice qe el ke))) ∧ Hid (Below w.heap.size w w' ∧ ys.map NV.n = xs.map NV.n ∧ Cg w.heap.size w' (.slice qn nl kn) (.slice qe el ke) ys es) := by
  refine (graw_any w h).mono ?_
  rintro r w' ⟨nv2, ev2, ys, H⟩
  obtain ⟨rfl, b2, hys, hc⟩ := H.out
  have hl : ys.length = nl := by rw [hnl]; simpa using congrArg List.length hys
  obtain ⟨qn, mn, kn, h1⟩ := owns_form hc.nodes
  obtain ⟨qe, me, ke, h2⟩ := owns_form hc.edges
  have h3 := (owns_caps hc.nodes _ _ _ h1).1
  have h4 := (owns_caps hc.edges _ _ _ h2).1
  have h5 : mn = nl := by omega
  have h6 : me = el := by rw [hel]; exact h4
  subst h1
  subst h2
  subst h5
  subst h6
  exact ⟨qn, kn, qe, ke, ys, rfl, b2, hys, hc⟩
theorem same2_any {B M : Nat} {nv ev nv' ev' : Value} {a : Int} {xs ys : List NV} {es : List Edg} (w : World) (h : Cg B w nv ev ys es) (hok : Gok (gof a xs es)) (hxy : ys.map NV.n = xs.map NV.n) (hG : GR M w nv' ev' xs es) (hM : M ≤ w.heap.size) : Calls Try.prog 22 #[.agg (gvc a nv ev), .agg (gvc a nv' ev')] w fun e w' => e = .returned (.bool true) ∧ Gr w w' := by
  have few := nl_few hok hxy
  exact same_eq hxy w (h.gr ⟨by omega, by omega⟩ (fun y hy => by have := few.2.2 y hy; omega)) (hG.up hM)
theorem Cp.form {w w' : World} {l : List Con} {r : Ending} (h : Cp EC 64 w l r w') {n : Nat} (hn : n = l.length) : ∃ q c, r = .returned (.slice q n c) ∧ Hid (Below w.heap.size w w' ∧ w'.ownsRow w.heap.size 64 5 (.slice q n c) l.length (fl EC l)) := by
  obtain ⟨d, rfl, hb, ho⟩ := h
  obtain ⟨q, m, c, rfl⟩ := owns_form ho
  have h1 := (owns_caps ho _ _ _ rfl).1
  have h2 : m = n := by omega
  subst h2
  exact ⟨q, c, rfl, hb, ho⟩
theorem own_at {B n sz m c k : Nat} {T : TypeId} {w : World} {q : Option Addr} {xs : List Value} (h : w.ownsRow B T sz (.slice q m c) n xs) (hk : k < m) : ∃ g cur, q = some ⟨g, 0, none⟩ ∧ w.heap[g]? = some (.cells cur T (0, 0)) ∧ (k + 1) * sz ≤ cur.size := by
  rcases h.2 with ⟨h0, _⟩ | ⟨g, cap, cur, hv, hg, hh, hn, hm, hs, ht⟩
  · simp only [Value.slice.injEq] at h0
    omega
  · simp only [Value.slice.injEq] at hv
    obtain ⟨rfl, rfl, rfl⟩ := hv
    refine ⟨g, cur, rfl, hh, ?_⟩
    rw [hs]
    exact Nat.mul_le_mul_right _ (by omega)
/-- The first ones are marks. -/
def Mks (n k : Nat) (m : Con) (X : List Con) : Prop := X.length = n ∧ ∀ q, q < k → X[q]? = some m
theorem Mks.zero {n : Nat} {m : Con} {X : List Con} (h : X.length = n) : Mks n 0 m X := ⟨h, fun _ h => absurd h (Nat.not_lt_zero _)⟩
theorem Mks.step {n k : Nat} {m : Con} {X : List Con} (h : Mks n k m X) (hk : k < n) : Mks n (k + 1) m (X.set k m) := by
  refine ⟨by rw [List.length_set]; exact h.1, fun q hq => ?_⟩
  rw [List.getElem?_set]
  by_cases e : k = q
  · subst e
    rw [if_pos rfl, if_pos (by rw [h.1]; exact hk)]
  · rw [if_neg e]
    exact h.2 q (by omega)
abbrev m3 : Con := ⟨-3, 0, (0, 0, 0)⟩
abbrev m4 : Con := ⟨-4, 0, (0, 0, 0)⟩
end Go.Proofs.Ytdiecnacbkpceaa.Df
