import Derived.Test.YtnclnagpfjmlcaaDArgs
namespace Go.Proofs.Ytnclnagpfjmlcaa.Df
open Go.ChangeShapes Go.WideShapes Go.ChangeAt Go.RowKit Go.Joins Wi

section
variable {H : Type} {enc : TypeId × Value → H} {W : World} {base : Nat} {sp : Nat → Bool} {held : Bool}
/-- What is known of a node that came in. -/
def NodK2 (W : World) (x : NV) : Prop := NodT x.n ∧ NR W.heap.size W x ∧ x.n.code.length * 16 ≤ 140737488351232 ∧ x.n.conns.length * 40 ≤ 140737488351232
/-- How great a graph is that came in. -/
def Sz (xs : List NV) (es : List Edg) : Prop := xs.length * 112 ≤ 140737488351232 ∧ es.length * 40 ≤ 140737488351232 ∧ ∀ x ∈ xs, x.n.code.length * 16 ≤ 140737488351232 ∧ x.n.conns.length * 40 ≤ 140737488351232
set_option maxRecDepth 100000 in
theorem trod_nod2 (fuel : Nat) (cs : List Value) (y : DataW H × List MemPlace) (hl : cs.length = 10) (h : DataW.trod enc Try.prog W base sp held fuel 67 cs = some y) (hw : Wt Try.prog 67 y.1) : ∃ x : NV, cs = EV.enc x ∧ NodK2 W x := by
  obtain ⟨xs, k, _, hxy, _, hxl, hff⟩ := DataW.trod_struct Try.underlying67 h
  match cs, hl, xs, hxl with
  | [c0, c1, c2, c3, c4, c5, c6, c7, c8, c9], _, [y0, y1, y2, y3, y4, y5, y6, y7], _ =>
    have hwe : ∀ n ∈ DataW.weightsEach Try.prog [3, 3, 3, 61, 64, 62, 65, 4] [y0.1, y1.1, y2.1, y3.1, y4.1, y5.1, y6.1, y7.1], n ≤ reachBytes := fun n hn => hw n (by
      rw [hxy]
      simp only [DataW.weights, Try.underlying67]
      exact hn)
    have k0 : DataW.trod enc Try.prog W base sp held k 3 (([c0, c1, c2, c3, c4, c5, c6, c7, c8, c9].drop 0).take (Try.prog.cellsOf 3)) = some y0 := hff 0 _ rfl
    have k1 : DataW.trod enc Try.prog W base sp held k 3 (([c0, c1, c2, c3, c4, c5, c6, c7, c8, c9].drop 1).take (Try.prog.cellsOf 3)) = some y1 := hff 1 _ rfl
    have k2 : DataW.trod enc Try.prog W base sp held k 3 (([c0, c1, c2, c3, c4, c5, c6, c7, c8, c9].drop 2).take (Try.prog.cellsOf 3)) = some y2 := hff 2 _ rfl
    have k3 : DataW.trod enc Try.prog W base sp held k 61 (([c0, c1, c2, c3, c4, c5, c6, c7, c8, c9].drop 3).take (Try.prog.cellsOf 61)) = some y3 := hff 3 _ rfl
    have k4 : DataW.trod enc Try.prog W base sp held k 64 (([c0, c1, c2, c3, c4, c5, c6, c7, c8, c9].drop 4).take (Try.prog.cellsOf 64)) = some y4 := hff 4 _ rfl
    have k5 : DataW.trod enc Try.prog W base sp held k 62 (([c0, c1, c2, c3, c4, c5, c6, c7, c8, c9].drop 7).take (Try.prog.cellsOf 62)) = some y5 := hff 5 _ rfl
    have k6 : DataW.trod enc Try.prog W base sp held k 65 (([c0, c1, c2, c3, c4, c5, c6, c7, c8, c9].drop 8).take (Try.prog.cellsOf 65)) = some y6 := hff 6 _ rfl
    have k7 : DataW.trod enc Try.prog W base sp held k 4 (([c0, c1, c2, c3, c4, c5, c6, c7, c8, c9].drop 9).take (Try.prog.cellsOf 4)) = some y7 := hff 7 _ rfl
    rw [c1i] at k0 k1 k2
    rw [c1o] at k3
    rw [c3p] at k4
    rw [c1u] at k5
    rw [c1c] at k6
    rw [c1b] at k7
    obtain ⟨a, rfl, ta⟩ := trod_i k0
    obtain ⟨b, rfl, tb⟩ := trod_i k1
    obtain ⟨c, rfl, tc⟩ := trod_i k2
    obtain ⟨q3, d3, l3, e3, z3, p3, s3⟩ := trod_list EO OpdT Try.underlying61 (by kernel_rfl) (by decide) (fun fuel cs y hl h _ => trod_opd fuel cs y hl h) _ _ _ k3 (fun n hn => hwe n (DataW.weights_mem_each (j := 3) rfl rfl n hn))
    obtain ⟨p, rfl, rfl, rfl, tp⟩ := trod_pth _ _ _ _ _ k4
    obtain ⟨u, rfl, tu⟩ := trod_u k5
    obtain ⟨q6, d6, l6, e6, z6, p6, s6⟩ := trod_list EC ConT Try.underlying65 (by kernel_rfl) (by decide) (fun fuel cs y hl h _ => trod_con fuel cs y hl h) _ _ _ k6 (fun n hn => hwe n (DataW.weights_mem_each (j := 6) rfl rfl n hn))
    obtain ⟨e, he, _⟩ := DataW.trod_bool Try.underlying4 k7
    simp at he e3 e6
    subst he e3 e6
    rw [show Try.prog.bytesOf 78 = 16 by kernel_rfl] at s3
    rw [show Try.prog.bytesOf 80 = 40 by kernel_rfl] at s6
    have hrb : reachBytes ≤ 140737488351232 := by decide
    exact ⟨⟨⟨a, b, c, l3, p, u, l6, e⟩, q3, l3.length, d3, q6, l6.length, d6⟩, rfl, ⟨ta, tb, tc, p3, tp, tu, p6⟩, ⟨z3, z6⟩, by simp only; omega, by simp only; omega⟩
end
set_option maxRecDepth 100000 in
/-- A graph that came in. -/
theorem open_graph2 {H : Type} {enc : TypeId × Value → H} {W : World} {r : Reach} {b0 base : Nat} {sp : Nat → Bool} {held : Bool} {v : Value} {d : DataW H} {p : List MemPlace} (hv : Value.okWide Try.prog W r b0 25 v) (h : DataW.Trod enc Try.prog W base sp held 25 v d p) (hw : Wt Try.prog 25 d) :
    (∀ x ∈ p, x.block < W.heap.size) ∧ ∃ (a : Int) (nv ev : Value) (xs : List NV) (es : List Edg), v = .agg (gvc a nv ev) ∧ GphT (gof a xs es) ∧ GR W.heap.size W nv ev xs es ∧ Sz xs es := by
  have hlt : ∀ x ∈ p, x.block < W.heap.size := by
    obtain ⟨fuel, hf⟩ := h
    exact DataW.trod_lt fuel _ _ _ hf
  refine ⟨hlt, ?_⟩
  obtain ⟨c0, c1, c2, y0, y1, y2, m, rfl, rfl, rfl, h0, h1, h2⟩ := open_agg3 Try.underlying25 (by kernel_rfl) (by kernel_rfl) hv h
  have hwe : ∀ n ∈ DataW.weightsEach Try.prog [3, 22, 23] [y0.1, y1.1, y2.1], n ≤ reachBytes := fun n hn => hw n (by
    simp only [DataW.weights, Try.underlying25]
    exact hn)
  obtain ⟨a, rfl, ta⟩ := trod_i h0
  obtain ⟨q1, d1, l1, e1, z1, p1, s1⟩ := trod_list EV (NodK2 W) Try.underlying22 (by kernel_rfl) (by decide) (fun fuel cs y hl h hw => trod_nod2 fuel cs y hl h hw) _ _ _ h1 (fun n hn => hwe n (DataW.weights_mem_each (j := 1) rfl rfl n hn))
  obtain ⟨q2, d2, l2, e2, z2, p2, s2⟩ := trod_list ED EdgT Try.underlying23 (by kernel_rfl) (by decide) (fun fuel cs y hl h _ => trod_edg fuel cs y hl h) _ _ _ h2 (fun n hn => hwe n (DataW.weights_mem_each (j := 2) rfl rfl n hn))
  simp at e1 e2
  subst e1 e2
  rw [show Try.prog.bytesOf 67 = 112 by kernel_rfl] at s1
  rw [show Try.prog.bytesOf 69 = 40 by kernel_rfl] at s2
  have hrb : reachBytes ≤ 140737488351232 := by decide
  refine ⟨a, _, _, l1, l2, rfl, ⟨ta, fun n hn => ?_, p2⟩, ⟨z1, z2, fun x hx => (p1 x hx).2.1, fun x hx => by have := (p1 x hx).2.2; omega, by omega, by omega⟩, by omega, by omega, fun x hx => (p1 x hx).2.2⟩
  obtain ⟨x, hx, rfl⟩ := List.mem_map.1 hn
  exact (p1 x hx).1
end Go.Proofs.Ytnclnagpfjmlcaa.Df
