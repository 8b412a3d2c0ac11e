import Derived.Test.YtmhbpelbkeclpaaGreatDoorArgsS
namespace Go.Proofs.YtmhbpelbkeclpaaGreatDoor
open Go.ChangeShapes Go.WideShapes Go.ChangeAt Go.RowKit Go.Joins

theorem cellsP : Tryz.prog.cellsOf 34 = 3 := by kernel_rfl

set_option maxRecDepth 100000 in
/-- A list of paths that came in. -/
theorem open_paths {H : Type} {enc : TypeId × Value → H} {W : World} {r : Reach} {b0 base : Nat} {sp : Nat → Bool} {held : Bool} {v : Value} {d : DataW H} {p : List MemPlace} (hv : Value.okWide Tryz.prog W r b0 33 v) (h : DataW.Trod enc Tryz.prog W base sp held 33 v d p) :
    (∀ x ∈ p, x.block < W.heap.size) ∧ ∃ ts : List T3, Lst W v ts ∧ ((d = .nil ∧ ts = []) ∨ ∃ elems spare, d = .slice elems spare ∧ elems.length = ts.length) := by
  obtain ⟨a0, len, cap, rfl⟩ := okWide_slice Tryz.underlying33 hv
  obtain ⟨fuel, hf⟩ := h
  refine ⟨DataW.trod_lt fuel _ _ _ hf, ?_⟩
  rcases Deep.open_slice Tryz.underlying33 hf with ⟨hcs, hx⟩ | ⟨a, len', cap', m, n, D, Pl, hcs, hb, hl, hm, hmm, hx, hall⟩
  · simp [Value.cells] at hcs
    obtain ⟨rfl, rfl, rfl⟩ := hcs
    exact ⟨[], Or.inl ⟨rfl, rfl⟩, Or.inl ⟨congrArg Prod.fst hx, rfl⟩⟩
  · simp [Value.cells] at hcs
    obtain ⟨rfl, rfl, rfl⟩ := hcs
    obtain ⟨hsp, hlt⟩ := has_lt Tryz.underlying33 hv
    obtain ⟨b, off, spot⟩ := a
    simp only at hsp hlt
    subst hsp
    have hlm : len ≤ m := by rw [hmm]; split <;> omega
    obtain ⟨V, hV⟩ := Deep.choose_lt (α := T3) (p := fun i t => W.cell? ⟨b, off + i * 3, none⟩ = some (.int .u64 t.1) ∧ W.cell? ⟨b, off + i * 3 + 1, none⟩ = some (.int .u64 t.2.1) ∧ W.cell? ⟨b, off + i * 3 + 2, none⟩ = some (.int .u64 t.2.2)) (n := len) (fun i hi => by
      obtain ⟨cs', h1, h2⟩ := hall i (by omega)
      rw [cellsP] at h1
      obtain ⟨_, hl3, hc⟩ := World.cells?_some h1
      obtain ⟨xs, k, hk, hxy, _, hxl, hff⟩ := DataW.trod_struct Tryz.underlying34 h2
      have hone : Tryz.prog.cellsOf 23 = 1 := by kernel_rfl
      match cs', hl3, xs, hxl with
      | [c0, c1, c2], _, [y0, y1, y2], _ =>
        have k0 : DataW.trod enc Tryz.prog W base sp held k 23 (([c0, c1, c2].drop 0).take (Tryz.prog.cellsOf 23)) = some y0 := hff 0 _ rfl
        have k1 : DataW.trod enc Tryz.prog W base sp held k 23 (([c0, c1, c2].drop 1).take (Tryz.prog.cellsOf 23)) = some y1 := hff 1 _ rfl
        have k2 : DataW.trod enc Tryz.prog W base sp held k 23 (([c0, c1, c2].drop 2).take (Tryz.prog.cellsOf 23)) = some y2 := hff 2 _ rfl
        rw [hone] at k0 k1 k2
        obtain ⟨u0, e0, _⟩ := DataW.trod_int Tryz.underlying23 k0
        obtain ⟨u1, e1, _⟩ := DataW.trod_int Tryz.underlying23 k1
        obtain ⟨u2, e2, _⟩ := DataW.trod_int Tryz.underlying23 k2
        simp at e0 e1 e2
        subst e0 e1 e2
        have g0 := hc 0 (by omega)
        have g1 := hc 1 (by omega)
        have g2 := hc 2 (by omega)
        rw [Deep.add_add, Lib.add_plain] at g0 g1 g2
        exact ⟨(u0, u1, u2), g0, g1, g2⟩)
    refine ⟨(List.range len).map V, Or.inr ⟨b, off, cap, by simp, hlt, timesAt_of hV⟩, Or.inr ⟨_, _, congrArg Prod.fst hx, by simp⟩⟩
end Go.Proofs.YtmhbpelbkeclpaaGreatDoor
