import Derived.Test.YtmhbpelbkeclpaaGreatDoorArgs
import Derived.Test.YtmhbpelbkeclpaaGreatDoorLists
import Derived.Deep.Slices
import Derived.ChangeOld
namespace Go.Proofs.YtmhbpelbkeclpaaGreatDoor
open Go.ChangeShapes Go.WideShapes Go.ChangeAt Go.RowKit Go.Joins

theorem has_lt {P : Program} {W : World} {r : Reach} {b0 : Nat} {t e : TypeId} {a : Addr} {len cap : Nat} (ht : P.underlying t = some (.slice e)) (hv : Value.okWide P W r b0 t (.slice (some a) len cap)) : a.spot = none ∧ a.block < W.heap.size := by
  simp only [Value.okWide, ht, Cell.okWide, Cell.ok] at hv
  obtain ⟨_, _, _, hs, row, cells, hsh, _⟩ := hv
  refine ⟨hs, ?_⟩
  unfold World.shape? at hsh
  split at hsh
  · rename_i h
    exact (Array.getElem?_eq_some_iff.1 h).1
  · cases hsh
theorem timesAt_of {W : World} {b off n : Nat} {V : Nat → T3} (h : ∀ i, i < n → W.cell? ⟨b, off + i * 3, none⟩ = some (.int .u64 (V i).1) ∧ W.cell? ⟨b, off + i * 3 + 1, none⟩ = some (.int .u64 (V i).2.1) ∧ W.cell? ⟨b, off + i * 3 + 2, none⟩ = some (.int .u64 (V i).2.2)) :
    TimesAt W b off ((List.range n).map V) := by
  intro j u hj
  have hjl : j < n * 3 := by
    have := (List.getElem?_eq_some_iff.1 hj).1
    rw [flat_length] at this
    simpa using this
  have hi : j / 3 < n := by omega
  have hd : j / 3 * 3 + j % 3 = j := by omega
  have hg := flat_get ((List.range n).map V) (j / 3) (j % 3) (V (j / 3)) (by simp [hi]) (by omega)
  rw [hd, hj] at hg
  obtain ⟨h0, h1, h2⟩ := h (j / 3) hi
  have h3 : j % 3 = 0 ∨ j % 3 = 1 ∨ j % 3 = 2 := by omega
  rcases h3 with e | e | e
  · rw [e] at hg
    have hu : u = .int .u64 (V (j / 3)).1 := by simpa [encT] using hg
    rw [hu, show off + j = off + j / 3 * 3 by omega]; exact h0
  · rw [e] at hg
    have hu : u = .int .u64 (V (j / 3)).2.1 := by simpa [encT] using hg
    rw [hu, show off + j = off + j / 3 * 3 + 1 by omega]; exact h1
  · rw [e] at hg
    have hu : u = .int .u64 (V (j / 3)).2.2 := by simpa [encT] using hg
    rw [hu, show off + j = off + j / 3 * 3 + 2 by omega]; exact h2

set_option maxRecDepth 100000 in
/-- A list of times that came in. -/
theorem open_times {H : Type} {enc : TypeId × Value → H} {W : World} {r : Reach} {b0 base : Nat} {sp : Nat → Bool} {held : Bool} {v : Value} {d : DataW H} {p : List MemPlace} (hv : Value.okWide Tryz.prog W r b0 22 v) (h : DataW.Trod enc Tryz.prog W base sp held 22 v d p) :
    (∀ x ∈ p, x.block < W.heap.size) ∧ ∃ ts : List T3, Lst W v ts ∧ ((d = .nil ∧ ts = []) ∨ ∃ elems spare, d = .slice elems spare ∧ elems.length = ts.length) := by
  obtain ⟨a0, len, cap, rfl⟩ := okWide_slice Tryz.underlying22 hv
  obtain ⟨fuel, hf⟩ := h
  refine ⟨DataW.trod_lt fuel _ _ _ hf, ?_⟩
  rcases Deep.open_slice Tryz.underlying22 hf with ⟨hcs, hx⟩ | ⟨a, len', cap', m, n, D, Pl, hcs, hb, hl, hm, hmm, hx, hall⟩
  · simp [Value.cells] at hcs
    obtain ⟨rfl, rfl, rfl⟩ := hcs
    exact ⟨[], Or.inl ⟨rfl, rfl⟩, Or.inl ⟨congrArg Prod.fst hx, rfl⟩⟩
  · simp [Value.cells] at hcs
    obtain ⟨rfl, rfl, rfl⟩ := hcs
    obtain ⟨hsp, hlt⟩ := has_lt Tryz.underlying22 hv
    obtain ⟨b, off, spot⟩ := a
    simp only at hsp hlt
    subst hsp
    have hlm : len ≤ m := by rw [hmm]; split <;> omega
    obtain ⟨V, hV⟩ := Deep.choose_lt (α := T3) (p := fun i t => W.cell? ⟨b, off + i * 3, none⟩ = some (.int .u64 t.1) ∧ W.cell? ⟨b, off + i * 3 + 1, none⟩ = some (.int .u64 t.2.1) ∧ W.cell? ⟨b, off + i * 3 + 2, none⟩ = some (.int .u64 t.2.2)) (n := len) (fun i hi => by
      obtain ⟨cs', h1, h2⟩ := hall i (by omega)
      rw [cellsT] at h1
      obtain ⟨_, hl3, hc⟩ := World.cells?_some h1
      obtain ⟨xs, k, hk, hxy, _, hxl, hff⟩ := DataW.trod_struct Tryz.underlying25 h2
      have hone : Tryz.prog.cellsOf 23 = 1 := by kernel_rfl
      match cs', hl3, xs, hxl with
      | [c0, c1, c2], _, [y0, y1, y2], _ =>
        have k0 : DataW.trod enc Tryz.prog W base sp held k 23 (([c0, c1, c2].drop 0).take (Tryz.prog.cellsOf 23)) = some y0 := hff 0 _ rfl
        have k1 : DataW.trod enc Tryz.prog W base sp held k 23 (([c0, c1, c2].drop 1).take (Tryz.prog.cellsOf 23)) = some y1 := hff 1 _ rfl
        have k2 : DataW.trod enc Tryz.prog W base sp held k 23 (([c0, c1, c2].drop 2).take (Tryz.prog.cellsOf 23)) = some y2 := hff 2 _ rfl
        rw [hone] at k0 k1 k2
        obtain ⟨u0, e0, _⟩ := DataW.trod_int Tryz.underlying23 k0
        obtain ⟨u1, e1, _⟩ := DataW.trod_int Tryz.underlying23 k1
        obtain ⟨u2, e2, _⟩ := DataW.trod_int Tryz.underlying23 k2
        simp at e0 e1 e2
        subst e0 e1 e2
        have g0 := hc 0 (by omega)
        have g1 := hc 1 (by omega)
        have g2 := hc 2 (by omega)
        rw [Deep.add_add, Lib.add_plain] at g0 g1 g2
        exact ⟨(u0, u1, u2), g0, g1, g2⟩)
    refine ⟨(List.range len).map V, Or.inr ⟨b, off, cap, by simp, hlt, timesAt_of hV⟩, Or.inr ⟨_, _, congrArg Prod.fst hx, by simp⟩⟩
end Go.Proofs.YtmhbpelbkeclpaaGreatDoor
