import Derived.Test.YtdiecnacbkpceaaGArgs
namespace Go.Proofs.Ytdiecnacbkpceaa.Df
open Go.ChangeShapes Go.WideShapes Go.ChangeAt Go.RowKit Go.Joins

set_option maxRecDepth 100000 in
/-- What is asked, as it came in. -/
theorem open_ask {H : Type} {enc : TypeId × Value → H} {W : World} {r : Reach} {b0 base : Nat} {sp : Nat → Bool} {held : Bool} {v : Value} {d : DataW H} {p : List MemPlace} (hv : Value.okWide Try.prog W r b0 52 v) (h : DataW.Trod enc Try.prog W base sp held 52 v d p) :
    (∀ x ∈ p, x.block < W.heap.size) ∧ ∃ a b c : Int, v = .agg #[.int .i64 a, .int .i64 b, .int .i64 c] := by
  have hlt : ∀ x ∈ p, x.block < W.heap.size := by
    obtain ⟨fuel, hf⟩ := h
    exact DataW.trod_lt fuel _ _ _ hf
  refine ⟨hlt, ?_⟩
  obtain ⟨c0, c1, c2, y0, y1, y2, m, rfl, rfl, rfl, h0, h1, h2⟩ := open_agg3 Try.underlying52 (by kernel_rfl) (by kernel_rfl) hv h
  obtain ⟨a, rfl, ta⟩ := trod_i h0
  obtain ⟨b, rfl, tb⟩ := trod_i h1
  obtain ⟨c, rfl, tc⟩ := trod_i h2
  exact ⟨a, b, c, rfl⟩
end Go.Proofs.Ytdiecnacbkpceaa.Df
