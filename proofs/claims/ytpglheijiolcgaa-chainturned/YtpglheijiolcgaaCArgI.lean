import Derived.Test.YtpglheijiolcgaaCTurn
import Derived.Test.YtpglheijiolcgaaCArgs
import Derived.ChangeSlices
namespace Go.Proofs.Ytpglheijiolcgaa
open Go.ChangeShapes Go.WideShapes Go.ChangeAt Go.RowKit Go.Joins

set_option maxRecDepth 100000 in
/-- A list of whole numbers that came in. -/
theorem open_numbers {H : Type} {enc : TypeId × Value → H} {W : World} {r : Reach} {b0 base : Nat} {sp : Nat → Bool} {held : Bool} {v : Value} {d : DataW H} {p : List MemPlace} (hv : Value.okWide Try.prog W r b0 33 v) (h : DataW.Trod enc Try.prog W base sp held 33 v d p) :
    (∀ x ∈ p, x.block < W.heap.size) ∧ ∃ n : Nat, LstI W v n ∧ ((d = .nil ∧ n = 0) ∨ ∃ elems spare, d = .slice elems spare ∧ elems.length = n) := by
  obtain ⟨a0, len, cap, rfl⟩ := okWide_slice Try.underlying33 hv
  obtain ⟨fuel, hf⟩ := h
  refine ⟨DataW.trod_lt fuel _ _ _ hf, ?_⟩
  rcases open_ints Try.underlying33 Try.underlying3 (by kernel_rfl) hf with ⟨hcs, hx⟩ | ⟨a, len', cap', zs, hcs, hb, hl, hm, hzl, hx, hall, _⟩
  · simp [Value.cells] at hcs
    obtain ⟨rfl, rfl, rfl⟩ := hcs
    exact ⟨0, ⟨_, _, rfl, fun i hi => absurd hi (Nat.not_lt_zero _)⟩, Or.inl ⟨congrArg Prod.fst hx, rfl⟩⟩
  · simp [Value.cells] at hcs
    obtain ⟨rfl, rfl, rfl⟩ := hcs
    obtain ⟨hsp, hlt⟩ := has_lt Try.underlying33 hv
    obtain ⟨b, off, spot⟩ := a
    simp only at hsp hlt
    subst hsp
    have hlm : len ≤ zs.length := by rw [hzl]; split <;> omega
    refine ⟨len, ⟨_, _, rfl, fun i hi => ⟨b, off, zs.getD i 0, rfl, hlt, ?_⟩⟩, Or.inr ⟨_, _, congrArg Prod.fst hx, by simp [lits]; omega⟩⟩
    have := hall i (by omega)
    rw [addP] at this
    exact this
end Go.Proofs.Ytpglheijiolcgaa
