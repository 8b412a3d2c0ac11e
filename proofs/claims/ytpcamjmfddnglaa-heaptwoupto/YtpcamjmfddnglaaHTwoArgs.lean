import Derived.Test.YtpcamjmfddnglaaHTwo
import Derived.Test.YtpcamjmfddnglaaHArgs
import Derived.SliceStrings
import Derived.SizedLaws
namespace Go.Proofs.Ytpcamjmfddnglaa
open Go.ChangeShapes Go.WideShapes Go.ChangeAt Go.RowKit Go.Joins
theorem flS (l : List ByteArray) : fl Hs.ES l = l.map Value.string := by
  induction l with
  | nil => rfl
  | cons n N ih => rw [fl_cons, ih]; rfl
theorem bulk_one {H : Type} (d : DataW H) : 1 ≤ Rows.uptoBulk d := by
  cases d with
  | lit l => cases l <;> simp [Rows.uptoBulk]
  | nil => simp [Rows.uptoBulk]
  | ptr d => simp [Rows.uptoBulk]
  | slice elems spare => simp [Rows.uptoBulk]
  | agg parts => simp [Rows.uptoBulk]
  | iface t d => simp [Rows.uptoBulk]
  | map entries => simp [Rows.uptoBulk]
  | held h => simp [Rows.uptoBulk]
theorem bulk_len {H : Type} (l : List (DataW H)) : l.length ≤ Rows.uptoBulkAll l := by
  induction l with
  | nil => simp [Rows.uptoBulkAll]
  | cons x r ih => have := bulk_one x; simp only [Rows.uptoBulkAll, List.length_cons]; omega
theorem bulk_slice {H : Type} {elems spare r : List (DataW H)} : elems.length ≤ Rows.uptoBulkAll (.slice elems spare :: r) := by
  have h1 := bulk_len elems
  simp only [Rows.uptoBulkAll, Rows.uptoBulk]
  omega
set_option maxRecDepth 100000 in
/-- A list of words that came in. -/
theorem open_words {H : Type} {enc : TypeId × Value → H} {W : World} {r : Reach} {b0 base : Nat} {sp : Nat → Bool} {held : Bool} {v : Value} {d : DataW H} {p : List MemPlace} (hv : Value.okWide Try.prog W r b0 33 v) (h : DataW.Trod enc Try.prog W base sp held 33 v d p) :
    (∀ x ∈ p, x.block < W.heap.size) ∧ ∃ ts : List ByteArray, Ls Hs.ES W v ts ∧ ((d = .nil ∧ ts = []) ∨ ∃ spare, d = .slice (strs ts) spare) := by
  obtain ⟨a0, len, cap, rfl⟩ := okWide_slice Try.underlying33 hv
  obtain ⟨fuel, hf⟩ := h
  refine ⟨DataW.trod_lt fuel _ _ _ hf, ?_⟩
  rcases open_strings Try.underlying33 Try.underlying9 (by kernel_rfl) hf with ⟨hcs, hx⟩ | ⟨a, len', cap', ss, hcs, hb, hl, hm, hzl, hx, hall, _⟩
  · simp [Value.cells] at hcs
    obtain ⟨rfl, rfl, rfl⟩ := hcs
    exact ⟨[], Or.inl ⟨rfl, rfl⟩, Or.inl ⟨congrArg Prod.fst hx, rfl⟩⟩
  · simp [Value.cells] at hcs
    obtain ⟨rfl, rfl, rfl⟩ := hcs
    obtain ⟨hsp, hlt⟩ := has_lt Try.underlying33 hv
    obtain ⟨b, off, spot⟩ := a
    simp only at hsp hlt
    subst hsp
    have hlm : len ≤ ss.length := by rw [hzl]; split <;> omega
    have htl : (ss.take len).length = len := by simp; omega
    refine ⟨ss.take len, Or.inr ⟨b, off, cap, by rw [htl], hlt, fun j u hj => ?_⟩, Or.inr ⟨_, congrArg Prod.fst hx⟩⟩
    rw [flS] at hj
    rw [List.getElem?_map, List.getElem?_take] at hj
    split at hj
    · rename_i hjl
      have h1 := hall j (by omega)
      rw [addA] at h1
      rw [h1]
      rw [List.getElem?_eq_getElem (by omega)] at hj
      simp at hj
      rw [← hj]
      simp [List.getD, List.getElem?_eq_getElem (show j < ss.length by omega)]
    · simp at hj
end Go.Proofs.Ytpcamjmfddnglaa
