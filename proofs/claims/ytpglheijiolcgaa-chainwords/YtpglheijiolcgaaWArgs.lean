import Derived.Test.YtpglheijiolcgaaWWalk
import Derived.Test.YtpglheijiolcgaaCArgs
import Derived.SliceStrings
import Derived.SizedLaws
namespace Go.Proofs.Ytpglheijiolcgaa
open Go.ChangeShapes Go.WideShapes Go.ChangeAt Go.RowKit Go.Joins

theorem weightsAll_in {H : Type} {P : Program} {e : TypeId} : ∀ {l : List (DataW H)} {d : DataW H}, d ∈ l → ∀ n ∈ d.weights P e, n ∈ DataW.weightsAll P e l
  | d' :: r, d, hd, n, hn => by
    simp only [DataW.weightsAll, List.mem_append]
    rcases List.mem_cons.1 hd with rfl | h
    · exact Or.inl hn
    · exact Or.inr (weightsAll_in h n hn)
theorem sized_words {H : Type} {P : Program} {ts : List TypeId} {ds : List (DataW H)} (h : (DataW.weightsEach P ts ds).all (· ≤ reachBytes) = true) {j : Nat} {t e : TypeId} {elems spare : List (DataW H)} {bytes : List UInt8}
    (ht : ts[j]? = some t) (hd : ds[j]? = some (.slice elems spare)) (hu : P.underlying t = some (.slice e)) (hx : DataW.lit (.string bytes) ∈ elems) : bytes.length ≤ reachBytes := by
  refine of_decide_eq_true (List.all_eq_true.1 h _ (DataW.weights_mem_each ht hd _ ?_))
  simp only [DataW.weights, hu, List.mem_cons, List.mem_append]
  exact Or.inr (Or.inl (weightsAll_in hx _ (by simp [DataW.weights])))

set_option maxRecDepth 100000 in
/-- A list of words that came in. -/
theorem open_words {H : Type} {enc : TypeId × Value → H} {W : World} {r : Reach} {b0 base : Nat} {sp : Nat → Bool} {held : Bool} {v : Value} {d : DataW H} {p : List MemPlace} (hv : Value.okWide Try.prog W r b0 40 v) (h : DataW.Trod enc Try.prog W base sp held 40 v d p) :
    (∀ x ∈ p, x.block < W.heap.size) ∧ ∃ ts : List ByteArray, Wd.Lst W v ts ∧ ((d = .nil ∧ ts = []) ∨ ∃ spare, d = .slice (strs ts) spare) := by
  obtain ⟨a0, len, cap, rfl⟩ := okWide_slice Try.underlying40 hv
  obtain ⟨fuel, hf⟩ := h
  refine ⟨DataW.trod_lt fuel _ _ _ hf, ?_⟩
  rcases open_strings Try.underlying40 Try.underlying9 (by kernel_rfl) hf with ⟨hcs, hx⟩ | ⟨a, len', cap', ss, hcs, hb, hl, hm, hzl, hx, hall, _⟩
  · simp [Value.cells] at hcs
    obtain ⟨rfl, rfl, rfl⟩ := hcs
    exact ⟨[], Or.inl ⟨rfl, rfl⟩, Or.inl ⟨congrArg Prod.fst hx, rfl⟩⟩
  · simp [Value.cells] at hcs
    obtain ⟨rfl, rfl, rfl⟩ := hcs
    obtain ⟨hsp, hlt⟩ := has_lt Try.underlying40 hv
    obtain ⟨b, off, spot⟩ := a
    simp only at hsp hlt
    subst hsp
    have hlm : len ≤ ss.length := by rw [hzl]; split <;> omega
    have htl : (ss.take len).length = len := by simp; omega
    refine ⟨ss.take len, Or.inr ⟨b, off, cap, by rw [htl], hlt, fun j u hj => ?_⟩, Or.inr ⟨_, congrArg Prod.fst hx⟩⟩
    unfold Wd.flatP at hj
    rw [List.getElem?_map, List.getElem?_take] at hj
    split at hj
    · rename_i hjl
      have h1 := hall j (by omega)
      rw [addP] at h1
      rw [h1]
      rw [List.getElem?_eq_getElem (by omega)] at hj
      simp at hj
      rw [← hj]
      simp [List.getD, List.getElem?_eq_getElem (show j < ss.length by omega)]
    · simp at hj
end Go.Proofs.Ytpglheijiolcgaa
