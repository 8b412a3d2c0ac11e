import Derived.Test.YtbomkeginbhhoaaCInv
namespace Go.Proofs.Ytbomkeginbhhoaa
open Go.RowKit Go.Sort

theorem page_len (V Wv : Nat → Value) (nb : Nat) : ((List.range nb).flatMap fun p => [V (2 * p), V (2 * p + 1), Wv p]).length = nb * 3 := by
  induction nb with
  | zero => rfl
  | succ n ih => rw [List.range_succ, List.flatMap_append, List.length_append, ih]; simp; omega
theorem page_get (V Wv : Nat → Value) (nb p q : Nat) (hp : p < nb) (hq : q < 3) : ((List.range nb).flatMap fun p => [V (2 * p), V (2 * p + 1), Wv p])[p * 3 + q]? = [V (2 * p), V (2 * p + 1), Wv p][q]? := by
  induction nb with
  | zero => omega
  | succ n ih =>
    rw [List.range_succ, List.flatMap_append]
    by_cases h : p < n
    · rw [List.getElem?_append_left (by rw [page_len]; omega)]
      exact ih h
    · have e : p = n := by omega
      subst e
      rw [List.getElem?_append_right (by rw [page_len]; omega), page_len, show p * 3 + q - p * 3 = q by omega]
      simp

/-- The book out of what the script holds. -/
theorem Scr.book {w0 W : World} {kind : Int} {fb ff m nb : Nat} {cb rb : Nat → Nat} {v rv : Nat → Value} {L : Nat → List P2} {V Wv : Nat → Value} {D : Nat → List P2} {ow : Nat → Nat} {sC sR sB : Value} (h : Scr w0 W kind fb ff m nb cb rb v rv L V Wv D ow sC sR sB)
    (hD : ∀ p, p < nb → (D p).length ≤ 1048576) (hnb : nb ≤ 1048576) : ∃ pb bb c, sB = .slice pb nb c ∧ Book W nb bb 0 pb V Wv D ∧ ∀ i, i < 2 * nb → ∀ g, (V i).ownBlock = some g → w0.heap.size ≤ g := by
  have ev : ∀ i, i < 2 * nb → (W.ownsRow 0 28 2 (V i) (D (i / 2)).length (flatP (D (i / 2)))) ∧ ∀ g, (V i).ownBlock = some g → ow g = 20 + 3 * (i / 2) + i % 2 := fun i hi => by
    obtain ⟨⟨a1, a2⟩, ⟨b1, b2⟩, -⟩ := h.pg (i / 2) (by omega)
    rcases Nat.mod_two_eq_zero_or_one i with e | e
    · have e2 : 2 * (i / 2) = i := by omega
      rw [e2] at a1 a2
      exact ⟨a1, fun g hg => by rw [a2 g hg]; omega⟩
    · have e2 : 2 * (i / 2) + 1 = i := by omega
      rw [e2] at b1 b2
      exact ⟨b1, fun g hg => by rw [b2 g hg]; omega⟩
  have hfam : Fam W (2 * nb) V (fun i => D (i / 2)) := ⟨fun i hi => (ev i hi).1, fun i j hi hj hne g hg e => by
    have h1 := (ev i hi).2 g hg
    have h2 := (ev j hj).2 g e
    omega⟩
  have hB : ∀ i, i < 2 * nb → ∀ g, (V i).ownBlock = some g → w0.heap.size ≤ g := fun i hi g hg => by
    rcases Nat.lt_or_ge g w0.heap.size with hl | hl
    · have h1 := h.old g hl
      have h2 := (ev i hi).2 g hg
      omega
    · exact hl
  obtain ⟨_, ⟨h0, h1⟩ | ⟨g, cap, cur, h0, hbg, hgg, _⟩⟩ := id h.bk.1
  · refine ⟨none, 0, 0, by rw [h0, h1], ⟨fun hm => by omega, fun i hi => by omega, fun i hi => by omega, fun i hi => by omega, fun i hi => by omega, hfam, hD, hnb⟩, hB⟩
  · have hc : ∀ p q x, p < nb → q < 3 → [V (2 * p), V (2 * p + 1), Wv p][q]? = some x → W.cell? ⟨g, p * 3 + q, none⟩ = some x := fun p q x hp hq hx => by
      have := h.bk.1.cells (g := g) (by rw [h0]; rfl) (p * 3 + q) x (by rw [page_get V Wv nb p q hp hq]; exact hx)
      rw [addP, Nat.zero_add] at this
      exact this
    refine ⟨some ⟨g, 0, none⟩, g, cap, h0, ⟨fun _ => ⟨rfl, (Array.getElem?_eq_some_iff.1 hgg).1⟩, fun i hi => ?_, fun i hi => ?_, fun i hi => ?_, fun i hi => owns_lst (h.pg i hi).2.2.1, hfam, hD, hnb⟩, hB⟩
    · rw [Nat.zero_add]; exact hc i 0 _ hi (by decide) rfl
    · rw [Nat.zero_add]; exact hc i 1 _ hi (by decide) rfl
    · rw [Nat.zero_add]; exact hc i 2 _ hi (by decide) rfl
end Go.Proofs.Ytbomkeginbhhoaa
