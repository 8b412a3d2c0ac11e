import Derived.Test.YtbomkeginbhhoaaCScr
namespace Go.Proofs.Ytbomkeginbhhoaa
open Go.RowKit Go.Sort

section
variable {w0 W W1 W2 W3 W4 : World} {kind : Int} {fb ff m nb : Nat} {cb rb : Nat → Nat} {v rv : Nat → Value} {L : Nat → List P2} {V Wv : Nat → Value} {D : Nat → List P2} {ow : Nat → Nat} {sC sR sB : Value}

theorem page_map (V Wv V' Wv' : Nat → Value) (nb : Nat) (hV : ∀ j, j < 2 * nb → V' j = V j) (hW : ∀ p, p < nb → Wv' p = Wv p) :
    ((List.range (nb + 1)).flatMap fun p => [V' (2 * p), V' (2 * p + 1), Wv' p]) = ((List.range nb).flatMap fun p => [V (2 * p), V (2 * p + 1), Wv p]) ++ [V' (2 * nb), V' (2 * nb + 1), Wv' nb] := by
  rw [List.range_succ, List.flatMap_append]
  have e : ((List.range nb).map fun p => [V' (2 * p), V' (2 * p + 1), Wv' p]) = ((List.range nb).map fun p => [V (2 * p), V (2 * p + 1), Wv p]) := by
    refine List.map_congr_left fun p hp => ?_
    have := List.mem_range.1 hp
    rw [hV _ (by omega), hV _ (by omega), hW _ this]
  rw [List.flatMap_def, e, ← List.flatMap_def]
  simp

/-- A list is answered twice, and written down. -/
theorem Scr.page (h : Scr w0 W kind fb ff m nb cb rb v rv L V Wv D ow sC sR sB) {a b wt sB' : Value} {d : List P2} {V' Wv' : Nat → Value} {D' : Nat → List P2} (e1 : ∀ j, j < 2 * nb → V' j = V j) (e2 : V' (2 * nb) = a) (e3 : V' (2 * nb + 1) = b) (e4 : ∀ p, p < nb → Wv' p = Wv p) (e5 : Wv' nb = wt) (e6 : ∀ p, p < nb → D' p = D p) (e7 : D' nb = d) (b1 : Below W.heap.size W W1) (b2 : Below W1.heap.size W1 W2) (b3 : Below W2.heap.size W2 W3)
    (hw : W1.ownsRow W.heap.size 28 2 wt d.length (flatP d)) (ha : W2.ownsRow W1.heap.size 28 2 a d.length (flatP d)) (hb : W3.ownsRow W2.heap.size 28 2 b d.length (flatP d))
    (hs : W4.ownsRow 0 58 3 sB' (nb + 1) (((List.range nb).flatMap fun p => [V (2 * p), V (2 * p + 1), Wv p]) ++ [a, b, wt])) (hk : Kp (fun q => sB.ownBlock = some q) W3 W4) (hsl : ∀ g, sB'.ownBlock = some g → sB.ownBlock = some g ∨ W3.heap.size ≤ g) :
    ∃ ow', Scr w0 W4 kind fb ff m (nb + 1) cb rb v rv L V' Wv' D' ow' sC sR sB' := by
  have z1 := b1.size
  have z2 := b2.size
  have z3 := b3.size
  have z4 := hk.size
  have h3 := ((h.kept b1).kept b2).kept b3
  obtain ⟨f, hf⟩ : ∃ f : Nat → Nat, f = fun k => if k < W1.heap.size then 22 + 3 * nb else if k < W2.heap.size then 20 + 3 * nb else if k < W3.heap.size then 21 + 3 * nb else 2 := ⟨_, rfl⟩
  have hbl : ∀ g, sB.ownBlock = some g → g < W.heap.size := owns_lt h.bk.1
  have K : Kp (fun q => ow q = 2 ∧ q < W.heap.size) W3 W4 := ⟨hk.os, hk.tape, hk.output, hk.size, fun q hq hn => hk.block q hq (fun e => hn ⟨h.bk.2 q e, hbl q e⟩)⟩
  have keep : ∀ {e : TypeId} {s : Nat} {u : Value} {n : Nat} {xs : List Value} {t : Nat}, t ≠ 2 → (W.ownsRow 0 e s u n xs ∧ Tg ow t u) → W3.ownsRow 0 e s u n xs → W4.ownsRow 0 e s u n xs ∧ Tg (ext ow W.heap.size f) t u := fun ht h1 h2 =>
    ⟨owns_kp K h2 (fun q hq e => ht (by rw [← h1.2 q hq]; exact e.1)), h1.2.ext (owns_lt h1.1)⟩
  have fresh : ∀ {u : Value} {n : Nat} {xs : List Value} {e : TypeId} {s lo : Nat}, W3.ownsRow lo e s u n xs → W.heap.size ≤ lo → W4.ownsRow 0 e s u n xs := fun h1 h2 =>
    owns_base (owns_kp K h1 (fun q hq e => by have := (h1.lt q hq).1; omega)) (Nat.zero_le _)
  refine ⟨ext ow W.heap.size f, ?_⟩
  refine ⟨fun i hi => ?_, fun i hi => ?_, keep (by omega) h.cs h3.cs.1, keep (by omega) h.rs h3.rs.1, ⟨?_, fun g hg => ?_⟩, fun p hp => ?_, fun k hk' => ?_, Nat.le_trans h3.size z4, ?_, h.five⟩
  · obtain ⟨c1, c2, c3⟩ := h.ch i hi
    exact ⟨(h3.ch i hi).1.kp K (fun e => by rw [c2] at e; omega) (fun q hq e => by rw [c3 q hq] at e; omega), by rw [ext_lt c1.lt]; exact c2, c3.ext c1.row⟩
  · obtain ⟨c1, c2, c3⟩ := h.rf i hi
    exact ⟨(h3.rf i hi).1.kp K (fun e => by rw [c2] at e; omega) (fun q hq e => by rw [c3 q hq] at e; omega), by rw [ext_lt c1.lt]; exact c2, c3.ext c1.row⟩
  · rw [page_map V Wv V' Wv' nb e1 e4, e2, e3, e5]
    exact hs
  · rcases hsl g hg with h1 | h1
    · rw [ext_lt (hbl g h1)]; exact h.bk.2 g h1
    · rw [ext_ge (by omega), hf]
      simp only [if_neg (show ¬ g < W1.heap.size by omega), if_neg (show ¬ g < W2.heap.size by omega), if_neg (show ¬ g < W3.heap.size by omega)]
  · by_cases e : p = nb
    · subst e
      rw [e2, e3, e5, e7]
      refine ⟨⟨fresh (owns_below ha b3) z1, fun g hg => ?_⟩, ⟨fresh hb (Nat.le_trans z1 z2), fun g hg => ?_⟩, ⟨fresh (owns_below (owns_below hw b2) b3) (Nat.le_refl _), fun g hg => ?_⟩⟩
      · have := ha.lt g hg
        rw [ext_ge (by omega), hf]
        simp only [if_neg (show ¬ g < W1.heap.size by omega), if_pos (show g < W2.heap.size by omega)]
      · have := hb.lt g hg
        rw [ext_ge (by omega), hf]
        simp only [if_neg (show ¬ g < W1.heap.size by omega), if_neg (show ¬ g < W2.heap.size by omega), if_pos (show g < W3.heap.size by omega)]
      · have := hw.lt g hg
        rw [ext_ge (by omega), hf]
        simp only [if_pos (show g < W1.heap.size by omega)]
    · have hp' : p < nb := by omega
      rw [e1 _ (by omega), e1 _ (by omega), e4 p hp', e6 p hp']
      exact ⟨keep (by omega) (h.pg p hp').1 (h3.pg p hp').1.1, keep (by omega) (h.pg p hp').2.1 (h3.pg p hp').2.1.1, keep (by omega) (h.pg p hp').2.2 (h3.pg p hp').2.2.1⟩
  · rw [ext_lt (Nat.lt_of_lt_of_le hk' h.size)]; exact h.old k hk'
  · refine h3.below.trans (K.below h3.size (fun k hk' => ?_))
    rcases Nat.lt_or_ge k w0.heap.size with hlt | hge
    · have := h.old k hlt; omega
    · exact hge
end
end Go.Proofs.Ytbomkeginbhhoaa
