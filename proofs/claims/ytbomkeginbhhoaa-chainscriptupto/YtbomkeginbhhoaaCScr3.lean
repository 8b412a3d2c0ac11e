import Derived.Test.YtbomkeginbhhoaaCScr2
namespace Go.Proofs.Ytbomkeginbhhoaa
open Go.RowKit Go.Sort

section
variable {w0 W W1 W2 W3 W4 : World} {kind : Int} {fb ff m nb : Nat} {cb rb : Nat → Nat} {v rv : Nat → Value} {L : Nat → List P2} {V Wv : Nat → Value} {D : Nat → List P2} {ow : Nat → Nat} {sC sR sB : Value}

theorem ptr_map (f f' : Nat → Nat) (m : Nat) (h : ∀ j, j < m → f' j = f j) : ((List.range (m + 1)).map fun i => Value.pointer (some ⟨f' i, 0, none⟩)) = ((List.range m).map fun i => Value.pointer (some ⟨f i, 0, none⟩)) ++ [.pointer (some ⟨f' m, 0, none⟩)] := by
  rw [List.range_succ, List.map_append]
  congr 1
  refine List.map_congr_left fun i hi => ?_
  rw [h i (List.mem_range.1 hi)]

/-- A chain is copied, and the document's. -/
theorem Scr.copy (h : Scr w0 W kind fb ff m nb cb rb v rv L V Wv D ow sC sR sB) (hm : m < 5) {i : Nat} {cb2 rb2 : Nat → Nat} {v2 rv2 : Nat → Value} {L2 : Nat → List P2} {sC' sR' : Value}
    (e1 : ∀ j, j < m → cb2 j = cb j) (e2 : ∀ j, j < m → rb2 j = rb j) (e3 : ∀ j, j < m → v2 j = v j) (e4 : ∀ j, j < m → rv2 j = rv j) (e5 : ∀ j, j < m → L2 j = L j) (e6 : L2 m = L i)
    (b1 : Below W.heap.size W W1) (hc : Ch W1 (cb2 m) fb ff (v2 m) (L i)) (hc1 : W.heap.size ≤ cb2 m) (hc2 : ∀ g, (v2 m).ownBlock = some g → W.heap.size ≤ g)
    (k2 : Kp (fun q => sC.ownBlock = some q) W1 W2) (hs : W2.ownsRow 0 23 1 sC' (m + 1) (((List.range m).map fun i => .pointer (some ⟨cb i, 0, none⟩)) ++ [.pointer (some ⟨cb2 m, 0, none⟩)])) (hsl : ∀ g, sC'.ownBlock = some g → sC.ownBlock = some g ∨ W1.heap.size ≤ g)
    (b3 : Below W2.heap.size W2 W3) (hr : RCh W3 (rb2 m) kind (rv2 m) (L i)) (hr1 : W2.heap.size ≤ rb2 m) (hr2 : ∀ g, (rv2 m).ownBlock = some g → W2.heap.size ≤ g)
    (k4 : Kp (fun q => sR.ownBlock = some q) W3 W4) (ht : W4.ownsRow 0 49 1 sR' (m + 1) (((List.range m).map fun i => .pointer (some ⟨rb i, 0, none⟩)) ++ [.pointer (some ⟨rb2 m, 0, none⟩)])) (htl : ∀ g, sR'.ownBlock = some g → sR.ownBlock = some g ∨ W3.heap.size ≤ g) :
    ∃ ow', Scr w0 W4 kind fb ff (m + 1) nb cb2 rb2 v2 rv2 L2 V Wv D ow' sC' sR' sB := by
  have z1 := b1.size
  have z2 := k2.size
  have z3 := b3.size
  have z4 := k4.size
  obtain ⟨f, hf⟩ : ∃ f : Nat → Nat, f = fun k => if k < W1.heap.size then 3 + 2 * m else if k < W2.heap.size then 0 else if k < W3.heap.size then 4 + 2 * m else 1 := ⟨_, rfl⟩
  have hcl : ∀ g, sC.ownBlock = some g → g < W.heap.size := owns_lt h.cs.1
  have hrl : ∀ g, sR.ownBlock = some g → g < W.heap.size := owns_lt h.rs.1
  have K2 : Kp (fun q => ow q = 0 ∧ q < W.heap.size) W1 W2 := ⟨k2.os, k2.tape, k2.output, k2.size, fun q hq hn => k2.block q hq (fun e => hn ⟨h.cs.2 q e, hcl q e⟩)⟩
  have K4 : Kp (fun q => ow q = 1 ∧ q < W.heap.size) W3 W4 := ⟨k4.os, k4.tape, k4.output, k4.size, fun q hq hn => k4.block q hq (fun e => hn ⟨h.rs.2 q e, hrl q e⟩)⟩
  have KA : Kp (fun q => (ow q = 0 ∨ ow q = 1) ∧ q < W.heap.size) W W4 :=
    (((Kp.of_below b1 : Kp (fun q => (ow q = 0 ∨ ow q = 1) ∧ q < W.heap.size) W W1).trans K2 (fun _ _ h => ⟨Or.inl h.1, h.2⟩)).trans (Kp.of_below b3 : Kp (fun _ => False) W2 W3) (fun _ _ h => h.elim)).trans K4 (fun _ _ h => ⟨Or.inr h.1, h.2⟩)
  have keep : ∀ {e : TypeId} {s : Nat} {u : Value} {n : Nat} {xs : List Value} {t : Nat}, t ≠ 0 → t ≠ 1 → (W.ownsRow 0 e s u n xs ∧ Tg ow t u) → W4.ownsRow 0 e s u n xs ∧ Tg (ext ow W.heap.size f) t u := fun h1 h2 h3 =>
    ⟨owns_kp KA h3.1 (fun q hq e => by rw [h3.2 q hq] at e; omega), h3.2.ext (owns_lt h3.1)⟩
  have hc3 : Ch W4 (cb2 m) fb ff (v2 m) (L i) := ((hc.kp K2 (fun e => by omega) (fun q hq e => by have := hc2 q hq; omega)).below b3).kp K4 (fun e => by omega) (fun q hq e => by have := hc2 q hq; omega)
  have hr3 : RCh W4 (rb2 m) kind (rv2 m) (L i) := hr.kp K4 (fun e => by omega) (fun q hq e => by have := hr2 q hq; omega)
  refine ⟨ext ow W.heap.size f, ?_⟩
  refine ⟨fun j hj => ?_, fun j hj => ?_, ⟨?_, fun g hg => ?_⟩, ⟨?_, fun g hg => ?_⟩, keep (by omega) (by omega) h.bk, fun p hp => ⟨keep (by omega) (by omega) (h.pg p hp).1, keep (by omega) (by omega) (h.pg p hp).2.1, keep (by omega) (by omega) (h.pg p hp).2.2⟩, fun k hk' => ?_, Nat.le_trans h.size KA.size, ?_, hm⟩
  · by_cases e : j = m
    · subst e
      rw [e6]
      refine ⟨hc3, ?_, fun g hg => ?_⟩
      · rw [ext_ge hc1, hf]
        simp only [if_pos hc.lt]
      · rw [ext_ge (hc2 g hg), hf]
        simp only [if_pos (hc.row g hg)]
    · have hj' : j < m := by omega
      obtain ⟨c1, c2, c3⟩ := h.ch j hj'
      rw [e1 j hj', e3 j hj', e5 j hj']
      exact ⟨c1.kp KA (fun e' => by rw [c2] at e'; omega) (fun q hq e' => by rw [c3 q hq] at e'; omega), by rw [ext_lt c1.lt]; exact c2, c3.ext c1.row⟩
  · by_cases e : j = m
    · subst e
      rw [e6]
      refine ⟨hr3, ?_, fun g hg => ?_⟩
      · have := hr.lt
        rw [ext_ge (by omega), hf]
        simp only [if_neg (show ¬ rb2 j < W1.heap.size by omega), if_neg (show ¬ rb2 j < W2.heap.size by omega), if_pos this]
      · have h1 := hr.row g hg
        have h2 := hr2 g hg
        rw [ext_ge (by omega), hf]
        simp only [if_neg (show ¬ g < W1.heap.size by omega), if_neg (show ¬ g < W2.heap.size by omega), if_pos h1]
    · have hj' : j < m := by omega
      obtain ⟨c1, c2, c3⟩ := h.rf j hj'
      rw [e2 j hj', e4 j hj', e5 j hj']
      exact ⟨c1.kp KA (fun e' => by rw [c2] at e'; omega) (fun q hq e' => by rw [c3 q hq] at e'; omega), by rw [ext_lt c1.lt]; exact c2, c3.ext c1.row⟩
  · rw [ptr_map cb cb2 m e1]
    refine owns_kp K4 (owns_below hs b3) (fun q hq e => ?_)
    rcases hsl q hq with h1 | h1
    · rw [h.cs.2 q h1] at e; omega
    · omega
  · rcases hsl g hg with h1 | h1
    · rw [ext_lt (hcl g h1)]; exact h.cs.2 g h1
    · have := owns_lt hs g hg
      rw [ext_ge (by omega), hf]
      simp only [if_neg (show ¬ g < W1.heap.size by omega), if_pos this]
  · rw [ptr_map rb rb2 m e2]
    exact ht
  · rcases htl g hg with h1 | h1
    · rw [ext_lt (hrl g h1)]; exact h.rs.2 g h1
    · rw [ext_ge (by omega), hf]
      simp only [if_neg (show ¬ g < W1.heap.size by omega), if_neg (show ¬ g < W2.heap.size by omega), if_neg (show ¬ g < W3.heap.size by omega)]
  · rw [ext_lt (Nat.lt_of_lt_of_le hk' h.size)]; exact h.old k hk'
  · refine h.below.trans (KA.below h.size (fun k hk' => ?_))
    rcases Nat.lt_or_ge k w0.heap.size with hlt | hge
    · have := h.old k hlt; omega
    · exact hge
end
end Go.Proofs.Ytbomkeginbhhoaa
