import Derived.Test.YtbomkeginbhhoaaCJoin
import Derived.Test.YtbomkeginbhhoaaCFam
namespace Go.Proofs.Ytbomkeginbhhoaa
open Go.RowKit Go.Sort

/-- All blocks of v bear the tag t. -/
def Tg (ow : Nat → Nat) (t : Nat) (v : Value) : Prop := ∀ g, v.ownBlock = some g → ow g = t
/-- Below s as it was, from s on by f. -/
def ext (ow : Nat → Nat) (s : Nat) (f : Nat → Nat) (k : Nat) : Nat := if k < s then ow k else f k
theorem ext_lt {ow : Nat → Nat} {s : Nat} {f : Nat → Nat} {k : Nat} (h : k < s) : ext ow s f k = ow k := if_pos h
theorem ext_ge {ow : Nat → Nat} {s : Nat} {f : Nat → Nat} {k : Nat} (h : s ≤ k) : ext ow s f k = f k := if_neg (Nat.not_lt.2 h)
theorem Tg.ext {ow : Nat → Nat} {s : Nat} {f : Nat → Nat} {t : Nat} {v : Value} (h : Tg ow t v) (hv : ∀ g, v.ownBlock = some g → g < s) : Tg (ext ow s f) t v := fun g hg => by rw [ext_lt (hv g hg)]; exact h g hg
theorem owns_lt {W : World} {b : Nat} {e : TypeId} {s : Nat} {v : Value} {n : Nat} {xs : List Value} (h : W.ownsRow b e s v n xs) : ∀ g, v.ownBlock = some g → g < W.heap.size := fun g hg => (h.lt g hg).2

/-- What the script holds: chains, the document's chains, lists that were answered: each block has one owner. -/
structure Scr (w0 W : World) (kind : Int) (fb ff : Nat) (m nb : Nat) (cb rb : Nat → Nat) (v rv : Nat → Value) (L : Nat → List P2) (V Wv : Nat → Value) (D : Nat → List P2) (ow : Nat → Nat) (sC sR sB : Value) : Prop where
  ch : ∀ i, i < m → Ch W (cb i) fb ff (v i) (L i) ∧ ow (cb i) = 3 + 2 * i ∧ Tg ow (3 + 2 * i) (v i)
  rf : ∀ i, i < m → RCh W (rb i) kind (rv i) (L i) ∧ ow (rb i) = 4 + 2 * i ∧ Tg ow (4 + 2 * i) (rv i)
  cs : W.ownsRow 0 23 1 sC m ((List.range m).map fun i => .pointer (some ⟨cb i, 0, none⟩)) ∧ Tg ow 0 sC
  rs : W.ownsRow 0 49 1 sR m ((List.range m).map fun i => .pointer (some ⟨rb i, 0, none⟩)) ∧ Tg ow 1 sR
  bk : W.ownsRow 0 58 3 sB nb ((List.range nb).flatMap fun p => [V (2 * p), V (2 * p + 1), Wv p]) ∧ Tg ow 2 sB
  pg : ∀ p, p < nb → (W.ownsRow 0 28 2 (V (2 * p)) (D p).length (flatP (D p)) ∧ Tg ow (20 + 3 * p) (V (2 * p))) ∧ (W.ownsRow 0 28 2 (V (2 * p + 1)) (D p).length (flatP (D p)) ∧ Tg ow (21 + 3 * p) (V (2 * p + 1))) ∧ (W.ownsRow 0 28 2 (Wv p) (D p).length (flatP (D p)) ∧ Tg ow (22 + 3 * p) (Wv p))
  old : ∀ k, k < w0.heap.size → ow k = 14
  size : w0.heap.size ≤ W.heap.size
  below : Below w0.heap.size w0 W
  five : m ≤ 5

section
variable {w0 W W' : World} {kind : Int} {fb ff m nb : Nat} {cb rb : Nat → Nat} {v rv : Nat → Value} {L : Nat → List P2} {V Wv : Nat → Value} {D : Nat → List P2} {ow : Nat → Nat} {sC sR sB : Value}
/-- Nothing old has turned. -/
theorem Scr.kept (h : Scr w0 W kind fb ff m nb cb rb v rv L V Wv D ow sC sR sB) (hb : Below W.heap.size W W') : Scr w0 W' kind fb ff m nb cb rb v rv L V Wv D ow sC sR sB :=
  ⟨fun i hi => ⟨(h.ch i hi).1.below hb, (h.ch i hi).2⟩, fun i hi => ⟨(h.rf i hi).1.below hb, (h.rf i hi).2⟩, ⟨owns_below h.cs.1 hb, h.cs.2⟩, ⟨owns_below h.rs.1 hb, h.rs.2⟩, ⟨owns_below h.bk.1 hb, h.bk.2⟩,
    fun p hp => ⟨⟨owns_below (h.pg p hp).1.1 hb, (h.pg p hp).1.2⟩, ⟨owns_below (h.pg p hp).2.1.1 hb, (h.pg p hp).2.1.2⟩, ⟨owns_below (h.pg p hp).2.2.1 hb, (h.pg p hp).2.2.2⟩⟩,
    h.old, Nat.le_trans h.size hb.size, h.below.trans (hb.mono h.size), h.five⟩

/-- A call on chain number i, and on the document's. -/
theorem Scr.step (h : Scr w0 W kind fb ff m nb cb rb v rv L V Wv D ow sC sR sB) {i : Nat} (hi : i < m) {v' rv' : Value} {L' : List P2} (hc : Ch W' (cb i) fb ff v' L') (hr : RCh W' (rb i) kind rv' L')
    (hk : Kp (fun k => ow k = 3 + 2 * i ∨ ow k = 4 + 2 * i) W W') (hv : ∀ g, v'.ownBlock = some g → (v i).ownBlock = some g ∨ W.heap.size ≤ g) (hrv : ∀ g, rv'.ownBlock = some g → (rv i).ownBlock = some g ∨ W.heap.size ≤ g) (hne : ∀ g, v'.ownBlock = some g → rv'.ownBlock ≠ some g) :
    ∃ ow', Scr w0 W' kind fb ff m nb cb rb (fun j => if j = i then v' else v j) (fun j => if j = i then rv' else rv j) (fun j => if j = i then L' else L j) V Wv D ow' sC sR sB := by
  have h5 := h.five
  refine ⟨ext ow W.heap.size (fun k => open Classical in if rv'.ownBlock = some k then 4 + 2 * i else 3 + 2 * i), ?_⟩
  have keep : ∀ {e : TypeId} {s : Nat} {u : Value} {n : Nat} {xs : List Value} {t : Nat}, t ≠ 3 + 2 * i → t ≠ 4 + 2 * i → W.ownsRow 0 e s u n xs ∧ Tg ow t u → W'.ownsRow 0 e s u n xs ∧ Tg (ext ow W.heap.size (fun k => open Classical in if rv'.ownBlock = some k then 4 + 2 * i else 3 + 2 * i)) t u := fun h1 h2 h3 =>
    ⟨owns_kp hk h3.1 (fun q hq e => by rw [h3.2 q hq] at e; omega), h3.2.ext (owns_lt h3.1)⟩
  refine ⟨fun j hj => ?_, fun j hj => ?_, keep (by omega) (by omega) h.cs, keep (by omega) (by omega) h.rs, keep (by omega) (by omega) h.bk, fun p hp => ⟨keep (by omega) (by omega) (h.pg p hp).1, keep (by omega) (by omega) (h.pg p hp).2.1, keep (by omega) (by omega) (h.pg p hp).2.2⟩, fun k hk' => ?_, Nat.le_trans h.size hk.size, ?_, h.five⟩
  · obtain ⟨c1, c2, c3⟩ := h.ch j hj
    by_cases e : j = i
    · subst e
      simp only [if_pos]
      refine ⟨hc, by rw [ext_lt c1.lt]; exact c2, fun g hg => ?_⟩
      by_cases hg2 : g < W.heap.size
      · rw [ext_lt hg2]
        rcases hv g hg with h1 | h1
        · exact c3 g h1
        · omega
      · rw [ext_ge (Nat.not_lt.1 hg2), if_neg (hne g hg)]
    · simp only [if_neg e]
      exact ⟨c1.kp hk (fun e' => by rw [c2] at e'; omega) (fun q hq e' => by rw [c3 q hq] at e'; omega), by rw [ext_lt c1.lt]; exact c2, c3.ext c1.row⟩
  · obtain ⟨c1, c2, c3⟩ := h.rf j hj
    by_cases e : j = i
    · subst e
      simp only [if_pos]
      refine ⟨hr, by rw [ext_lt c1.lt]; exact c2, fun g hg => ?_⟩
      by_cases hg2 : g < W.heap.size
      · rw [ext_lt hg2]
        rcases hrv g hg with h1 | h1
        · exact c3 g h1
        · omega
      · rw [ext_ge (Nat.not_lt.1 hg2), if_pos hg]
    · simp only [if_neg e]
      exact ⟨c1.kp hk (fun e' => by rw [c2] at e'; omega) (fun q hq e' => by rw [c3 q hq] at e'; omega), by rw [ext_lt c1.lt]; exact c2, c3.ext c1.row⟩
  · rw [ext_lt (Nat.lt_of_lt_of_le hk' h.size)]; exact h.old k hk'
  · refine h.below.trans (hk.below h.size (fun k hk' => ?_))
    rcases Nat.lt_or_ge k w0.heap.size with hlt | hge
    · have := h.old k hlt; omega
    · exact hge
end
end Go.Proofs.Ytbomkeginbhhoaa
