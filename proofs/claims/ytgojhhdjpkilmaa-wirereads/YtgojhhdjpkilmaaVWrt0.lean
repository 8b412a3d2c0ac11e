import Derived.Test.YtgojhhdjpkilmaaVBook
import Derived.Test.YtgojhhdjpkilmaaVLent
import Derived.Test.YtgojhhdjpkilmaaVRefW
import Derived.Test.YtgojhhdjpkilmaaVOp
namespace Go.Proofs.Ytgojhhdjpkilmaa.Wi
open Go.RowKit Go.Sort

/-- A writer and the document's beside it. -/
structure Pr (w : World) (wb rb : Nat) (vw vr : Value) (L : List UInt8) (e : Nat) : Prop where
  wt : Wr w wb vw L e
  rf : Rw w rb vr L e
  d1 : wb ≠ rb
  d2 : vr.ownBlock ≠ some wb
  d3 : vw.ownBlock ≠ some rb
  d4 : ∀ k, vw.ownBlock = some k → vr.ownBlock ≠ some k
/-- Their blocks. -/
def PS (wb rb : Nat) (vw vr : Value) (q : Nat) : Prop := q = wb ∨ q = rb ∨ vw.ownBlock = some q ∨ vr.ownBlock = some q
section
variable {w w' : World} {wb rb e : Nat} {vw vr : Value} {L : List UInt8}
theorem Pr.in (h : Pr w wb rb vw vr L e) : ∀ q, PS wb rb vw vr q → q < w.heap.size := by
  rintro q (rfl | rfl | hq | hq)
  · exact h.wt.lt
  · exact h.rf.lt
  · exact h.wt.row q hq
  · exact h.rf.row q hq
theorem Pr.kp {S : Nat → Prop} (h : Pr w wb rb vw vr L e) (hk : Kp S w w') (hS : ∀ q, PS wb rb vw vr q → ¬ S q) : Pr w' wb rb vw vr L e :=
  ⟨h.wt.kp hk (hS wb (Or.inl rfl)) (fun k hk => hS k (Or.inr (Or.inr (Or.inl hk)))), h.rf.kp hk (hS rb (Or.inr (Or.inl rfl))) (fun k hk => hS k (Or.inr (Or.inr (Or.inr hk)))), h.d1, h.d2, h.d3, h.d4⟩
theorem Pr.below (h : Pr w wb rb vw vr L e) (hb : Below w.heap.size w w') : Pr w' wb rb vw vr L e := h.kp (S := fun _ => False) (Kp.of_below hb) (fun _ _ h => h)
/-- The writer has put something: the document's is as it was. -/
theorem Pr.left {w1 : World} {v1 : Value} {L1 : List UInt8} {e1 : Nat} (h : Pr w wb rb vw vr L e) (_h1 : Wr w1 wb v1 L1 e1) (t1 : Turn wb vw v1 w w1) : Rw w1 rb vr L e :=
  h.rf.kp t1.1 (fun e => e.elim (fun e => h.d1 e.symm) (fun e => h.d3 e)) (fun k hk e => e.elim (fun e => h.d2 (e ▸ hk)) (fun e => h.d4 k e hk))
/-- Both have put something. -/
theorem Pr.both {w1 w2 w3 : World} {v1 v2 : Value} {L1 : List UInt8} {e1 : Nat} (h : Pr w wb rb vw vr L e) (h1 : Wr w1 wb v1 L1 e1) (t1 : Turn wb vw v1 w w1) (b2 : Below w1.heap.size w1 w2) (h3 : Rw w3 rb v2 L1 e1) (t3 : Turn rb vr v2 w2 w3) :
    Pr w3 wb rb v1 v2 L1 e1 ∧ Kp (PS wb rb vw vr) w w3 ∧ ∀ q, PS wb rb v1 v2 q → PS wb rb vw vr q ∨ w.heap.size ≤ q := by
  have hr := h.left h1 t1
  have z1 := t1.1.size
  have z2 := b2.size
  have hwlt := h.wt.lt
  have hrlt := h.rf.lt
  have hv1 : ∀ k, v1.ownBlock = some k → vw.ownBlock = some k ∨ w.heap.size ≤ k := t1.2
  have hv2 : ∀ k, v2.ownBlock = some k → vr.ownBlock = some k ∨ w.heap.size ≤ k := fun k hk => (t3.2 k hk).imp id (fun h => by omega)
  have hv1l : ∀ k, v1.ownBlock = some k → k < w1.heap.size := h1.row
  have hvr : ∀ k, vr.ownBlock = some k → k < w.heap.size := h.rf.row
  have d3 : v1.ownBlock ≠ some rb := fun e => by
    rcases hv1 rb e with h4 | h4
    · exact h.d3 h4
    · omega
  have d4 : ∀ k, v1.ownBlock = some k → vr.ownBlock ≠ some k := fun k hk e => by
    rcases hv1 k hk with h4 | h4
    · exact h.d4 k h4 e
    · have := hvr k e; omega
  refine ⟨⟨(h1.below b2).kp t3.1 (fun e => e.elim h.d1 h.d2) (fun k hk e => e.elim (fun e => d3 (e ▸ hk)) (fun e => d4 k hk e)), h3, h.d1, fun e => ?_, d3, fun k hk e => ?_⟩, ?_, fun q hq => ?_⟩
  · rcases hv2 wb e with h4 | h4
    · exact h.d2 h4
    · omega
  · rcases t3.2 k e with h4 | h4
    · exact d4 k hk h4
    · have := hv1l k hk; omega
  · refine ((t1.1.mono (fun k hk => ?_)).trans (Kp.of_below b2) (fun _ _ h => h)).trans (t3.1.mono (fun k hk => ?_)) (fun _ _ h => h)
    · exact hk.elim (fun h => Or.inl h) (fun h => Or.inr (Or.inr (Or.inl h)))
    · exact hk.elim (fun h => Or.inr (Or.inl h)) (fun h => Or.inr (Or.inr (Or.inr h)))
  · rcases hq with h4 | h4 | h4 | h4
    · exact Or.inl (Or.inl h4)
    · exact Or.inl (Or.inr (Or.inl h4))
    · exact (hv1 q h4).imp (fun h => Or.inr (Or.inr (Or.inl h))) id
    · exact (hv2 q h4).imp (fun h => Or.inr (Or.inr (Or.inr h))) id
end
/-- A pair and the book. -/
structure Wk (w : World) (wb rb : Nat) (vw vr : Value) (L : List UInt8) (e : Nat) (kb : Nat) (sl sw : Value) (n : Nat) (V : Nat → Value) (C : Nat → List UInt8) : Prop where
  pr : Pr w wb rb vw vr L e
  bk : Bok w kb sl sw n V C
  dj : ∀ q, PS wb rb vw vr q → ¬ KS kb sl sw n V q
section
variable {w w' : World} {wb rb e kb n : Nat} {vw vr sl sw : Value} {L : List UInt8} {V : Nat → Value} {C : Nat → List UInt8}
theorem Wk.below (h : Wk w wb rb vw vr L e kb sl sw n V C) (hb : Below w.heap.size w w') : Wk w' wb rb vw vr L e kb sl sw n V C := ⟨h.pr.below hb, h.bk.below hb, h.dj⟩
theorem Wk.kp {S : Nat → Prop} (h : Wk w wb rb vw vr L e kb sl sw n V C) (hk : Kp S w w') (hS : ∀ q, S q → w.heap.size ≤ q) : Wk w' wb rb vw vr L e kb sl sw n V C :=
  h.below ⟨hk.os, hk.tape, hk.output, hk.size, fun k hk' => hk.block k hk' (fun e => by have := hS k e; omega)⟩
end
/-- What one call leaves. -/
structure Ws (w w' : World) (wb rb : Nat) (vw vr : Value) (L : List UInt8) (kb : Nat) (sl sw : Value) (n : Nat) (V : Nat → Value) (C : Nat → List UInt8) (m : Nat) (vw' vr' : Value) (L' : List UInt8) (e' : Nat) (sl' sw' : Value) (n' : Nat) (V' : Nat → Value) (C' : Nat → List UInt8) : Prop where
  wk : Wk w' wb rb vw' vr' L' e' kb sl' sw' n' V' C'
  kp : Kp (fun q => PS wb rb vw vr q ∨ KS kb sl sw n V q) w w'
  ext : ∀ q, PS wb rb vw' vr' q ∨ KS kb sl' sw' n' V' q → (PS wb rb vw vr q ∨ KS kb sl sw n V q) ∨ w.heap.size ≤ q
  len : L'.length ≤ L.length + m
  cnt : n' ≤ n + 2
  own : ∀ i, i < n' → (i < n ∧ C' i = C i) ∨ C' i = L
/-- Both have put something, the book is as it was. -/
theorem Wk.put {w W1 w1 w2 w3 : World} {wb rb e kb n m e1 : Nat} {vw vr sl sw v1 v2 : Value} {L L1 : List UInt8} {V : Nat → Value} {C : Nat → List UInt8} (h : Wk w wb rb vw vr L e kb sl sw n V C) (hg : Below w.heap.size w W1)
    (h1 : Wr w1 wb v1 L1 e1) (t1 : Turn wb vw v1 W1 w1) (b2 : Below w1.heap.size w1 w2) (h3 : Rw w3 rb v2 L1 e1) (t3 : Turn rb vr v2 w2 w3) (hl : L1.length ≤ L.length + m) :
    Ws w w3 wb rb vw vr L kb sl sw n V C m v1 v2 L1 e1 sl sw n V C := by
  obtain ⟨p1, p2, p3⟩ := (h.below hg).pr.both h1 t1 b2 h3 t3
  have z := hg.size
  have p3' : ∀ q, PS wb rb v1 v2 q → PS wb rb vw vr q ∨ w.heap.size ≤ q := fun q hq => (p3 q hq).imp id (fun h => by omega)
  refine ⟨⟨p1, (h.below hg).bk.kp p2 (fun q hq e => h.dj q e hq), fun q hq hk => ?_⟩, (Kp.of_below hg).trans (p2.mono (fun _ h => Or.inl h)) (fun _ _ h => h), fun q hq => ?_, hl, by omega, fun i hi => Or.inl ⟨hi, rfl⟩⟩
  · rcases p3' q hq with h4 | h4
    · exact h.dj q h4 hk
    · have := h.bk.in q hk; omega
  · rcases hq with h4 | h4
    · exact (p3' q h4).imp Or.inl id
    · exact Or.inl (Or.inr h4)
/-- Nothing has turned. -/
theorem Wk.same {w w' : World} {wb rb e kb n : Nat} {vw vr sl sw : Value} {L : List UInt8} {V : Nat → Value} {C : Nat → List UInt8} (h : Wk w wb rb vw vr L e kb sl sw n V C) (hb : Below w.heap.size w w') (m : Nat) :
    Ws w w' wb rb vw vr L kb sl sw n V C m vw vr L e sl sw n V C :=
  ⟨h.below hb, Kp.of_below hb, fun _ hq => Or.inl hq, by omega, by omega, fun i hi => Or.inl ⟨hi, rfl⟩⟩
/-- Behind it blocks of its own may turn. -/
theorem Ws.more {w w1 w2 : World} {S : Nat → Prop} {wb rb e' kb n m n' : Nat} {vw vr sl sw vw' vr' sl' sw' : Value} {L L' : List UInt8} {V V' : Nat → Value} {C C' : Nat → List UInt8} (h : Ws w w1 wb rb vw vr L kb sl sw n V C m vw' vr' L' e' sl' sw' n' V' C') (hk : Kp S w1 w2) (hS : ∀ q, S q → w.heap.size ≤ q ∧ ¬ (PS wb rb vw' vr' q ∨ KS kb sl' sw' n' V' q)) :
    Ws w w2 wb rb vw vr L kb sl sw n V C m vw' vr' L' e' sl' sw' n' V' C' :=
  ⟨⟨h.wk.pr.kp hk (fun q hq e => (hS q e).2 (Or.inl hq)), h.wk.bk.kp hk (fun q hq e => (hS q e).2 (Or.inr hq)), h.wk.dj⟩, h.kp.trans hk (fun q hq e => by have := (hS q e).1; omega), h.ext, h.len, h.cnt, h.own⟩
end Go.Proofs.Ytgojhhdjpkilmaa.Wi
