import Derived.Test.YtgojhhdjpkilmaaVWrt0
import Derived.Test.YtgojhhdjpkilmaaVRefR4
namespace Go.Proofs.Ytgojhhdjpkilmaa.Wi
open Go.RowKit Go.Sort

/-- A reader and the document's beside it. -/
structure Pq (w : World) (pb rb : Nat) (dp vr : Value) (L : List UInt8) (at_ e : Nat) : Prop where
  rd : Rd w pb dp L at_ e
  rf : Rr w rb vr L at_ e
  d1 : pb ≠ rb
  d2 : vr.ownBlock ≠ some pb
  d3 : dp.ownBlock ≠ some rb
section
variable {w w' : World} {pb rb e at_ : Nat} {dp vr : Value} {L : List UInt8}
theorem Pq.in (h : Pq w pb rb dp vr L at_ e) : ∀ q, PS pb rb dp vr q → q < w.heap.size := by
  rintro q (rfl | rfl | hq | hq)
  · exact h.rd.lt
  · exact h.rf.lt
  · exact h.rd.ls.blk q hq
  · exact h.rf.ls.blk q hq
theorem Pq.kp {S : Nat → Prop} (h : Pq w pb rb dp vr L at_ e) (hk : Kp S w w') (hS : ∀ q, PS pb rb dp vr q → ¬ S q) : Pq w' pb rb dp vr L at_ e :=
  ⟨h.rd.kp hk (hS pb (Or.inl rfl)) (fun k hk => hS k (Or.inr (Or.inr (Or.inl hk)))), h.rf.kp hk (hS rb (Or.inr (Or.inl rfl))) (fun k hk => hS k (Or.inr (Or.inr (Or.inr hk)))), h.d1, h.d2, h.d3⟩
theorem Pq.below (h : Pq w pb rb dp vr L at_ e) (hb : Below w.heap.size w w') : Pq w' pb rb dp vr L at_ e := h.kp (S := fun _ => False) (Kp.of_below hb) (fun _ _ h => h)
/-- The other one stays as one has read. -/
theorem Pq.left (h : Pq w pb rb dp vr L at_ e) (hk : Kp (fun k => k = pb) w w') : Rr w' rb vr L at_ e := h.rf.kp hk (fun e => h.d1 e.symm) (fun _ hk e => h.d2 (e ▸ hk))
theorem Pq.right (h : Pq w pb rb dp vr L at_ e) (hk : Kp (fun k => k = rb) w w') : Rd w' pb dp L at_ e := h.rd.kp hk h.d1 (fun _ hk e => h.d3 (e ▸ hk))
end
structure Qk (w : World) (pb rb : Nat) (dp vr : Value) (L : List UInt8) (at_ e : Nat) (kb : Nat) (sl sw : Value) (n : Nat) (V : Nat → Value) (C : Nat → List UInt8) : Prop where
  pr : Pq w pb rb dp vr L at_ e
  bk : Bok w kb sl sw n V C
  dj : ∀ q, PS pb rb dp vr q → ¬ KS kb sl sw n V q
theorem Qk.below {w w' : World} {pb rb e at_ kb n : Nat} {dp vr sl sw : Value} {L : List UInt8} {V : Nat → Value} {C : Nat → List UInt8} (h : Qk w pb rb dp vr L at_ e kb sl sw n V C) (hb : Below w.heap.size w w') : Qk w' pb rb dp vr L at_ e kb sl sw n V C := ⟨h.pr.below hb, h.bk.below hb, h.dj⟩
/-- What one call leaves. -/
structure Qs (w w' : World) (pb rb : Nat) (dp vr : Value) (L : List UInt8) (kb : Nat) (sl sw : Value) (n : Nat) (V : Nat → Value) (C : Nat → List UInt8) (vr' : Value) (at' e' : Nat) (sl' sw' : Value) (n' : Nat) (V' : Nat → Value) (C' : Nat → List UInt8) : Prop where
  wk : Qk w' pb rb dp vr' L at' e' kb sl' sw' n' V' C'
  kp : Kp (fun q => PS pb rb dp vr q ∨ KS kb sl sw n V q) w w'
  ext : ∀ q, PS pb rb dp vr' q ∨ KS kb sl' sw' n' V' q → (PS pb rb dp vr q ∨ KS kb sl sw n V q) ∨ w.heap.size ≤ q
  cnt : n' ≤ n + 1
  own : ∀ i, i < n' → (i < n ∧ C' i = C i) ∨ (C' i).length ≤ L.length
section
variable {w w' : World} {pb rb e at_ kb n at' e' : Nat} {dp vr vr' sl sw : Value} {L : List UInt8} {V : Nat → Value} {C : Nat → List UInt8}
/-- Both have read, the book is as it was. -/
theorem Qk.fin (h : Qk w pb rb dp vr L at_ e kb sl sw n V C) (h1 : Rd w' pb dp L at' e') (h2 : Rr w' rb vr' L at' e') (hb : ∀ k, vr'.ownBlock = some k → vr.ownBlock = some k) (hk : Kp (fun k => k = pb ∨ k = rb) w w') :
    Qs w w' pb rb dp vr L kb sl sw n V C vr' at' e' sl sw n V C := by
  have hps : ∀ q, PS pb rb dp vr' q → PS pb rb dp vr q := fun q hq => hq.imp id (fun h => h.imp id (fun h => h.imp id (fun h => hb q h)))
  have hk2 : Kp (PS pb rb dp vr) w w' := hk.mono (fun q h => h.elim Or.inl (fun h => Or.inr (Or.inl h)))
  exact ⟨⟨⟨h1, h2, h.pr.d1, fun e => h.pr.d2 (hb pb e), h.pr.d3⟩, h.bk.kp hk2 (fun q hq e => h.dj q e hq), fun q hq => h.dj q (hps q hq)⟩, hk2.mono (fun _ h => Or.inl h), fun q hq => Or.inl (hq.imp (hps q) id), by omega, fun i hi => Or.inl ⟨hi, rfl⟩⟩
end
theorem Qs.more {w w1 w2 : World} {pb rb kb n at' e' n' : Nat} {dp vr vr' sl sw sl' sw' : Value} {L : List UInt8} {V V' : Nat → Value} {C C' : Nat → List UInt8} (h : Qs w w1 pb rb dp vr L kb sl sw n V C vr' at' e' sl' sw' n' V' C') (hk : Gr w1 w2) : Qs w w2 pb rb dp vr L kb sl sw n V C vr' at' e' sl' sw' n' V' C' :=
  ⟨h.wk.below hk.below, h.kp.trans (Kp.of_gr hk) (fun _ _ h => h), h.ext, h.cnt, h.own⟩
/-- A list is kept besides. -/
theorem Qs.keep {w w8 w9 : World} {pb rb kb n at' e' : Nat} {dp vr vr' sl sw sl' sw' a : Value} {L X : List UInt8} {V : Nat → Value} {C : Nat → List UInt8} (h : Qs w w8 pb rb dp vr L kb sl sw n V C vr' at' e' sl sw n V C) (ha : ∀ q, a.ownBlock = some q → w.heap.size ≤ q) (hbk : ∀ q, PS pb rb dp vr q ∨ KS kb sl sw n V q → q < w.heap.size) (hps : ∀ q, PS pb rb dp vr' q → PS pb rb dp vr q) (hX : X.length ≤ L.length)
    (hK : Bok w9 kb sl' sw' (n + 1) (addV n V a) (addC n C X)) (hk : Kp (fun q => q = kb ∨ sl.ownBlock = some q ∨ sw.ownBlock = some q) w8 w9) (hx : ∀ q, KS kb sl' sw' (n + 1) (addV n V a) q → KS kb sl sw n V q ∨ a.ownBlock = some q ∨ w8.heap.size ≤ q) :
    Qs w w9 pb rb dp vr L kb sl sw n V C vr' at' e' sl' sw' (n + 1) (addV n V a) (addC n C X) := by
  have hz := h.kp.size
  have hks : ∀ q, (q = kb ∨ sl.ownBlock = some q ∨ sw.ownBlock = some q) → KS kb sl sw n V q := fun q e => e.elim Or.inl (fun e => e.elim (fun e => Or.inr (Or.inl e)) (fun e => Or.inr (Or.inr (Or.inl e))))
  have hxx : ∀ q, KS kb sl' sw' (n + 1) (addV n V a) q → KS kb sl sw n V q ∨ w.heap.size ≤ q := fun q hq => by
    rcases hx q hq with h1 | h1 | h1
    · exact Or.inl h1
    · exact Or.inr (ha q h1)
    · exact Or.inr (by omega)
  refine ⟨⟨h.wk.pr.kp hk (fun q hq e => h.wk.dj q hq (hks q e)), hK, fun q hq hkq => ?_⟩, h.kp.trans (hk.mono (fun q e => Or.inr (hks q e))) (fun _ _ h => h), fun q hq => ?_, by omega, fun i hi => ?_⟩
  · rcases hxx q hkq with h1 | h1
    · exact h.wk.dj q hq h1
    · have := hbk q (Or.inl (hps q hq)); omega
  · rcases hq with h1 | h1
    · exact Or.inl (Or.inl (hps q h1))
    · exact (hxx q h1).imp Or.inr id
  · by_cases e1 : i = n
    · right; simp only [addC, if_pos e1]; exact hX
    · left; refine ⟨by omega, ?_⟩; simp only [addC, if_neg e1]
end Go.Proofs.Ytgojhhdjpkilmaa.Wi
