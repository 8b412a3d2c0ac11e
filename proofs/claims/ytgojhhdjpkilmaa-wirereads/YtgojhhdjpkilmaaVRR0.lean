import Derived.Test.YtgojhhdjpkilmaaVRds0
namespace Go.Proofs.Ytgojhhdjpkilmaa.Wi
open Go.RowKit Go.Sort

structure Qv where
  pb : Nat
  rb : Nat
  dp : Value
  vr : Value
  L : List UInt8
  at_ : Nat
  e : Nat
structure Bq where
  kb : Nat
  sl : Value
  sw : Value
  n : Nat
  V : Nat → Value
  C : Nat → List UInt8
abbrev Qv.ok (w : World) (p : Qv) : Prop := Pq w p.pb p.rb p.dp p.vr p.L p.at_ p.e
abbrev Qv.s (p : Qv) : Nat → Prop := PS p.pb p.rb p.dp p.vr
abbrev Bq.ok (w : World) (k : Bq) : Prop := Bok w k.kb k.sl k.sw k.n k.V k.C
abbrev Bq.s (k : Bq) : Nat → Prop := KS k.kb k.sl k.sw k.n k.V
/-- Two pairs of readers and the book. -/
structure RRI (w0 wr : World) (p1 p2 : Qv) (k : Bq) (M i : Nat) : Prop where
  o1 : p1.ok wr
  o2 : p2.ok wr
  ok : k.ok wr
  d12 : ∀ q, p1.s q → ¬ p2.s q
  d1k : ∀ q, p1.s q → ¬ k.s q
  d2k : ∀ q, p2.s q → ¬ k.s q
  ge : ∀ q, p1.s q ∨ p2.s q ∨ k.s q → w0.heap.size ≤ q
  bl : Below w0.heap.size w0 wr
  l1 : p1.L.length ≤ M
  l2 : p2.L.length ≤ M
  cn : k.n ≤ i
  cl : ∀ j, j < k.n → (k.C j).length ≤ M
theorem RRI.swap {w0 wr : World} {p1 p2 : Qv} {k : Bq} {M i : Nat} (h : RRI w0 wr p1 p2 k M i) : RRI w0 wr p2 p1 k M i :=
  ⟨h.o2, h.o1, h.ok, fun q h2 h1 => h.d12 q h1 h2, h.d2k, h.d1k, fun q hq => h.ge q (hq.elim (fun h => Or.inr (Or.inl h)) (fun h => h.elim Or.inl (fun h => Or.inr (Or.inr h)))), h.bl, h.l2, h.l1, h.cn, h.cl⟩
theorem RRI.wk {w0 wr : World} {p1 p2 : Qv} {k : Bq} {M i : Nat} (h : RRI w0 wr p1 p2 k M i) : Qk wr p1.pb p1.rb p1.dp p1.vr p1.L p1.at_ p1.e k.kb k.sl k.sw k.n k.V k.C := ⟨h.o1, h.ok, h.d1k⟩
theorem RRI.step {w0 wr w' : World} {p1 p2 : Qv} {k : Bq} {M i at' e' n' : Nat} {vr' sl' sw' : Value} {V' : Nat → Value} {C' : Nat → List UInt8} (h : RRI w0 wr p1 p2 k M i) (hs : Qs wr w' p1.pb p1.rb p1.dp p1.vr p1.L k.kb k.sl k.sw k.n k.V k.C vr' at' e' sl' sw' n' V' C') :
    RRI w0 w' ⟨p1.pb, p1.rb, p1.dp, vr', p1.L, at', e'⟩ p2 ⟨k.kb, sl', sw', n', V', C'⟩ M (i + 1) := by
  have h2 : ∀ q, p2.s q → ¬ (p1.s q ∨ k.s q) := fun q hq e => e.elim (fun e => h.d12 q e hq) (fun e => h.d2k q hq e)
  have hin : ∀ q, p2.s q → q < wr.heap.size := h.o2.in
  have l1 := h.l1
  have cn := h.cn
  have hc := hs.cnt
  refine ⟨hs.wk.pr, h.o2.kp hs.kp h2, hs.wk.bk, fun q h1 hq => ?_, hs.wk.dj, fun q hq hk => ?_, fun q hq => ?_, h.bl.trans (hs.kp.below h.bl.size (fun q hq => h.ge q (hq.elim Or.inl (fun e => Or.inr (Or.inr e))))), l1, h.l2, by show n' ≤ i + 1; omega, fun j hj => ?_⟩
  · rcases hs.ext q (Or.inl h1) with h3 | h3
    · exact h2 q hq h3
    · have := hin q hq; omega
  · rcases hs.ext q (Or.inr hk) with h3 | h3
    · exact h2 q hq h3
    · have := hin q hq; omega
  · have hz := h.bl.size
    rcases hq with hq | hq | hq
    · rcases hs.ext q (Or.inl hq) with h3 | h3
      · exact h.ge q (h3.elim Or.inl (fun e => Or.inr (Or.inr e)))
      · omega
    · exact h.ge q (Or.inr (Or.inl hq))
    · rcases hs.ext q (Or.inr hq) with h3 | h3
      · exact h.ge q (h3.elim Or.inl (fun e => Or.inr (Or.inr e)))
      · omega
  · show (C' j).length ≤ M
    rcases hs.own j hj with ⟨h3, h4⟩ | h3
    · rw [h4]; exact h.cl j h3
    · omega
end Go.Proofs.Ytgojhhdjpkilmaa.Wi
