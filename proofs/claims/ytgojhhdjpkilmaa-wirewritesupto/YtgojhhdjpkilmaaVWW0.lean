import Derived.Test.YtgojhhdjpkilmaaVWrt0
namespace Go.Proofs.Ytgojhhdjpkilmaa.Wi
open Go.RowKit Go.Sort

structure Pv where
  wb : Nat
  rb : Nat
  vw : Value
  vr : Value
  L : List UInt8
  e : Nat
structure Bv where
  kb : Nat
  sl : Value
  sw : Value
  n : Nat
  V : Nat → Value
  C : Nat → List UInt8
abbrev Pv.ok (w : World) (p : Pv) : Prop := Pr w p.wb p.rb p.vw p.vr p.L p.e
abbrev Pv.s (p : Pv) : Nat → Prop := PS p.wb p.rb p.vw p.vr
abbrev Bv.ok (w : World) (k : Bv) : Prop := Bok w k.kb k.sl k.sw k.n k.V k.C
abbrev Bv.s (k : Bv) : Nat → Prop := KS k.kb k.sl k.sw k.n k.V
/-- How much the first calls put at most. -/
def tsum (os : List Opw) (i : Nat) : Nat := ((os.take i).map (fun o => 10 + o.l.length)).sum
theorem tsum_succ {os : List Opw} {i : Nat} {o : Opw} (h : os[i]? = some o) : tsum os (i + 1) = tsum os i + (10 + o.l.length) := by
  unfold tsum
  rw [List.take_add_one, h]
  simp
theorem tsum_le (os : List Opw) (i : Nat) : tsum os i ≤ (os.map (fun o => 10 + o.l.length)).sum := by
  unfold tsum
  conv => rhs; rw [← List.take_append_drop i os, List.map_append, List.sum_append]
  omega
/-- Two pairs and the book. -/
structure WWI (w0 wr : World) (p1 p2 : Pv) (k : Bv) (T i : Nat) : Prop where
  o1 : p1.ok wr
  o2 : p2.ok wr
  ok : k.ok wr
  d12 : ∀ q, p1.s q → ¬ p2.s q
  d1k : ∀ q, p1.s q → ¬ k.s q
  d2k : ∀ q, p2.s q → ¬ k.s q
  ge : ∀ q, p1.s q ∨ p2.s q ∨ k.s q → w0.heap.size ≤ q
  bl : Below w0.heap.size w0 wr
  l1 : p1.L.length ≤ T
  l2 : p2.L.length ≤ T
  cn : k.n ≤ 2 * i
  cl : ∀ j, j < k.n → (k.C j).length ≤ T
theorem WWI.swap {w0 wr : World} {p1 p2 : Pv} {k : Bv} {T i : Nat} (h : WWI w0 wr p1 p2 k T i) : WWI w0 wr p2 p1 k T i :=
  ⟨h.o2, h.o1, h.ok, fun q h2 h1 => h.d12 q h1 h2, h.d2k, h.d1k, fun q hq => h.ge q (hq.elim (fun h => Or.inr (Or.inl h)) (fun h => h.elim Or.inl (fun h => Or.inr (Or.inr h)))), h.bl, h.l2, h.l1, h.cn, h.cl⟩
theorem WWI.wk {w0 wr : World} {p1 p2 : Pv} {k : Bv} {T i : Nat} (h : WWI w0 wr p1 p2 k T i) : Wk wr p1.wb p1.rb p1.vw p1.vr p1.L p1.e k.kb k.sl k.sw k.n k.V k.C := ⟨h.o1, h.ok, h.d1k⟩
/-- One call on the first pair. -/
theorem WWI.step {w0 wr w' : World} {p1 p2 : Pv} {k : Bv} {T i m e' n' : Nat} {vw' vr' sl' sw' : Value} {L' : List UInt8} {V' : Nat → Value} {C' : Nat → List UInt8} (h : WWI w0 wr p1 p2 k T i) (hs : Ws wr w' p1.wb p1.rb p1.vw p1.vr p1.L k.kb k.sl k.sw k.n k.V k.C m vw' vr' L' e' sl' sw' n' V' C') :
    WWI w0 w' ⟨p1.wb, p1.rb, vw', vr', L', e'⟩ p2 ⟨k.kb, sl', sw', n', V', C'⟩ (T + m) (i + 1) := by
  have h2 : ∀ q, p2.s q → ¬ (p1.s q ∨ k.s q) := fun q hq e => e.elim (fun e => h.d12 q e hq) (fun e => h.d2k q hq e)
  have hin : ∀ q, p2.s q → q < wr.heap.size := h.o2.in
  have l1 := h.l1
  have l2 := h.l2
  have cn := h.cn
  have hl := hs.len
  have hc := hs.cnt
  refine ⟨hs.wk.pr, h.o2.kp hs.kp h2, hs.wk.bk, fun q h1 hq => ?_, hs.wk.dj, fun q hq hk => ?_, fun q hq => ?_, h.bl.trans (hs.kp.below h.bl.size (fun q hq => h.ge q (hq.elim Or.inl (fun e => Or.inr (Or.inr e))))), by show L'.length ≤ T + m; omega, by omega, by show n' ≤ 2 * (i + 1); omega, fun j hj => ?_⟩
  · rcases hs.ext q (Or.inl h1) with h3 | h3
    · exact h2 q hq h3
    · have := hin q hq; omega
  · rcases hs.ext q (Or.inr hk) with h3 | h3
    · exact h2 q hq h3
    · have := hin q hq; omega
  · have hz := h.bl.size
    rcases hq with hq | hq | hq
    · rcases hs.ext q (Or.inl hq) with h3 | h3
      · exact h.ge q (h3.elim Or.inl (fun e => Or.inr (Or.inr e)))
      · omega
    · exact h.ge q (Or.inr (Or.inl hq))
    · rcases hs.ext q (Or.inr hq) with h3 | h3
      · exact h.ge q (h3.elim Or.inl (fun e => Or.inr (Or.inr e)))
      · omega
  · show (C' j).length ≤ T + m
    rcases hs.own j hj with ⟨h3, h4⟩ | h3
    · rw [h4]; have := h.cl j h3; omega
    · rw [h3]; omega
end Go.Proofs.Ytgojhhdjpkilmaa.Wi
