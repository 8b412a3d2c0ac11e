import Derived.Test.YtpnjpdnjapfjlaaCoArgs
import Derived.Test.YtpnjpdnjapfjlaaFlNew2
namespace Go.Proofs.Ytpnjpdnjapfjlaa.Cd
open Go.ChangeShapes Go.WideShapes Go.ChangeAt Go.RowKit Go.Joins

set_option maxRecDepth 100000 in
theorem trod_tm3 {H : Type} {enc : TypeId × Value → H} {W : World} {base : Nat} {sp : Nat → Bool} {held : Bool} (fuel : Nat) (cs : List Value) (y : DataW H × List MemPlace) (hl : cs.length = 3) (h : DataW.trod enc Try.prog W base sp held fuel 29 cs = some y) : ∃ t : T3, cs = [.int .u64 t.a, .int .u64 t.b, .int .u64 t.c] ∧ t.ok := by
  obtain ⟨xs, k, hk, hxy, _, hxl, hff⟩ := DataW.trod_struct Try.underlying29 h
  have honeu : Try.prog.cellsOf 23 = 1 := by kernel_rfl
  match cs, hl, xs, hxl with
  | [c0, c1, c2], _, [y0, y1, y2], _ =>
    have k0 : DataW.trod enc Try.prog W base sp held k 23 (([c0, c1, c2].drop 0).take (Try.prog.cellsOf 23)) = some y0 := hff 0 _ rfl
    have k1 : DataW.trod enc Try.prog W base sp held k 23 (([c0, c1, c2].drop 1).take (Try.prog.cellsOf 23)) = some y1 := hff 1 _ rfl
    have k2 : DataW.trod enc Try.prog W base sp held k 23 (([c0, c1, c2].drop 2).take (Try.prog.cellsOf 23)) = some y2 := hff 2 _ rfl
    rw [honeu] at k0 k1 k2
    obtain ⟨u0, e0, _, w0⟩ := DataW.trod_int Try.underlying23 k0
    obtain ⟨u1, e1, _, w1⟩ := DataW.trod_int Try.underlying23 k1
    obtain ⟨u2, e2, _, w2⟩ := DataW.trod_int Try.underlying23 k2
    simp at e0 e1 e2
    subst e0 e1 e2
    have b0 := u64_bd w0
    have b1 := u64_bd w1
    have b2 := u64_bd w2
    refine ⟨⟨u0.toNat, u1.toNat, u2.toNat⟩, ?_, ?_⟩
    · simp only [Int.toNat_of_nonneg b0.1, Int.toNat_of_nonneg b1.1, Int.toNat_of_nonneg b2.1]
    · refine ⟨?_, ?_, ?_⟩ <;> simp only <;> omega
set_option maxRecDepth 100000 in
theorem trod_pt3 {H : Type} {enc : TypeId × Value → H} {W : World} {base : Nat} {sp : Nat → Bool} {held : Bool} (fuel : Nat) (cs : List Value) (y : DataW H × List MemPlace) (hl : cs.length = 3) (h : DataW.trod enc Try.prog W base sp held fuel 25 cs = some y) : ∃ t : T3, cs = [.int .u64 t.a, .int .u64 t.b, .int .u64 t.c] ∧ t.ok := by
  obtain ⟨xs, k, hk, hxy, _, hxl, hff⟩ := DataW.trod_struct Try.underlying25 h
  have honeu : Try.prog.cellsOf 23 = 1 := by kernel_rfl
  match cs, hl, xs, hxl with
  | [c0, c1, c2], _, [y0, y1, y2], _ =>
    have k0 : DataW.trod enc Try.prog W base sp held k 23 (([c0, c1, c2].drop 0).take (Try.prog.cellsOf 23)) = some y0 := hff 0 _ rfl
    have k1 : DataW.trod enc Try.prog W base sp held k 23 (([c0, c1, c2].drop 1).take (Try.prog.cellsOf 23)) = some y1 := hff 1 _ rfl
    have k2 : DataW.trod enc Try.prog W base sp held k 23 (([c0, c1, c2].drop 2).take (Try.prog.cellsOf 23)) = some y2 := hff 2 _ rfl
    rw [honeu] at k0 k1 k2
    obtain ⟨u0, e0, _, w0⟩ := DataW.trod_int Try.underlying23 k0
    obtain ⟨u1, e1, _, w1⟩ := DataW.trod_int Try.underlying23 k1
    obtain ⟨u2, e2, _, w2⟩ := DataW.trod_int Try.underlying23 k2
    simp at e0 e1 e2
    subst e0 e1 e2
    have b0 := u64_bd w0
    have b1 := u64_bd w1
    have b2 := u64_bd w2
    refine ⟨⟨u0.toNat, u1.toNat, u2.toNat⟩, ?_, ?_⟩
    · simp only [Int.toNat_of_nonneg b0.1, Int.toNat_of_nonneg b1.1, Int.toNat_of_nonneg b2.1]
    · refine ⟨?_, ?_, ?_⟩ <;> simp only <;> omega
theorem open_t3 {H : Type} {enc : TypeId × Value → H} {W : World} {r : Reach} {b0 base : Nat} {sp : Nat → Bool} {held : Bool} {v : Value} {d : DataW H} {p : List MemPlace} (hv : Value.okWide Try.prog W r b0 29 v) (h : DataW.Trod enc Try.prog W base sp held 29 v d p) : (∀ x ∈ p, x.block < W.heap.size) ∧ ∃ x : T3, v = x.v ∧ x.ok := by
  obtain ⟨cs, rfl, hsz⟩ := okWide_struct Try.underlying29 hv
  obtain ⟨fuel, hf⟩ := h
  refine ⟨DataW.trod_lt fuel _ _ _ hf, ?_⟩
  have hl : cs.toList.length = 3 := by
    have : cs.size = 3 := hsz.trans (by kernel_rfl)
    simpa using this
  obtain ⟨x, hx, hk⟩ := trod_tm3 fuel cs.toList _ hl (by simpa [Value.cells] using hf)
  refine ⟨x, ?_, hk⟩
  obtain ⟨l⟩ := cs
  have hx : l = [.int .u64 x.a, .int .u64 x.b, .int .u64 x.c] := hx
  rw [hx]
/-- No list in it is longer than memory bears. -/
def Wt {H : Type} (P : Program) (t : TypeId) (d : DataW H) : Prop := ∀ n ∈ d.weights P t, n ≤ reachBytes
set_option maxRecDepth 100000 in
theorem open_node {H : Type} {enc : TypeId × Value → H} {W : World} {r : Reach} {b0 base : Nat} {sp : Nat → Bool} {held : Bool} {v : Value} {d : DataW H} {p : List MemPlace} (hv : Value.okWide Try.prog W r b0 28 v) (h : DataW.Trod enc Try.prog W base sp held 28 v d p) (hw : Wt Try.prog 28 d) :
    (∀ x ∈ p, x.block < W.heap.size) ∧ ∃ (x : Nd) (q : Option Addr) (n c : Nat) (l : List Op2), v = x.v q n c ∧ x.y.ok ∧ (∀ o ∈ l, Ook o) ∧ Ls EO W (.slice q n c) l ∧ l.length * 16 ≤ 140737488351232 := by
  simp only [Value.okWide, Try.underlying28] at hv
  obtain ⟨cs, rfl, hsz, ts, hts, -, hall⟩ := hv
  obtain ⟨fuel, hf⟩ := h
  refine ⟨DataW.trod_lt fuel _ _ _ hf, ?_⟩
  obtain ⟨cs⟩ := cs
  have hl : cs.length = 10 := by
    have : (cs.toArray).size = 10 := hsz.trans (by kernel_rfl)
    simpa using this
  have hte : Try.prog.cellTypes Try.prog.depth 28 = some [3, 3, 3, 22, 23, 23, 23, 23, 26, 4] := by kernel_rfl
  rw [hte] at hts
  cases hts
  have hf : DataW.trod enc Try.prog W base sp held fuel 28 cs = some (d, p) := by simpa [Value.cells] using hf
  obtain ⟨xs, k, _, hxy, _, hxl, hff⟩ := DataW.trod_struct Try.underlying28 hf
  have c1i : Try.prog.cellsOf 3 = 1 := by kernel_rfl
  have c1o : Try.prog.cellsOf 22 = 1 := by kernel_rfl
  have c1p : Try.prog.cellsOf 25 = 3 := by kernel_rfl
  have c1u : Try.prog.cellsOf 23 = 1 := by kernel_rfl
  have c1b : Try.prog.cellsOf 4 = 1 := by kernel_rfl
  match cs, hl, xs, hxl with
  | [c0, c1, c2, c3, c4, c5, c6, c7, c8, c9], _, [y0, y1, y2, y3, y4, y5, y6, y7], _ =>
    have hwe : ∀ n ∈ DataW.weightsEach Try.prog [3, 3, 3, 22, 25, 23, 26, 4] [y0.1, y1.1, y2.1, y3.1, y4.1, y5.1, y6.1, y7.1], n ≤ reachBytes := fun n hn => hw n (by
      have hd : d = _ := congrArg Prod.fst hxy
      rw [hd]
      simp only [DataW.weights, Try.underlying28]
      exact hn)
    have k0 : DataW.trod enc Try.prog W base sp held k 3 (([c0, c1, c2, c3, c4, c5, c6, c7, c8, c9].drop 0).take (Try.prog.cellsOf 3)) = some y0 := hff 0 _ rfl
    have k1 : DataW.trod enc Try.prog W base sp held k 3 (([c0, c1, c2, c3, c4, c5, c6, c7, c8, c9].drop 1).take (Try.prog.cellsOf 3)) = some y1 := hff 1 _ rfl
    have k2 : DataW.trod enc Try.prog W base sp held k 3 (([c0, c1, c2, c3, c4, c5, c6, c7, c8, c9].drop 2).take (Try.prog.cellsOf 3)) = some y2 := hff 2 _ rfl
    have k3 : DataW.trod enc Try.prog W base sp held k 22 (([c0, c1, c2, c3, c4, c5, c6, c7, c8, c9].drop 3).take (Try.prog.cellsOf 22)) = some y3 := hff 3 _ rfl
    have k4 : DataW.trod enc Try.prog W base sp held k 25 (([c0, c1, c2, c3, c4, c5, c6, c7, c8, c9].drop 4).take (Try.prog.cellsOf 25)) = some y4 := hff 4 _ rfl
    have k5 : DataW.trod enc Try.prog W base sp held k 23 (([c0, c1, c2, c3, c4, c5, c6, c7, c8, c9].drop 7).take (Try.prog.cellsOf 23)) = some y5 := hff 5 _ rfl
    have k7 : DataW.trod enc Try.prog W base sp held k 4 (([c0, c1, c2, c3, c4, c5, c6, c7, c8, c9].drop 9).take (Try.prog.cellsOf 4)) = some y7 := hff 7 _ rfl
    rw [c1i] at k0 k1 k2
    rw [c1o] at k3
    rw [c1p] at k4
    rw [c1u] at k5
    rw [c1b] at k7
    have v3 : Value.okWide Try.prog W r b0 22 c3 := by
      obtain ⟨u, hu, h3⟩ := hall 3 c3 rfl
      cases hu
      simp only [Value.okWide, Try.underlying22]
      exact h3
    have v8 : Value.okWide Try.prog W r b0 26 c8 := by
      obtain ⟨u, hu, h3⟩ := hall 8 c8 rfl
      cases hu
      simp only [Value.okWide, Try.underlying26]
      exact h3
    obtain ⟨a0, n3, m3, rfl⟩ := okWide_slice Try.underlying22 v3
    obtain ⟨a8, n8, m8, rfl⟩ := okWide_slice Try.underlying26 v8
    have h3 : DataW.Trod enc Try.prog W base sp held 22 (.slice a0 n3 m3) y3.1 y3.2 := ⟨k, by simpa [Value.cells] using k3⟩
    obtain ⟨_, ts, hts, hd3⟩ := open_list EW Try.underlying22 cellsOp (by decide) (fun fuel cs y hl h => trod_op fuel cs y hl h) v3 h3
    obtain ⟨u0, e0, _, _⟩ := DataW.trod_int Try.underlying3 k0
    obtain ⟨u1, e1, _, _⟩ := DataW.trod_int Try.underlying3 k1
    obtain ⟨u2, e2, _, _⟩ := DataW.trod_int Try.underlying3 k2
    obtain ⟨y, e4, hy⟩ := trod_pt3 _ _ _ rfl k4
    obtain ⟨u5, e5, _, w5⟩ := DataW.trod_int Try.underlying23 k5
    obtain ⟨u7, e7, _⟩ := DataW.trod_bool Try.underlying4 k7
    simp at e0 e1 e2 e4 e5 e7
    obtain ⟨f4, f5, f6⟩ := e4
    subst e0 e1 e2 f4 f5 f6 e5 e7
    have b5 := u64_bd w5
    obtain ⟨z1, z2⟩ := ls_ew hts
    refine ⟨⟨u0, u1, u2, y, u5.toNat, a8, n8, m8, u7⟩, a0, n3, m3, ts.map (·.1), ?_, hy, z2, z1, ?_⟩
    · simp only [Nd.v, Int.toNat_of_nonneg b5.1]
    · rw [List.length_map]
      have hrb : reachBytes ≤ 140737488351232 := by decide
      rcases hd3 with ⟨_, rfl⟩ | ⟨elems, spare, he, hl⟩
      · simp
      · have h1 := hwe (elems.length * Try.prog.bytesOf 46 + spare.length * Try.prog.bytesOf 46) (DataW.weights_mem_each (j := 3) rfl rfl _ (by rw [he]; simp [DataW.weights, Try.underlying22, Nat.add_mul]))
        rw [show Try.prog.bytesOf 46 = 16 by kernel_rfl] at h1
        omega
end Go.Proofs.Ytpnjpdnjapfjlaa.Cd
