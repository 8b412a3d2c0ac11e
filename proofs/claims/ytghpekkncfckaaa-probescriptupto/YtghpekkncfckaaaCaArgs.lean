import Derived.Test.YtghpekkncfckaaaRows
import Derived.Test.YtghpekkncfckaaaCaBase
import Derived.ProofKit
import Derived.Lay
import Derived.LaidMore
import Derived.Deep.DeepHandedRow
import Derived.Lib.SmallJoins
import Derived.OpenShut
import Derived.Deep.Slices
import Derived.ChangeOld
namespace Go.Proofs.Ytghpekkncfckaaa
open Go.ChangeShapes Go.WideShapes Go.ChangeAt Go.RowKit Go.Joins

def laidL : List (String × DataW Unit) := []
theorem own : ownKnob Try.prog.godebug = none := by kernel_rfl
theorem laidOut : laidOutB Try.prog = true := by kernel_rfl
theorem cellsTm : Try.prog.cellsOf 25 = 3 := by kernel_rfl
theorem cellsCt : Try.prog.cellsOf 36 = 5 := by kernel_rfl
theorem cellsRc : Try.prog.cellsOf 34 = 2 := by kernel_rfl

/-- A witness for a row. -/
theorem witness {H : Type} {enc : TypeId × Value → H} {os : Os} {f : FuncId} {fn : Func} {s : OpenSpec} {conds : List PathCond} {apart : Bool} (args : Array Value)
    (hsh : ((World.laidAll Try.prog os laidL).forCall (fun _ _ => 0) ⟨#[], args, []⟩).Shaped Try.prog)
    (hok : Input.okWideB Try.prog ((World.laidAll Try.prog os laidL).forCall (fun _ _ => 0) ⟨#[], args, []⟩) f ⟨#[], args, []⟩ = true)
    (hrow : s.preRow enc Try.prog fn conds apart laidL ((World.laidAll Try.prog os laidL).forCall (fun _ _ => 0) ⟨#[], args, []⟩).memory args) :
    ∃ (w : World) (tape : Tape) (i : Input), w.os = os ∧ (w.forCall tape i).Shaped Try.prog ∧ i.vars = [] ∧ Input.okWide Try.prog (w.forCall tape i) .any w.heap.size f i ∧
      s.preRow enc Try.prog fn conds apart laidL (w.forCall tape i).memory i.args ∧ ({} : Assume).holds Try.prog (lone (Frame.enter Try.prog f i.args .normal) [] (w.forCall tape i)) :=
  ⟨World.laidAll Try.prog os laidL, fun _ _ => 0, ⟨#[], args, []⟩, World.laidAll_os _ _ _, hsh, (Input.okWide_of_okWideB (base := 0) hok).1, (Input.okWide_of_okWideB hok).2, hrow, by
    simp only [Assume.holds]
    exact ⟨by simp, by simp, by simp, by simp, by simp⟩⟩
theorem laid_met (os : Os) (args : Array Value) : laidMetH Try.prog laidL ((World.laidAll Try.prog os laidL).forCall (fun _ _ => 0) ⟨#[], args, []⟩).memory := by
  rw [MakeChecks.laidMetH_plain _ _ _ (by kernel_rfl)]
  exact laidMet_laidAll _ (by kernel_rfl) (by kernel_rfl)

theorem i64_bd {x : Int} (h : (Lit.int .i64 x).wf = true) : -9223372036854775808 ≤ x ∧ x ≤ 9223372036854775807 := by
  simpa [Lit.wf, IntKind.min, IntKind.max, IntKind.signed, IntKind.bits] using h
theorem has_lt {P : Program} {W : World} {r : Reach} {b0 : Nat} {t e : TypeId} {a : Addr} {len cap : Nat} (ht : P.underlying t = some (.slice e)) (hv : Value.okWide P W r b0 t (.slice (some a) len cap)) : a.spot = none ∧ a.block < W.heap.size := by
  simp only [Value.okWide, ht, Cell.okWide, Cell.ok] at hv
  obtain ⟨_, _, _, hs, row, cells, hsh, _⟩ := hv
  refine ⟨hs, ?_⟩
  unfold World.shape? at hsh
  split at hsh
  · rename_i h
    exact (Array.getElem?_eq_some_iff.1 h).1
  · cases hsh


/-- A list that came in, of any elements. -/
theorem open_list {P : Program} {α : Type} [Inhabited α] (E : El α) {sT eT : TypeId} (hu : P.underlying sT = some (.slice eT)) (hc : P.cellsOf eT = E.k) (hk : 0 < E.k)
    {H : Type} {enc : TypeId × Value → H} {W : World} {r : Reach} {b0 base : Nat} {sp : Nat → Bool} {held : Bool} {v : Value} {d : DataW H} {p : List MemPlace}
    (hel : ∀ fuel cs y, cs.length = E.k → DataW.trod enc P W base sp held fuel eT cs = some y → ∃ x, cs = E.enc x)
    (hv : Value.okWide P W r b0 sT v) (h : DataW.Trod enc P W base sp held sT v d p) :
    (∀ x ∈ p, x.block < W.heap.size) ∧ ∃ ts : List α, Ls E W v ts ∧ ((d = .nil ∧ ts = []) ∨ ∃ elems spare, d = .slice elems spare ∧ elems.length = ts.length) := by
  obtain ⟨a0, len, cap, rfl⟩ := okWide_slice hu hv
  obtain ⟨fuel, hf⟩ := h
  refine ⟨DataW.trod_lt fuel _ _ _ hf, ?_⟩
  rcases Deep.open_slice hu hf with ⟨hcs, hx⟩ | ⟨a, len', cap', m, n, D, Pl, hcs, hb, hl, hm, hmm, hx, hall⟩
  · simp [Value.cells] at hcs
    obtain ⟨rfl, rfl, rfl⟩ := hcs
    exact ⟨[], Or.inl ⟨rfl, rfl⟩, Or.inl ⟨congrArg Prod.fst hx, rfl⟩⟩
  · simp [Value.cells] at hcs
    obtain ⟨rfl, rfl, rfl⟩ := hcs
    obtain ⟨hsp, hlt⟩ := has_lt hu hv
    obtain ⟨b, off, spot⟩ := a
    simp only at hsp hlt
    subst hsp
    have hlm : len ≤ m := by rw [hmm]; split <;> omega
    obtain ⟨V, hV⟩ := Deep.choose_lt (α := α) (p := fun i t => ∀ j u, j < E.k → (E.enc t)[j]? = some u → W.cell? ⟨b, off + i * E.k + j, none⟩ = some u) (n := len) (fun i hi => by
      obtain ⟨cs', h1, h2⟩ := hall i (by omega)
      rw [hc] at h1
      obtain ⟨_, hl3, hc'⟩ := World.cells?_some h1
      obtain ⟨x, rfl⟩ := hel _ _ _ hl3 h2
      refine ⟨x, fun j u hj hu' => ?_⟩
      have g0 := hc' j hj
      rw [Deep.add_add, addA] at g0
      rw [← Nat.add_assoc] at g0
      rw [g0]
      exact hu')
    refine ⟨(List.range len).map V, Or.inr ⟨b, off, cap, by simp, hlt, fun j u hj => ?_⟩, Or.inr ⟨_, _, congrArg Prod.fst hx, by simp⟩⟩
    have hjl : j < len * E.k := by
      have := (List.getElem?_eq_some_iff.1 hj).1
      rw [fl_length] at this
      simpa using this
    have hi : j / E.k < len := (Nat.div_lt_iff_lt_mul hk).2 hjl
    have hg := fl_get E ((List.range len).map V) (j / E.k) (j % E.k) (V (j / E.k)) (by simp [hi]) (Nat.mod_lt _ hk)
    rw [Nat.div_add_mod', hj] at hg
    have := hV (j / E.k) hi (j % E.k) u (Nat.mod_lt _ hk) hg.symm
    rwa [Nat.add_assoc, Nat.div_add_mod'] at this
set_option maxRecDepth 100000 in
theorem trod_t3 {H : Type} {enc : TypeId × Value → H} {W : World} {base : Nat} {sp : Nat → Bool} {held : Bool} (fuel : Nat) (cs : List Value) (y : DataW H × List MemPlace) (hl : cs.length = 3) (h : DataW.trod enc Try.prog W base sp held fuel 25 cs = some y) : ∃ x : Ca.T3, cs = Ca.ET.enc x := by
  obtain ⟨xs, k, hk, hxy, _, hxl, hff⟩ := DataW.trod_struct Try.underlying25 h
  have hone : Try.prog.cellsOf 23 = 1 := by kernel_rfl
  match cs, hl, xs, hxl with
  | [c0, c1, c2], _, [y0, y1, y2], _ =>
    have k0 : DataW.trod enc Try.prog W base sp held k 23 (([c0, c1, c2].drop 0).take (Try.prog.cellsOf 23)) = some y0 := hff 0 _ rfl
    have k1 : DataW.trod enc Try.prog W base sp held k 23 (([c0, c1, c2].drop 1).take (Try.prog.cellsOf 23)) = some y1 := hff 1 _ rfl
    have k2 : DataW.trod enc Try.prog W base sp held k 23 (([c0, c1, c2].drop 2).take (Try.prog.cellsOf 23)) = some y2 := hff 2 _ rfl
    rw [hone] at k0 k1 k2
    obtain ⟨u0, e0, _, w0⟩ := DataW.trod_int Try.underlying23 k0
    obtain ⟨u1, e1, _, w1⟩ := DataW.trod_int Try.underlying23 k1
    obtain ⟨u2, e2, _, w2⟩ := DataW.trod_int Try.underlying23 k2
    simp at e0 e1 e2
    subst e0 e1 e2
    exact ⟨(u0, u1, u2), rfl⟩
set_option maxRecDepth 100000 in
theorem trod_rc {H : Type} {enc : TypeId × Value → H} {W : World} {base : Nat} {sp : Nat → Bool} {held : Bool} (fuel : Nat) (cs : List Value) (y : DataW H × List MemPlace) (hl : cs.length = 2) (h : DataW.trod enc Try.prog W base sp held fuel 34 cs = some y) : ∃ a b : Int, cs = [.int .u64 a, .int .u64 b] := by
  obtain ⟨xs, k, hk, hxy, _, hxl, hff⟩ := DataW.trod_struct Try.underlying34 h
  have hone : Try.prog.cellsOf 23 = 1 := by kernel_rfl
  match cs, hl, xs, hxl with
  | [c0, c1], _, [y0, y1], _ =>
    have k0 : DataW.trod enc Try.prog W base sp held k 23 (([c0, c1].drop 0).take (Try.prog.cellsOf 23)) = some y0 := hff 0 _ rfl
    have k1 : DataW.trod enc Try.prog W base sp held k 23 (([c0, c1].drop 1).take (Try.prog.cellsOf 23)) = some y1 := hff 1 _ rfl
    rw [hone] at k0 k1
    obtain ⟨u0, e0, _, w0⟩ := DataW.trod_int Try.underlying23 k0
    obtain ⟨u1, e1, _, w1⟩ := DataW.trod_int Try.underlying23 k1
    simp at e0 e1
    subst e0 e1
    exact ⟨u0, u1, rfl⟩
set_option maxRecDepth 100000 in
theorem trod_ct {H : Type} {enc : TypeId × Value → H} {W : World} {base : Nat} {sp : Nat → Bool} {held : Bool} (fuel : Nat) (cs : List Value) (y : DataW H × List MemPlace) (hl : cs.length = 5) (h : DataW.trod enc Try.prog W base sp held fuel 36 cs = some y) : ∃ x : Ca.Ct, cs = Ca.EC.enc x := by
  obtain ⟨xs, k, hk, hxy, _, hxl, hff⟩ := DataW.trod_struct Try.underlying36 h
  match cs, hl, xs, hxl with
  | [c0, c1, c2, c3, c4], _, [y0, y1], _ =>
    have k0 : DataW.trod enc Try.prog W base sp held k 25 (([c0, c1, c2, c3, c4].drop 0).take (Try.prog.cellsOf 25)) = some y0 := hff 0 _ rfl
    have k1 : DataW.trod enc Try.prog W base sp held k 34 (([c0, c1, c2, c3, c4].drop 3).take (Try.prog.cellsOf 34)) = some y1 := hff 1 _ rfl
    rw [cellsTm] at k0
    rw [cellsRc] at k1
    obtain ⟨x, hx⟩ := trod_t3 k _ _ rfl k0
    obtain ⟨a, b, hr⟩ := trod_rc k _ _ rfl k1
    simp [Ca.ET] at hx
    simp at hr
    obtain ⟨rfl, rfl, rfl⟩ := hx
    obtain ⟨rfl, rfl⟩ := hr
    exact ⟨⟨x.1, x.2.1, x.2.2, a, b⟩, rfl⟩
set_option maxRecDepth 100000 in
/-- A time that came in. -/
theorem open_t3 {H : Type} {enc : TypeId × Value → H} {W : World} {r : Reach} {b0 base : Nat} {sp : Nat → Bool} {held : Bool} {v : Value} {d : DataW H} {p : List MemPlace} (hv : Value.okWide Try.prog W r b0 25 v) (h : DataW.Trod enc Try.prog W base sp held 25 v d p) : (∀ x ∈ p, x.block < W.heap.size) ∧ ∃ x : Ca.T3, v = Ca.tv x := by
  obtain ⟨cs, rfl, hsz⟩ := okWide_struct Try.underlying25 hv
  obtain ⟨fuel, hf⟩ := h
  refine ⟨DataW.trod_lt fuel _ _ _ hf, ?_⟩
  have hl : cs.toList.length = 3 := by
    have : cs.size = 3 := hsz.trans (by kernel_rfl)
    simpa using this
  obtain ⟨x, hx⟩ := trod_t3 fuel cs.toList _ hl (by simpa [Value.cells] using hf)
  refine ⟨x, ?_⟩
  obtain ⟨l⟩ := cs
  have hx : l = [.int .u64 x.1, .int .u64 x.2.1, .int .u64 x.2.2] := hx
  rw [hx]
/-- No list in it is longer than memory bears. -/
def Wt {H : Type} (P : Program) (t : TypeId) (d : DataW H) : Prop := ∀ n ∈ d.weights P t, n ≤ reachBytes
set_option maxRecDepth 100000 in
/-- What is asked for: a time, a front, a key. -/
theorem open_look {H : Type} {enc : TypeId × Value → H} {W : World} {r : Reach} {b0 base : Nat} {sp : Nat → Bool} {held : Bool} {v : Value} {d : DataW H} {p : List MemPlace} (hv : Value.okWide Try.prog W r b0 28 v) (h : DataW.Trod enc Try.prog W base sp held 28 v d p) (hw : Wt Try.prog 28 d) :
    (∀ x ∈ p, x.block < W.heap.size) ∧ ∃ (x : Ca.T3) (q : Option Addr) (n c : Nat) (l : List Ca.T3) (k : Int), v = .agg #[.int .u64 x.1, .int .u64 x.2.1, .int .u64 x.2.2, .slice q n c, .int .u64 k] ∧ Ls Ca.ET W (.slice q n c) l ∧ l.length * 24 ≤ 140737488351232 := by
  simp only [Value.okWide, Try.underlying28] at hv
  obtain ⟨cs, rfl, hsz, ts, hts, -, hall⟩ := hv
  obtain ⟨fuel, hf⟩ := h
  refine ⟨DataW.trod_lt fuel _ _ _ hf, ?_⟩
  obtain ⟨cs⟩ := cs
  have hl : cs.length = 5 := by
    have : (cs.toArray).size = 5 := hsz.trans (by kernel_rfl)
    simpa using this
  have hte : Try.prog.cellTypes Try.prog.depth 28 = some [23, 23, 23, 26, 23] := by kernel_rfl
  rw [hte] at hts
  cases hts
  have hf : DataW.trod enc Try.prog W base sp held fuel 28 cs = some (d, p) := by simpa [Value.cells] using hf
  obtain ⟨xs, k, _, hxy, _, hxl, hff⟩ := DataW.trod_struct Try.underlying28 hf
  have c1o : Try.prog.cellsOf 26 = 1 := by kernel_rfl
  have c1u : Try.prog.cellsOf 23 = 1 := by kernel_rfl
  match cs, hl, xs, hxl with
  | [c0, c1, c2, c3, c4], _, [y0, y1, y2], _ =>
    have hwe : ∀ n ∈ DataW.weightsEach Try.prog [25, 26, 23] [y0.1, y1.1, y2.1], n ≤ reachBytes := fun n hn => hw n (by
      have hd : d = _ := congrArg Prod.fst hxy
      rw [hd]
      simp only [DataW.weights, Try.underlying28]
      exact hn)
    have k0 : DataW.trod enc Try.prog W base sp held k 25 (([c0, c1, c2, c3, c4].drop 0).take (Try.prog.cellsOf 25)) = some y0 := hff 0 _ rfl
    have k1 : DataW.trod enc Try.prog W base sp held k 26 (([c0, c1, c2, c3, c4].drop 3).take (Try.prog.cellsOf 26)) = some y1 := hff 1 _ rfl
    have k2 : DataW.trod enc Try.prog W base sp held k 23 (([c0, c1, c2, c3, c4].drop 4).take (Try.prog.cellsOf 23)) = some y2 := hff 2 _ rfl
    rw [cellsTm] at k0
    rw [c1o] at k1
    rw [c1u] at k2
    have v3 : Value.okWide Try.prog W r b0 26 c3 := by
      obtain ⟨u, hu, h3⟩ := hall 3 c3 rfl
      cases hu
      simp only [Value.okWide, Try.underlying26]
      exact h3
    obtain ⟨a0, n3, m3, rfl⟩ := okWide_slice Try.underlying26 v3
    have h3 : DataW.Trod enc Try.prog W base sp held 26 (.slice a0 n3 m3) y1.1 y1.2 := ⟨k, by simpa [Value.cells] using k1⟩
    obtain ⟨_, ts, hts, hd3⟩ := open_list Ca.ET Try.underlying26 cellsTm (by decide) (fun fuel cs y hl h => trod_t3 fuel cs y hl h) v3 h3
    obtain ⟨x, e0⟩ := trod_t3 k _ _ rfl k0
    obtain ⟨u2, e2, _, _⟩ := DataW.trod_int Try.underlying23 k2
    simp [Ca.ET] at e0
    simp at e2
    obtain ⟨rfl, rfl, rfl⟩ := e0
    subst e2
    refine ⟨x, a0, n3, m3, ts, u2, rfl, hts, ?_⟩
    have hrb : reachBytes ≤ 140737488351232 := by decide
    rcases hd3 with ⟨_, rfl⟩ | ⟨elems, spare, he, hl⟩
    · simp
    · have h1 := hwe (elems.length * Try.prog.bytesOf 25 + spare.length * Try.prog.bytesOf 25) (DataW.weights_mem_each (j := 1) rfl rfl _ (by rw [he]; simp [DataW.weights, Try.underlying26, Nat.add_mul]))
      rw [show Try.prog.bytesOf 25 = 24 by kernel_rfl] at h1
      omega
end Go.Proofs.Ytghpekkncfckaaa
