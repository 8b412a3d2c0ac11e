import Derived.Test.YtbomkeginbhhoaaCLst
import Derived.ProofKit
import Derived.Lay
import Derived.LaidMore
import Derived.Deep.DeepHandedRow
import Derived.Lib.SmallJoins
import Derived.OpenShut
import Derived.Deep.Slices
import Derived.ChangeOld
namespace Go.Proofs.Ytbomkeginbhhoaa
open Go.ChangeShapes Go.WideShapes Go.ChangeAt Go.RowKit Go.Joins

def laidL : List (String × DataW Unit) := []
theorem own : ownKnob Try.prog.godebug = none := by kernel_rfl
theorem laidOut : laidOutB Try.prog = true := by kernel_rfl
theorem cellsPr : Try.prog.cellsOf 28 = 2 := by kernel_rfl

/-- A witness for a row. -/
theorem witness {H : Type} {enc : TypeId × Value → H} {os : Os} {f : FuncId} {fn : Func} {s : OpenSpec} {conds : List PathCond} {apart : Bool} (args : Array Value)
    (hsh : ((World.laidAll Try.prog os laidL).forCall (fun _ _ => 0) ⟨#[], args, []⟩).Shaped Try.prog)
    (hok : Input.okWideB Try.prog ((World.laidAll Try.prog os laidL).forCall (fun _ _ => 0) ⟨#[], args, []⟩) f ⟨#[], args, []⟩ = true)
    (hrow : s.preRow enc Try.prog fn conds apart laidL ((World.laidAll Try.prog os laidL).forCall (fun _ _ => 0) ⟨#[], args, []⟩).memory args) :
    ∃ (w : World) (tape : Tape) (i : Input), w.os = os ∧ (w.forCall tape i).Shaped Try.prog ∧ i.vars = [] ∧ Input.okWide Try.prog (w.forCall tape i) .any w.heap.size f i ∧
      s.preRow enc Try.prog fn conds apart laidL (w.forCall tape i).memory i.args ∧ ({} : Assume).holds Try.prog (lone (Frame.enter Try.prog f i.args .normal) [] (w.forCall tape i)) :=
  ⟨World.laidAll Try.prog os laidL, fun _ _ => 0, ⟨#[], args, []⟩, World.laidAll_os _ _ _, hsh, (Input.okWide_of_okWideB (base := 0) hok).1, (Input.okWide_of_okWideB hok).2, hrow, by
    simp only [Assume.holds]
    exact ⟨by simp, by simp, by simp, by simp, by simp⟩⟩
theorem laid_met (os : Os) (args : Array Value) : laidMetH Try.prog laidL ((World.laidAll Try.prog os laidL).forCall (fun _ _ => 0) ⟨#[], args, []⟩).memory := by
  rw [MakeChecks.laidMetH_plain _ _ _ (by kernel_rfl)]
  exact laidMet_laidAll _ (by kernel_rfl) (by kernel_rfl)

set_option maxRecDepth 100000 in
/-- A pair that came in. -/
theorem open_pair {H : Type} {enc : TypeId × Value → H} {W : World} {r : Reach} {b0 base : Nat} {sp : Nat → Bool} {held : Bool} {v : Value} {d : DataW H} {p : List MemPlace} (hv : Value.okWide Try.prog W r b0 28 v) (h : DataW.Trod enc Try.prog W base sp held 28 v d p) :
    ∃ x : P2, v = pv x ∧ p = [] := by
  obtain ⟨c0, c1, y0, y1, m, rfl, rfl, rfl, h0, h1⟩ := open_agg2 Try.underlying28 (by kernel_rfl) cellsPr hv h
  obtain ⟨a, e0, rfl, wa⟩ := DataW.trod_int Try.underlying3 h0
  obtain ⟨b, e1, rfl, wb⟩ := DataW.trod_int Try.underlying3 h1
  simp at e0 e1
  subst e0 e1
  exact ⟨(a, b), rfl, rfl⟩

theorem has_lt {P : Program} {W : World} {r : Reach} {b0 : Nat} {t e : TypeId} {a : Addr} {len cap : Nat} (ht : P.underlying t = some (.slice e)) (hv : Value.okWide P W r b0 t (.slice (some a) len cap)) : a.spot = none ∧ a.block < W.heap.size := by
  simp only [Value.okWide, ht, Cell.okWide, Cell.ok] at hv
  obtain ⟨_, _, _, hs, row, cells, hsh, _⟩ := hv
  refine ⟨hs, ?_⟩
  unfold World.shape? at hsh
  split at hsh
  · rename_i h
    exact (Array.getElem?_eq_some_iff.1 h).1
  · cases hsh
theorem pairsAt_of {W : World} {b off n : Nat} {V : Nat → P2} (h : ∀ i, i < n → W.cell? ⟨b, off + i * 2, none⟩ = some (.int .i64 (V i).1) ∧ W.cell? ⟨b, off + i * 2 + 1, none⟩ = some (.int .i64 (V i).2)) :
    PairsAt W b off ((List.range n).map V) := by
  intro j u hj
  have hjl : j < n * 2 := by
    have := (List.getElem?_eq_some_iff.1 hj).1
    rw [flatP_length] at this
    simpa using this
  have hi : j / 2 < n := by omega
  have hd : j / 2 * 2 + j % 2 = j := by omega
  have hg := flatP_get ((List.range n).map V) (j / 2) (j % 2) (V (j / 2)) (by simp [hi]) (by omega)
  rw [hd, hj] at hg
  obtain ⟨h0, h1⟩ := h (j / 2) hi
  have h3 : j % 2 = 0 ∨ j % 2 = 1 := by omega
  rcases h3 with e | e
  · rw [e] at hg
    have hu : u = .int .i64 (V (j / 2)).1 := by simpa [encP] using hg
    rw [hu, show off + j = off + j / 2 * 2 by omega]; exact h0
  · rw [e] at hg
    have hu : u = .int .i64 (V (j / 2)).2 := by simpa [encP] using hg
    rw [hu, show off + j = off + j / 2 * 2 + 1 by omega]; exact h1

set_option maxRecDepth 100000 in
/-- A list of pairs that came in. -/
theorem open_pairs {H : Type} {enc : TypeId × Value → H} {W : World} {r : Reach} {b0 base : Nat} {sp : Nat → Bool} {held : Bool} {v : Value} {d : DataW H} {p : List MemPlace} (hv : Value.okWide Try.prog W r b0 22 v) (h : DataW.Trod enc Try.prog W base sp held 22 v d p) :
    (∀ x ∈ p, x.block < W.heap.size) ∧ ∃ ts : List P2, Lst W v ts ∧ ((d = .nil ∧ ts = []) ∨ ∃ elems spare, d = .slice elems spare ∧ elems.length = ts.length) := by
  obtain ⟨a0, len, cap, rfl⟩ := okWide_slice Try.underlying22 hv
  obtain ⟨fuel, hf⟩ := h
  refine ⟨DataW.trod_lt fuel _ _ _ hf, ?_⟩
  rcases Deep.open_slice Try.underlying22 hf with ⟨hcs, hx⟩ | ⟨a, len', cap', m, n, D, Pl, hcs, hb, hl, hm, hmm, hx, hall⟩
  · simp [Value.cells] at hcs
    obtain ⟨rfl, rfl, rfl⟩ := hcs
    exact ⟨[], Or.inl ⟨rfl, rfl⟩, Or.inl ⟨congrArg Prod.fst hx, rfl⟩⟩
  · simp [Value.cells] at hcs
    obtain ⟨rfl, rfl, rfl⟩ := hcs
    obtain ⟨hsp, hlt⟩ := has_lt Try.underlying22 hv
    obtain ⟨b, off, spot⟩ := a
    simp only at hsp hlt
    subst hsp
    have hlm : len ≤ m := by rw [hmm]; split <;> omega
    obtain ⟨V, hV⟩ := Deep.choose_lt (α := P2) (p := fun i t => W.cell? ⟨b, off + i * 2, none⟩ = some (.int .i64 t.1) ∧ W.cell? ⟨b, off + i * 2 + 1, none⟩ = some (.int .i64 t.2)) (n := len) (fun i hi => by
      obtain ⟨cs', h1, h2⟩ := hall i (by omega)
      rw [cellsPr] at h1
      obtain ⟨_, hl3, hc⟩ := World.cells?_some h1
      obtain ⟨xs, k, hk, hxy, _, hxl, hff⟩ := DataW.trod_struct Try.underlying28 h2
      have hone : Try.prog.cellsOf 3 = 1 := by kernel_rfl
      match cs', hl3, xs, hxl with
      | [c0, c1], _, [y0, y1], _ =>
        have k0 : DataW.trod enc Try.prog W base sp held k 3 (([c0, c1].drop 0).take (Try.prog.cellsOf 3)) = some y0 := hff 0 _ rfl
        have k1 : DataW.trod enc Try.prog W base sp held k 3 (([c0, c1].drop 1).take (Try.prog.cellsOf 3)) = some y1 := hff 1 _ rfl
        rw [hone] at k0 k1
        obtain ⟨u0, e0, _⟩ := DataW.trod_int Try.underlying3 k0
        obtain ⟨u1, e1, _⟩ := DataW.trod_int Try.underlying3 k1
        simp at e0 e1
        subst e0 e1
        have g0 := hc 0 (by omega)
        have g1 := hc 1 (by omega)
        rw [Deep.add_add, addP] at g0 g1
        exact ⟨(u0, u1), g0, g1⟩)
    refine ⟨(List.range len).map V, Or.inr ⟨b, off, cap, by simp, hlt, pairsAt_of hV⟩, Or.inr ⟨_, _, congrArg Prod.fst hx, by simp⟩⟩
end Go.Proofs.Ytbomkeginbhhoaa
