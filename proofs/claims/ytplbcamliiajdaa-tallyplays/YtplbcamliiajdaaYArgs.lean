import Derived.Test.YtplbcamliiajdaaYOps
import Derived.ProofKit
import Derived.Lay
import Derived.LaidMore
import Derived.Deep.DeepHandedRow
import Derived.Lib.SmallJoins
import Derived.OpenShut
import Derived.Deep.Slices
import Derived.ChangeOld
namespace Go.Proofs.Ytplbcamliiajdaa
open Go.ChangeShapes Go.WideShapes Go.ChangeAt Go.RowKit Go.Joins

def laidL : List (String × DataW Unit) := []
theorem own : ownKnob Try.prog.godebug = none := by kernel_rfl
theorem laidOut : laidOutB Try.prog = true := by kernel_rfl
theorem cellsOp : Try.prog.cellsOf 27 = 5 := by kernel_rfl

/-- A witness for a row. -/
theorem witness {H : Type} {enc : TypeId × Value → H} {os : Os} {f : FuncId} {fn : Func} {s : OpenSpec} {conds : List PathCond} {apart : Bool} (args : Array Value)
    (hsh : ((World.laidAll Try.prog os laidL).forCall (fun _ _ => 0) ⟨#[], args, []⟩).Shaped Try.prog)
    (hok : Input.okWideB Try.prog ((World.laidAll Try.prog os laidL).forCall (fun _ _ => 0) ⟨#[], args, []⟩) f ⟨#[], args, []⟩ = true)
    (hrow : s.preRow enc Try.prog fn conds apart laidL ((World.laidAll Try.prog os laidL).forCall (fun _ _ => 0) ⟨#[], args, []⟩).memory args) :
    ∃ (w : World) (tape : Tape) (i : Input), w.os = os ∧ (w.forCall tape i).Shaped Try.prog ∧ i.vars = [] ∧ Input.okWide Try.prog (w.forCall tape i) .any w.heap.size f i ∧
      s.preRow enc Try.prog fn conds apart laidL (w.forCall tape i).memory i.args ∧ ({} : Assume).holds Try.prog (lone (Frame.enter Try.prog f i.args .normal) [] (w.forCall tape i)) :=
  ⟨World.laidAll Try.prog os laidL, fun _ _ => 0, ⟨#[], args, []⟩, World.laidAll_os _ _ _, hsh, (Input.okWide_of_okWideB (base := 0) hok).1, (Input.okWide_of_okWideB hok).2, hrow, by
    simp only [Assume.holds]
    exact ⟨by simp, by simp, by simp, by simp, by simp⟩⟩
theorem laid_met (os : Os) (args : Array Value) : laidMetH Try.prog laidL ((World.laidAll Try.prog os laidL).forCall (fun _ _ => 0) ⟨#[], args, []⟩).memory := by
  rw [MakeChecks.laidMetH_plain _ _ _ (by kernel_rfl)]
  exact laidMet_laidAll _ (by kernel_rfl) (by kernel_rfl)

theorem addP (b off i : Nat) : (⟨b, off, none⟩ : Addr).add i = ⟨b, off + i, none⟩ := by unfold Addr.add; split <;> simp_all
theorem has_lt {P : Program} {W : World} {r : Reach} {b0 : Nat} {t e : TypeId} {a : Addr} {len cap : Nat} (ht : P.underlying t = some (.slice e)) (hv : Value.okWide P W r b0 t (.slice (some a) len cap)) : a.spot = none ∧ a.block < W.heap.size := by
  simp only [Value.okWide, ht, Cell.okWide, Cell.ok] at hv
  obtain ⟨_, _, _, hs, row, cells, hsh, _⟩ := hv
  refine ⟨hs, ?_⟩
  unfold World.shape? at hsh
  split at hsh
  · rename_i h
    exact (Array.getElem?_eq_some_iff.1 h).1
  · cases hsh

instance : Inhabited Opx := ⟨⟨0, 0, 0, default, 0⟩⟩
set_option maxRecDepth 100000 in
/-- A list of steps that came in. -/
theorem open_ops {H : Type} {enc : TypeId × Value → H} {W : World} {r : Reach} {b0 base : Nat} {sp : Nat → Bool} {held : Bool} {v : Value} {d : DataW H} {p : List MemPlace} (hv : Value.okWide Try.prog W r b0 22 v) (h : DataW.Trod enc Try.prog W base sp held 22 v d p) :
    (∀ x ∈ p, x.block < W.heap.size) ∧ ∃ ts : List Opx, Lo W v ts ∧ ((d = .nil ∧ ts = []) ∨ ∃ elems spare, d = .slice elems spare ∧ elems.length = ts.length) := by
  obtain ⟨a0, len, cap, rfl⟩ := okWide_slice Try.underlying22 hv
  obtain ⟨fuel, hf⟩ := h
  refine ⟨DataW.trod_lt fuel _ _ _ hf, ?_⟩
  rcases Deep.open_slice Try.underlying22 hf with ⟨hcs, hx⟩ | ⟨a, len', cap', m, n, D, Pl, hcs, hb, hl, hm, hmm, hx, hall⟩
  · simp [Value.cells] at hcs
    obtain ⟨rfl, rfl, rfl⟩ := hcs
    exact ⟨[], Or.inl ⟨rfl, rfl⟩, Or.inl ⟨congrArg Prod.fst hx, rfl⟩⟩
  · simp [Value.cells] at hcs
    obtain ⟨rfl, rfl, rfl⟩ := hcs
    obtain ⟨hsp, hlt⟩ := has_lt Try.underlying22 hv
    obtain ⟨b, off, spot⟩ := a
    simp only at hsp hlt
    subst hsp
    have hlm : len ≤ m := by rw [hmm]; split <;> omega
    obtain ⟨V, hV⟩ := Deep.choose_lt (α := Opx) (p := fun i o => W.cell? ⟨b, off + i * 5, none⟩ = some (.int .i64 o.k) ∧ W.cell? ⟨b, off + i * 5 + 1, none⟩ = some (.int .i64 o.i) ∧ W.cell? ⟨b, off + i * 5 + 2, none⟩ = some (.int .i64 o.j) ∧
        W.cell? ⟨b, off + i * 5 + 3, none⟩ = some (.string o.key.1) ∧ W.cell? ⟨b, off + i * 5 + 4, none⟩ = some (.int .i64 o.n)) (n := len) (fun i hi => by
      obtain ⟨cs', h1, h2⟩ := hall i (by omega)
      rw [cellsOp] at h1
      obtain ⟨_, hl3, hc⟩ := World.cells?_some h1
      obtain ⟨xs, k, hk, hxy, _, hxl, hff⟩ := DataW.trod_struct Try.underlying27 h2
      have hone : Try.prog.cellsOf 3 = 1 := by kernel_rfl
      have hone9 : Try.prog.cellsOf 9 = 1 := by kernel_rfl
      have hone2 : Try.prog.cellsOf 2 = 1 := by kernel_rfl
      match cs', hl3, xs, hxl with
      | [c0, c1, c2, c3, c4], _, [y0, y1, y2, y3, y4], _ =>
        have k0 : DataW.trod enc Try.prog W base sp held k 3 (([c0, c1, c2, c3, c4].drop 0).take (Try.prog.cellsOf 3)) = some y0 := hff 0 _ rfl
        have k1 : DataW.trod enc Try.prog W base sp held k 3 (([c0, c1, c2, c3, c4].drop 1).take (Try.prog.cellsOf 3)) = some y1 := hff 1 _ rfl
        have k2 : DataW.trod enc Try.prog W base sp held k 3 (([c0, c1, c2, c3, c4].drop 2).take (Try.prog.cellsOf 3)) = some y2 := hff 2 _ rfl
        have k3 : DataW.trod enc Try.prog W base sp held k 9 (([c0, c1, c2, c3, c4].drop 3).take (Try.prog.cellsOf 9)) = some y3 := hff 3 _ rfl
        have k4 : DataW.trod enc Try.prog W base sp held k 2 (([c0, c1, c2, c3, c4].drop 4).take (Try.prog.cellsOf 2)) = some y4 := hff 4 _ rfl
        rw [hone] at k0 k1 k2
        rw [hone9] at k3
        rw [hone2] at k4
        obtain ⟨u0, e0, _⟩ := DataW.trod_int Try.underlying3 k0
        obtain ⟨u1, e1, _⟩ := DataW.trod_int Try.underlying3 k1
        obtain ⟨u2, e2, _⟩ := DataW.trod_int Try.underlying3 k2
        obtain ⟨u4, e4, _⟩ := DataW.trod_int Try.underlying2 k4
        obtain ⟨u3, e3, z3, b3⟩ := DataW.trod_string Try.underlying9 k3
        simp at e0 e1 e2 e3 e4
        subst e0 e1 e2 e3 e4
        have g0 := hc 0 (by omega)
        have g1 := hc 1 (by omega)
        have g2 := hc 2 (by omega)
        have g3 := hc 3 (by omega)
        have g4 := hc 4 (by omega)
        rw [Deep.add_add, addP] at g0 g1 g2 g3 g4
        exact ⟨⟨u0, u1, u2, ⟨u3, b3⟩, u4⟩, g0, g1, g2, g3, g4⟩)
    refine ⟨(List.range len).map V, Or.inr ⟨b, off, cap, by simp, by simp; omega, hlt, fun j o hj => ?_⟩, Or.inr ⟨_, _, congrArg Prod.fst hx, by simp⟩⟩
    have hjl : j < len := by
      have := (List.getElem?_eq_some_iff.1 hj).1
      simpa using this
    have ho : V j = o := by simpa [hjl] using hj
    rw [← ho]
    exact hV j hjl
end Go.Proofs.Ytplbcamliiajdaa
