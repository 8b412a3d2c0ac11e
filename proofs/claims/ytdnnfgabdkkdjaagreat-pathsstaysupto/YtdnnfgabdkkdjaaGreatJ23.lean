import Derived.Test.YtdnnfgabdkkdjaaGreatRows
import Derived.Test.YtdnnfgabdkkdjaaGreatGFlaw
import Derived.ProofKit
import Derived.Lay
import Derived.LaidMore
import Derived.Deep.DeepHandedRow
import Derived.Lib.SmallJoins
import Derived.OpenShut
import Derived.Deep.Slices
import Derived.ChangeOld
import Derived.Test.YtdnnfgabdkkdjaaGreatJ13
import Derived.Test.YtdnnfgabdkkdjaaGreatJ22
namespace Go.Proofs.YtdnnfgabdkkdjaaGreat
open Go.ChangeShapes Go.WideShapes Go.ChangeAt Go.RowKit Go.Joins
def laidL : List (String × DataW Unit) := []
theorem own : ownKnob Tryz.prog.godebug = none := by kernel_rfl
theorem laidOut : laidOutB Tryz.prog = true := by kernel_rfl
theorem witness {H : Type} {enc : TypeId × Value → H} {os : Os} {f : FuncId} {fn : Func} {s : OpenSpec} {conds : List PathCond} {apart : Bool} (args : Array Value)
    (hsh : ((World.laidAll Tryz.prog os laidL).forCall (fun _ _ => 0) ⟨#[], args, []⟩).Shaped Tryz.prog)
    (hok : Input.okWideB Tryz.prog ((World.laidAll Tryz.prog os laidL).forCall (fun _ _ => 0) ⟨#[], args, []⟩) f ⟨#[], args, []⟩ = true)
    (hrow : s.preRow enc Tryz.prog fn conds apart laidL ((World.laidAll Tryz.prog os laidL).forCall (fun _ _ => 0) ⟨#[], args, []⟩).memory args) :
    ∃ (w : World) (tape : Tape) (i : Input), w.os = os ∧ (w.forCall tape i).Shaped Tryz.prog ∧ i.vars = [] ∧ Input.okWide Tryz.prog (w.forCall tape i) .any w.heap.size f i ∧
     s.preRow enc Tryz.prog fn conds apart laidL (w.forCall tape i).memory i.args ∧ ({} : Assume).holds Tryz.prog (lone (Frame.enter Tryz.prog f i.args .normal) [] (w.forCall tape i)) :=
 ⟨World.laidAll Tryz.prog os laidL, fun _ _ => 0, ⟨#[], args, []⟩, World.laidAll_os _ _ _, hsh, (Input.okWide_of_okWideB (base := 0) hok).1, (Input.okWide_of_okWideB hok).2, hrow, by
  simp only [Assume.holds]
  exact ⟨by simp, by simp, by simp, by simp, by simp⟩⟩
theorem laid_met (os : Os) (args : Array Value) : laidMetH Tryz.prog laidL ((World.laidAll Tryz.prog os laidL).forCall (fun _ _ => 0) ⟨#[], args, []⟩).memory := by
 rw [MakeChecks.laidMetH_plain _ _ _ (by kernel_rfl)]
 exact laidMet_laidAll _ (by kernel_rfl) (by kernel_rfl)
theorem i64_bd {x : Int} (h : (Lit.int .i64 x).wf = true) : -9223372036854775808 ≤ x ∧ x ≤ 9223372036854775807 := by
 simpa [Lit.wf, IntKind.min, IntKind.max, IntKind.signed, IntKind.bits] using h
theorem u64_bd {x : Int} (h : (Lit.int .u64 x).wf = true) : 0 ≤ x ∧ x ≤ 18446744073709551615 := by
 simpa [Lit.wf, IntKind.min, IntKind.max, IntKind.signed, IntKind.bits] using h
end Go.Proofs.YtdnnfgabdkkdjaaGreat
namespace Go.Proofs.YtdnnfgabdkkdjaaGreat.Df
open Go.ChangeShapes Go.WideShapes Go.ChangeAt Go.RowKit Go.Joins
theorem cell_in {W : World} {a : Addr} {u : Value} (h : W.cell? a = some u) : a.spot = none ∧ a.block < W.heap.size := by
 unfold World.cell? at h
 split at h
 ·rename_i hh
  refine ⟨?_, (Array.getElem?_eq_some_iff.1 hh).1⟩
  split at h
  ·cases h
  ·rename_i hs
   simpa using hs
 ·cases h
theorem weights_all {H : Type} {P : Program} {e : TypeId} {l : List (DataW H)} {d : DataW H} (hd : d ∈ l) {n : Nat} (hn : n ∈ d.weights P e) : n ∈ DataW.weightsAll P e l := by
 induction l with
 | nil => cases hd
 | cons x l ih =>
  simp only [DataW.weightsAll, List.mem_append]
  rcases List.mem_cons.1 hd with rfl | hd
  ·exact Or.inl hn
  ·exact Or.inr (ih hd)
def Wgt {H : Type} (P : Program) (t : TypeId) (d : DataW H) : Prop := ∀ n ∈ d.weights P t, n ≤ reachBytes
theorem trod_list {P : Program} {α : Type} [Inhabited α] (E : El α) (Pr : α → Prop) {sT eT : TypeId} (hu : P.underlying sT = some (.slice eT)) (hc : P.cellsOf eT = E.k) (hk : 0 < E.k)
    {H : Type} {enc : TypeId × Value → H} {W : World} {base : Nat} {sp : Nat → Bool} {held : Bool}
    (hel : ∀ fuel cs y, cs.length = E.k → DataW.trod enc P W base sp held fuel eT cs = some y → Wgt P eT y.1 → ∃ x, cs = E.enc x ∧ Pr x)
    (fuel : Nat) (cs : List Value) (y : DataW H × List MemPlace) (h : DataW.trod enc P W base sp held fuel sT cs = some y) (hw : Wgt P sT y.1) :
    ∃ (q : Option Addr) (c : Nat) (ts : List α), cs = [.slice q ts.length c] ∧ Lz E W.heap.size W (.slice q ts.length c) ts ∧ (∀ x ∈ ts, Pr x) ∧ ts.length * P.bytesOf eT ≤ reachBytes ∧ ts.length ≤ c := by
 rcases Deep.open_slice hu h with ⟨hcs, hx⟩ | ⟨a, len, cap, m, n, D, Pl, hcs, hb, hl, hm, hmm, hx, hall⟩
 ·exact ⟨none, 0, [], hcs, Lz.nil _ _ _, fun _ h => (by cases h), by simp, Nat.le_refl _⟩
 ·have hlm : len ≤ m := by rw [hmm]; split <;> omega
  have hws : Wgt P sT (.slice ((List.range len).map D) ((List.range (m - len)).map fun j => D (len + j))) := by rw [hx] at hw; exact hw
  have hsz : len * P.bytesOf eT ≤ reachBytes := by
   have h1 := hws (((List.range len).map D).length * P.bytesOf eT + ((List.range (m - len)).map fun j => D (len + j)).length * P.bytesOf eT) (by simp [DataW.weights, hu, Nat.add_mul])
   simp only [List.length_map, List.length_range] at h1
   omega
  by_cases h0 : len = 0
  ·subst h0
   exact ⟨some a, cap, [], hcs, Or.inr ⟨rfl, _, _, rfl⟩, fun _ h => (by cases h), by simp, Nat.zero_le _⟩
  ·obtain ⟨cs0, g1, _⟩ := hall 0 (by omega)
   rw [hc] at g1
   obtain ⟨_, hl0, hc0⟩ := World.cells?_some g1
   have g0 := hc0 0 hk
   rw [show (a.add (0 * E.k)).add 0 = a by simp [Addr.add]] at g0
   obtain ⟨u0, hu0⟩ : ∃ u, cs0[0]? = some u := ⟨cs0[0]'(by omega), by simp⟩
   obtain ⟨hsp, hlt⟩ := cell_in (g0.trans hu0)
   clear g0 hc0 hl0 g1 hu0
   obtain ⟨b, off, spot⟩ := a
   simp only at hsp hlt
   subst hsp
   obtain ⟨V, hV⟩ := Deep.choose_lt (α := α) (p := fun i t => (∀ j u, j < E.k → (E.enc t)[j]? = some u → W.cell? ⟨b, off + i * E.k + j, none⟩ = some u) ∧ Pr t) (n := len) (fun i hi => by
    obtain ⟨cs', h1, h2⟩ := hall i (by omega)
    rw [hc] at h1
    obtain ⟨_, hl3, hc'⟩ := World.cells?_some h1
    have hwi : Wgt P eT (D i) := fun n hn => hws n (by
     simp only [DataW.weights, hu, List.mem_cons, List.mem_append]
     exact Or.inr (Or.inl (weights_all (List.mem_map.2 ⟨i, List.mem_range.2 hi, rfl⟩) hn)))
    obtain ⟨x, rfl, hPr⟩ := hel _ _ _ hl3 h2 hwi
    refine ⟨x, fun j u hj hu' => ?_, hPr⟩
    have g0 := hc' j hj
    rw [Deep.add_add, addA] at g0
    rw [← Nat.add_assoc] at g0
    rw [g0]
    exact hu')
   refine ⟨some ⟨b, off, none⟩, cap, (List.range len).map V, by simpa using hcs, Or.inl ⟨Or.inr ⟨b, off, cap, rfl, hlt, fun j u hj => ?_⟩, fun k hk => ?_⟩, fun x hx => ?_, by simpa using hsz, by simpa using hl⟩
   ·have hjl : j < len * E.k := by
      have := (List.getElem?_eq_some_iff.1 hj).1
      rw [fl_length] at this
      simpa using this
    have hi : j / E.k < len := (Nat.div_lt_iff_lt_mul hk).2 hjl
    have hg := fl_get E ((List.range len).map V) (j / E.k) (j % E.k) (V (j / E.k)) (by simp [hi]) (Nat.mod_lt _ hk)
    rw [Nat.div_add_mod', hj] at hg
    have := (hV (j / E.k) hi).1 (j % E.k) u (Nat.mod_lt _ hk) hg.symm
    rwa [Nat.add_assoc, Nat.div_add_mod'] at this
   ·simp [Value.ownBlock] at hk
    omega
   ·obtain ⟨i, hi, rfl⟩ := List.mem_map.1 hx
    exact (hV i (List.mem_range.1 hi)).2
theorem c1i : Tryz.prog.cellsOf 3 = 1 := by kernel_rfl
theorem c1b : Tryz.prog.cellsOf 4 = 1 := by kernel_rfl
theorem c1u : Tryz.prog.cellsOf 37 = 1 := by kernel_rfl
theorem c3p : Tryz.prog.cellsOf 39 = 3 := by kernel_rfl
theorem c1o : Tryz.prog.cellsOf 87 = 1 := by kernel_rfl
theorem c1c : Tryz.prog.cellsOf 85 = 1 := by kernel_rfl
instance : Inhabited Opd := ⟨⟨0, 0⟩⟩
instance : Inhabited Con := ⟨⟨0, 0, (0, 0, 0)⟩⟩
instance : Inhabited Edg := ⟨⟨0, 0, 0, 0, false⟩⟩
instance : Inhabited NV := ⟨⟨⟨0, 0, 0, [], (0, 0, 0), 0, [], false⟩, none, 0, 0, none, 0, 0⟩⟩
section
variable {H : Type} {enc : TypeId × Value → H} {W : World} {base : Nat} {sp : Nat → Bool} {held : Bool}
theorem trod_i {fuel : Nat} {c : Value} {y : DataW H × List MemPlace} (h : DataW.trod enc Tryz.prog W base sp held fuel 3 [c] = some y) : ∃ n : Int, c = .int .i64 n ∧ I64 n := by
 obtain ⟨u, e, _, w⟩ := DataW.trod_int Tryz.underlying3 h
 simp at e
 exact ⟨u, e, i64_bd w⟩
theorem trod_u {fuel : Nat} {c : Value} {y : DataW H × List MemPlace} (h : DataW.trod enc Tryz.prog W base sp held fuel 37 [c] = some y) : ∃ n : Nat, c = .int .u64 (n : Nat) ∧ U64 n := by
 obtain ⟨u, e, _, w⟩ := DataW.trod_int Tryz.underlying37 h
 have b := u64_bd w
 simp at e
 exact ⟨u.toNat, by rw [e, Int.toNat_of_nonneg b.1], by unfold U64; omega⟩
set_option maxRecDepth 100000 in
theorem trod_pth (fuel : Nat) (c0 c1 c2 : Value) (y : DataW H × List MemPlace) (h : DataW.trod enc Tryz.prog W base sp held fuel 39 [c0, c1, c2] = some y) : ∃ p : Pth, c0 = .int .u64 (p.1 : Nat) ∧ c1 = .int .u64 (p.2.1 : Nat) ∧ c2 = .int .u64 (p.2.2 : Nat) ∧ PthT p := by
 obtain ⟨xs, k, _, _, _, hxl, hff⟩ := DataW.trod_struct Tryz.underlying39 h
 match xs, hxl with
 | [y0, y1, y2], _ =>
  have k0 : DataW.trod enc Tryz.prog W base sp held k 37 (([c0, c1, c2].drop 0).take (Tryz.prog.cellsOf 37)) = some y0 := hff 0 _ rfl
  have k1 : DataW.trod enc Tryz.prog W base sp held k 37 (([c0, c1, c2].drop 1).take (Tryz.prog.cellsOf 37)) = some y1 := hff 1 _ rfl
  have k2 : DataW.trod enc Tryz.prog W base sp held k 37 (([c0, c1, c2].drop 2).take (Tryz.prog.cellsOf 37)) = some y2 := hff 2 _ rfl
  rw [c1u] at k0 k1 k2
  obtain ⟨a, ea, ta⟩ := trod_u k0
  obtain ⟨b, eb, tb⟩ := trod_u k1
  obtain ⟨c, ec, tc⟩ := trod_u k2
  exact ⟨(a, b, c), ea, eb, ec, ta, tb, tc⟩
set_option maxRecDepth 100000 in
theorem trod_opd (fuel : Nat) (cs : List Value) (y : DataW H × List MemPlace) (hl : cs.length = 2) (h : DataW.trod enc Tryz.prog W base sp held fuel 138 cs = some y) : ∃ o : Opd, cs = EO.enc o ∧ OpdT o := by
 obtain ⟨xs, k, _, _, _, hxl, hff⟩ := DataW.trod_struct Tryz.underlying138 h
 match cs, hl, xs, hxl with
 | [c0, c1], _, [y0, y1], _ =>
  have k0 : DataW.trod enc Tryz.prog W base sp held k 3 (([c0, c1].drop 0).take (Tryz.prog.cellsOf 3)) = some y0 := hff 0 _ rfl
  have k1 : DataW.trod enc Tryz.prog W base sp held k 37 (([c0, c1].drop 1).take (Tryz.prog.cellsOf 37)) = some y1 := hff 1 _ rfl
  rw [c1i] at k0
  rw [c1u] at k1
  obtain ⟨a, rfl, ta⟩ := trod_i k0
  obtain ⟨b, rfl, tb⟩ := trod_u k1
  exact ⟨⟨a, b⟩, rfl, ta, tb⟩
set_option maxRecDepth 100000 in
theorem trod_con (fuel : Nat) (cs : List Value) (y : DataW H × List MemPlace) (hl : cs.length = 5) (h : DataW.trod enc Tryz.prog W base sp held fuel 92 cs = some y) : ∃ o : Con, cs = EC.enc o ∧ ConT o := by
 obtain ⟨xs, k, _, _, _, hxl, hff⟩ := DataW.trod_struct Tryz.underlying92 h
 match cs, hl, xs, hxl with
 | [c0, c1, c2, c3, c4], _, [y0, y1, y2], _ =>
  have k0 : DataW.trod enc Tryz.prog W base sp held k 3 (([c0, c1, c2, c3, c4].drop 0).take (Tryz.prog.cellsOf 3)) = some y0 := hff 0 _ rfl
  have k1 : DataW.trod enc Tryz.prog W base sp held k 3 (([c0, c1, c2, c3, c4].drop 1).take (Tryz.prog.cellsOf 3)) = some y1 := hff 1 _ rfl
  have k2 : DataW.trod enc Tryz.prog W base sp held k 39 (([c0, c1, c2, c3, c4].drop 2).take (Tryz.prog.cellsOf 39)) = some y2 := hff 2 _ rfl
  rw [c1i] at k0 k1
  rw [c3p] at k2
  obtain ⟨a, rfl, ta⟩ := trod_i k0
  obtain ⟨b, rfl, tb⟩ := trod_i k1
  obtain ⟨p, rfl, rfl, rfl, tp⟩ := trod_pth _ _ _ _ _ k2
  exact ⟨⟨a, b, p⟩, rfl, ta, tb, tp⟩
set_option maxRecDepth 100000 in
theorem trod_edg (fuel : Nat) (cs : List Value) (y : DataW H × List MemPlace) (hl : cs.length = 5) (h : DataW.trod enc Tryz.prog W base sp held fuel 94 cs = some y) : ∃ o : Edg, cs = ED.enc o ∧ EdgT o := by
 obtain ⟨xs, k, _, _, _, hxl, hff⟩ := DataW.trod_struct Tryz.underlying94 h
 match cs, hl, xs, hxl with
 | [c0, c1, c2, c3, c4], _, [y0, y1, y2, y3, y4], _ =>
  have k0 : DataW.trod enc Tryz.prog W base sp held k 3 (([c0, c1, c2, c3, c4].drop 0).take (Tryz.prog.cellsOf 3)) = some y0 := hff 0 _ rfl
  have k1 : DataW.trod enc Tryz.prog W base sp held k 3 (([c0, c1, c2, c3, c4].drop 1).take (Tryz.prog.cellsOf 3)) = some y1 := hff 1 _ rfl
  have k2 : DataW.trod enc Tryz.prog W base sp held k 3 (([c0, c1, c2, c3, c4].drop 2).take (Tryz.prog.cellsOf 3)) = some y2 := hff 2 _ rfl
  have k3 : DataW.trod enc Tryz.prog W base sp held k 3 (([c0, c1, c2, c3, c4].drop 3).take (Tryz.prog.cellsOf 3)) = some y3 := hff 3 _ rfl
  have k4 : DataW.trod enc Tryz.prog W base sp held k 4 (([c0, c1, c2, c3, c4].drop 4).take (Tryz.prog.cellsOf 4)) = some y4 := hff 4 _ rfl
  rw [c1i] at k0 k1 k2 k3
  rw [c1b] at k4
  obtain ⟨a, rfl, ta⟩ := trod_i k0
  obtain ⟨b, rfl, tb⟩ := trod_i k1
  obtain ⟨c, rfl, tc⟩ := trod_i k2
  obtain ⟨d, rfl, td⟩ := trod_i k3
  obtain ⟨e, he, _⟩ := DataW.trod_bool Tryz.underlying4 k4
  simp at he
  subst he
  exact ⟨⟨a, b, c, d, e⟩, rfl, ta, tb, tc, td⟩
end
end Go.Proofs.YtdnnfgabdkkdjaaGreat.Df
namespace Go.Proofs.YtdnnfgabdkkdjaaGreat.Df
open Go.ChangeShapes Go.WideShapes Go.ChangeAt Go.RowKit Go.Joins
section
variable {H : Type} {enc : TypeId × Value → H} {W : World} {base : Nat} {sp : Nat → Bool} {held : Bool}
def NodK2 (W : World) (x : NV) : Prop := NodT x.n ∧ NR W.heap.size W x ∧ x.n.code.length * 16 ≤ 140737488351232 ∧ x.n.conns.length * 40 ≤ 140737488351232 ∧ x.n.conns.length ≤ x.dc
def Sz (xs : List NV) (es : List Edg) : Prop := xs.length * 112 ≤ 140737488351232 ∧ es.length * 40 ≤ 140737488351232 ∧ ∀ x ∈ xs, x.n.code.length * 16 ≤ 140737488351232 ∧ x.n.conns.length * 40 ≤ 140737488351232
set_option maxRecDepth 100000 in
theorem trod_nod2 (fuel : Nat) (cs : List Value) (y : DataW H × List MemPlace) (hl : cs.length = 10) (h : DataW.trod enc Tryz.prog W base sp held fuel 89 cs = some y) (hw : Wgt Tryz.prog 89 y.1) : ∃ x : NV, cs = EV.enc x ∧ NodK2 W x := by
 obtain ⟨xs, k, _, hxy, _, hxl, hff⟩ := DataW.trod_struct Tryz.underlying89 h
 match cs, hl, xs, hxl with
 | [c0, c1, c2, c3, c4, c5, c6, c7, c8, c9], _, [y0, y1, y2, y3, y4, y5, y6, y7], _ =>
  have hwe : ∀ n ∈ DataW.weightsEach Tryz.prog [3, 3, 3, 87, 39, 37, 85, 4] [y0.1, y1.1, y2.1, y3.1, y4.1, y5.1, y6.1, y7.1], n ≤ reachBytes := fun n hn => hw n (by
   rw [hxy]
   simp only [DataW.weights, Tryz.underlying89]
   exact hn)
  have k0 : DataW.trod enc Tryz.prog W base sp held k 3 (([c0, c1, c2, c3, c4, c5, c6, c7, c8, c9].drop 0).take (Tryz.prog.cellsOf 3)) = some y0 := hff 0 _ rfl
  have k1 : DataW.trod enc Tryz.prog W base sp held k 3 (([c0, c1, c2, c3, c4, c5, c6, c7, c8, c9].drop 1).take (Tryz.prog.cellsOf 3)) = some y1 := hff 1 _ rfl
  have k2 : DataW.trod enc Tryz.prog W base sp held k 3 (([c0, c1, c2, c3, c4, c5, c6, c7, c8, c9].drop 2).take (Tryz.prog.cellsOf 3)) = some y2 := hff 2 _ rfl
  have k3 : DataW.trod enc Tryz.prog W base sp held k 87 (([c0, c1, c2, c3, c4, c5, c6, c7, c8, c9].drop 3).take (Tryz.prog.cellsOf 87)) = some y3 := hff 3 _ rfl
  have k4 : DataW.trod enc Tryz.prog W base sp held k 39 (([c0, c1, c2, c3, c4, c5, c6, c7, c8, c9].drop 4).take (Tryz.prog.cellsOf 39)) = some y4 := hff 4 _ rfl
  have k5 : DataW.trod enc Tryz.prog W base sp held k 37 (([c0, c1, c2, c3, c4, c5, c6, c7, c8, c9].drop 7).take (Tryz.prog.cellsOf 37)) = some y5 := hff 5 _ rfl
  have k6 : DataW.trod enc Tryz.prog W base sp held k 85 (([c0, c1, c2, c3, c4, c5, c6, c7, c8, c9].drop 8).take (Tryz.prog.cellsOf 85)) = some y6 := hff 6 _ rfl
  have k7 : DataW.trod enc Tryz.prog W base sp held k 4 (([c0, c1, c2, c3, c4, c5, c6, c7, c8, c9].drop 9).take (Tryz.prog.cellsOf 4)) = some y7 := hff 7 _ rfl
  rw [c1i] at k0 k1 k2
  rw [c1o] at k3
  rw [c3p] at k4
  rw [c1u] at k5
  rw [c1c] at k6
  rw [c1b] at k7
  obtain ⟨a, rfl, ta⟩ := trod_i k0
  obtain ⟨b, rfl, tb⟩ := trod_i k1
  obtain ⟨c, rfl, tc⟩ := trod_i k2
  obtain ⟨q3, d3, l3, e3, z3, p3, s3, _⟩ := trod_list EO OpdT Tryz.underlying87 (by kernel_rfl) (by decide) (fun fuel cs y hl h _ => trod_opd fuel cs y hl h) _ _ _ k3 (fun n hn => hwe n (DataW.weights_mem_each (j := 3) rfl rfl n hn))
  obtain ⟨p, rfl, rfl, rfl, tp⟩ := trod_pth _ _ _ _ _ k4
  obtain ⟨u, rfl, tu⟩ := trod_u k5
  obtain ⟨q6, d6, l6, e6, z6, p6, s6, t6⟩ := trod_list EC ConT Tryz.underlying85 (by kernel_rfl) (by decide) (fun fuel cs y hl h _ => trod_con fuel cs y hl h) _ _ _ k6 (fun n hn => hwe n (DataW.weights_mem_each (j := 6) rfl rfl n hn))
  obtain ⟨e, he, _⟩ := DataW.trod_bool Tryz.underlying4 k7
  simp at he e3 e6
  subst he e3 e6
  rw [show Tryz.prog.bytesOf 138 = 16 by kernel_rfl] at s3
  rw [show Tryz.prog.bytesOf 92 = 40 by kernel_rfl] at s6
  have hrb : reachBytes ≤ 140737488351232 := by decide
  exact ⟨⟨⟨a, b, c, l3, p, u, l6, e⟩, q3, l3.length, d3, q6, l6.length, d6⟩, rfl, ⟨ta, tb, tc, p3, tp, tu, p6⟩, ⟨z3, z6⟩, by simp only; omega, by simp only; omega, t6⟩
end
end Go.Proofs.YtdnnfgabdkkdjaaGreat.Df

namespace Go.Proofs.YtdnnfgabdkkdjaaGreat.Lf
open Go.ChangeShapes Go.WideShapes Go.ChangeAt Go.RowKit Go.Joins Go.Sort Pt
open Df (Gph gof GR Gcap NV Edg GphT EdgT)
theorem bulk_one {H : Type} (d : DataW H) : 1 ≤ Rows.uptoBulk d := by
 cases d with
 | lit l => cases l <;> simp [Rows.uptoBulk]
 | nil => simp [Rows.uptoBulk]
 | ptr d => simp [Rows.uptoBulk]
 | slice elems spare => simp [Rows.uptoBulk]
 | agg parts => simp [Rows.uptoBulk]
 | iface t d => simp [Rows.uptoBulk]
 | map entries => simp [Rows.uptoBulk]
 | held h => simp [Rows.uptoBulk]
theorem bulk_len {H : Type} (l : List (DataW H)) : l.length ≤ Rows.uptoBulkAll l := by
 induction l with
 | nil => simp [Rows.uptoBulkAll]
 | cons x r ih => have := bulk_one x; simp only [Rows.uptoBulkAll, List.length_cons]; omega
section
variable {H : Type} {enc : TypeId × Value → H} {W : World} {base : Nat} {sp : Nat → Bool} {held : Bool}
theorem trod_bulk {P : Program} {sT eT : TypeId} (hu : P.underlying sT = some (.slice eT)) {fuel : Nat} {q : Option Addr} {n c : Nat} {y : DataW H × List MemPlace} (h : DataW.trod enc P W base sp held fuel sT [.slice q n c] = some y) : n ≤ Rows.uptoBulk y.1 := by
 rcases Deep.open_slice hu h with ⟨hcs, hx⟩ | ⟨a, len, cap, m, n', D, Pl, hcs, hb, hl, hm, hmm, hx, hall⟩
 ·simp at hcs
  omega
 ·simp at hcs
  obtain ⟨rfl, rfl, rfl⟩ := hcs
  rw [hx]
  have := bulk_len ((List.range n).map D)
  simp only [Rows.uptoBulk]
  simp only [List.length_map, List.length_range] at this
  omega
theorem trod_w {fuel : Nat} {c : Value} {y : DataW H × List MemPlace} (h : DataW.trod enc Tryz.prog W base sp held fuel 37 [c] = some y) : ∃ n : Int, c = .int .u64 n ∧ (Lit.int .u64 n).wf = true := by
 obtain ⟨u, e, _, w⟩ := DataW.trod_int Tryz.underlying37 h
 simp at e
 exact ⟨u, e, w⟩
set_option maxRecDepth 100000 in
theorem trod_stamp (fuel : Nat) (cs : List Value) (y : DataW H × List MemPlace) (hl : cs.length = 4) (h : DataW.trod enc Tryz.prog W base sp held fuel 52 cs = some y) : ∃ x : Hf.Th, cs = EF.enc x ∧ True := by
 have hthree : Tryz.prog.cellsOf 50 = 3 := by kernel_rfl
 match cs, hl with
 | [c3, c4, c5, c6], _ =>
  obtain ⟨zs, k', _, _, _, hzl, hgg⟩ := DataW.trod_struct Tryz.underlying52 h
  match zs, hzl with
  | [z0, z1], _ =>
   have j0 : DataW.trod enc Tryz.prog W base sp held k' 3 (([c3, c4, c5, c6].drop 0).take (Tryz.prog.cellsOf 3)) = some z0 := hgg 0 _ rfl
   have j1 : DataW.trod enc Tryz.prog W base sp held k' 50 (([c3, c4, c5, c6].drop 1).take (Tryz.prog.cellsOf 50)) = some z1 := hgg 1 _ rfl
   rw [Df.c1i] at j0
   rw [hthree] at j1
   obtain ⟨u3, rfl, _⟩ := Df.trod_i j0
   simp only [List.drop_succ_cons, List.drop_zero, List.take_succ_cons, List.take_zero] at j1
   obtain ⟨ts, k2', _, _, _, htl, hhh⟩ := DataW.trod_struct Tryz.underlying50 j1
   match ts, htl with
   | [t0, t1, t2], _ =>
    have i0 : DataW.trod enc Tryz.prog W base sp held k2' 37 (([c4, c5, c6].drop 0).take (Tryz.prog.cellsOf 37)) = some t0 := hhh 0 _ rfl
    have i1 : DataW.trod enc Tryz.prog W base sp held k2' 37 (([c4, c5, c6].drop 1).take (Tryz.prog.cellsOf 37)) = some t1 := hhh 1 _ rfl
    have i2 : DataW.trod enc Tryz.prog W base sp held k2' 37 (([c4, c5, c6].drop 2).take (Tryz.prog.cellsOf 37)) = some t2 := hhh 2 _ rfl
    rw [Df.c1u] at i0 i1 i2
    obtain ⟨u4, rfl, w4⟩ := trod_w i0
    obtain ⟨u5, rfl, w5⟩ := trod_w i1
    obtain ⟨u6, rfl, w6⟩ := trod_w i2
    exact ⟨(u3, ⟨(u4, u5, u6), w4, w5, w6⟩), rfl, trivial⟩
set_option maxRecDepth 100000 in
theorem trod_graph (fuel : Nat) (c0 c1 c2 : Value) (y : DataW H × List MemPlace) (h : DataW.trod enc Tryz.prog W base sp held fuel 25 [c0, c1, c2] = some y) (hw : Df.Wgt Tryz.prog 25 y.1) :
    ∃ (a : Int) (xs : List NV) (es : List Edg), c0 = .int .i64 a ∧ GphT (gof a xs es) ∧ GR W.heap.size W c1 c2 xs es ∧ Df.Sz xs es ∧ Gcap c2 xs := by
 obtain ⟨xs, k, _, hxy, _, hxl, hff⟩ := DataW.trod_struct Tryz.underlying25 h
 match xs, hxl with
 | [y0, y1, y2], _ =>
  have hwe : ∀ n ∈ DataW.weightsEach Tryz.prog [3, 22, 23] [y0.1, y1.1, y2.1], n ≤ reachBytes := fun n hn => hw n (by
   rw [hxy]
   simp only [DataW.weights, Tryz.underlying25]
   exact hn)
  have h0 : DataW.trod enc Tryz.prog W base sp held k 3 (([c0, c1, c2].drop 0).take (Tryz.prog.cellsOf 3)) = some y0 := hff 0 _ rfl
  have h1 : DataW.trod enc Tryz.prog W base sp held k 22 (([c0, c1, c2].drop 1).take (Tryz.prog.cellsOf 22)) = some y1 := hff 1 _ rfl
  have h2 : DataW.trod enc Tryz.prog W base sp held k 23 (([c0, c1, c2].drop 2).take (Tryz.prog.cellsOf 23)) = some y2 := hff 2 _ rfl
  rw [Df.c1i] at h0
  rw [show Tryz.prog.cellsOf 22 = 1 by kernel_rfl] at h1
  rw [show Tryz.prog.cellsOf 23 = 1 by kernel_rfl] at h2
  obtain ⟨a, rfl, ta⟩ := Df.trod_i h0
  obtain ⟨q1, d1, l1, e1, z1, p1, s1, _⟩ := Df.trod_list Df.EV (Df.NodK2 W) Tryz.underlying22 (by kernel_rfl) (by decide) (fun fuel cs y hl h hw => Df.trod_nod2 fuel cs y hl h hw) _ _ _ h1 (fun n hn => hwe n (DataW.weights_mem_each (j := 1) rfl rfl n hn))
  obtain ⟨q2, d2, l2, e2, z2, p2, s2, t2⟩ := Df.trod_list Df.ED EdgT Tryz.underlying23 (by kernel_rfl) (by decide) (fun fuel cs y hl h _ => Df.trod_edg fuel cs y hl h) _ _ _ h2 (fun n hn => hwe n (DataW.weights_mem_each (j := 2) rfl rfl n hn))
  simp at e1 e2
  subst e1 e2
  rw [show Tryz.prog.bytesOf 89 = 112 by kernel_rfl] at s1
  rw [show Tryz.prog.bytesOf 94 = 40 by kernel_rfl] at s2
  have hrb : reachBytes ≤ 140737488351232 := by decide
  refine ⟨a, l1, l2, rfl, ⟨ta, fun n hn => ?_, p2⟩, ⟨z1, z2, fun x hx => (p1 x hx).2.1, fun x hx => by have := (p1 x hx).2.2; omega, by omega, by omega⟩, ⟨by omega, by omega, fun x hx => ⟨(p1 x hx).2.2.1, (p1 x hx).2.2.2.1⟩⟩, ⟨fun p n c e => by simp only [Value.slice.injEq] at e; omega, fun x hx => ⟨(p1 x hx).2.2.2.2, by have := (p1 x hx).2.2.2.1; omega⟩⟩⟩
  obtain ⟨x, hx, rfl⟩ := List.mem_map.1 hn
  exact (p1 x hx).1
end
theorem GphT.gpt {g : Gph} (h : GphT g) : Gpt g := fun n hn => ⟨(h.2.1 n hn).2.2.2.2.1, fun c hc => ((h.2.1 n hn).2.2.2.2.2.2 c hc).2.2⟩
theorem array6 {cs : Array Value} (h : cs.size = 6) : ∃ c0 c1 c2 c3 c4 c5, cs = #[c0, c1, c2, c3, c4, c5] := by
 obtain ⟨l⟩ := cs
 match l, h with
 | [c0, c1, c2, c3, c4, c5], _ => exact ⟨c0, c1, c2, c3, c4, c5, rfl⟩
set_option maxRecDepth 100000 in
theorem open_ask11 {H : Type} {enc : TypeId × Value → H} {W : World} {r : Reach} {b0 base : Nat} {sp : Nat → Bool} {held : Bool} {v : Value} {d : DataW H} {p : List MemPlace} (hv : Value.okWide Tryz.prog W r b0 67 v) (h : DataW.Trod enc Tryz.prog W base sp held 67 v d p) (hw : Df.Wgt Tryz.prog 67 d) :
    (∀ x ∈ p, x.block < W.heap.size) ∧ ∃ (a : Int) (nv ev sv : Value) (P Q : Int) (xs : List NV) (es : List Edg) (l : List Hf.Th), v = .agg #[.int .i64 a, nv, ev, .int .i64 P, .int .i64 Q, sv] ∧ GphT (gof a xs es) ∧ GR W.heap.size W nv ev xs es ∧ Df.Sz xs es ∧ Gcap ev xs ∧ Df.Lz EF W.heap.size W sv l ∧ l.length * 32 ≤ 140737488351232 ∧ l.length ≤ Rows.uptoBulk d := by
 have hlt : ∀ x ∈ p, x.block < W.heap.size := by
  obtain ⟨fuel, hf⟩ := h
  exact DataW.trod_lt fuel _ _ _ hf
 refine ⟨hlt, ?_⟩
 obtain ⟨cs, rfl, hsz⟩ := okWide_struct Tryz.underlying67 hv
 obtain ⟨c0, c1, c2, c3, c4, c5, rfl⟩ := array6 (hsz.trans (by kernel_rfl))
 obtain ⟨fuel, hf⟩ := h
 simp only [Value.cells] at hf
 obtain ⟨xs, k, _, hxy, _, hxl, hff⟩ := DataW.trod_struct Tryz.underlying67 hf
 match xs, hxl with
 | [y0, y1, y2, y3], _ =>
  simp only [Prod.mk.injEq, List.map_cons, List.map_nil] at hxy
  obtain ⟨rfl, _⟩ := hxy
  have hwe : ∀ n ∈ DataW.weightsEach Tryz.prog [25, 3, 3, 49] [y0.1, y1.1, y2.1, y3.1], n ≤ reachBytes := fun n hn => hw n (by
   simp only [DataW.weights, Tryz.underlying67]
   exact hn)
  have h0 : DataW.trod enc Tryz.prog W base sp held k 25 (([c0, c1, c2, c3, c4, c5].drop 0).take (Tryz.prog.cellsOf 25)) = some y0 := hff 0 _ rfl
  have h1 : DataW.trod enc Tryz.prog W base sp held k 3 (([c0, c1, c2, c3, c4, c5].drop 3).take (Tryz.prog.cellsOf 3)) = some y1 := hff 1 _ rfl
  have h2 : DataW.trod enc Tryz.prog W base sp held k 3 (([c0, c1, c2, c3, c4, c5].drop 4).take (Tryz.prog.cellsOf 3)) = some y2 := hff 2 _ rfl
  have h3 : DataW.trod enc Tryz.prog W base sp held k 49 (([c0, c1, c2, c3, c4, c5].drop 5).take (Tryz.prog.cellsOf 49)) = some y3 := hff 3 _ rfl
  rw [show Tryz.prog.cellsOf 25 = 3 by kernel_rfl] at h0
  rw [Df.c1i] at h1 h2
  rw [show Tryz.prog.cellsOf 49 = 1 by kernel_rfl] at h3
  obtain ⟨a, xs, es, rfl, hT, hG, hS, hC⟩ := trod_graph _ _ _ _ _ h0 (fun n hn => hwe n (DataW.weights_mem_each (j := 0) rfl rfl n hn))
  obtain ⟨P, rfl, _⟩ := Df.trod_i h1
  obtain ⟨Q, rfl, _⟩ := Df.trod_i h2
  obtain ⟨q3, d3, l3, e3, z3, _, s3, _⟩ := Df.trod_list EF (fun _ => True) Tryz.underlying49 (by kernel_rfl) (by decide) (fun fuel cs y hl h _ => trod_stamp fuel cs y hl h) _ _ _ h3 (fun n hn => hwe n (DataW.weights_mem_each (j := 3) rfl rfl n hn))
  simp at e3
  subst e3
  rw [show Tryz.prog.bytesOf 52 = 32 by kernel_rfl] at s3
  have hrb : reachBytes ≤ 140737488351232 := by decide
  have hbk := trod_bulk Tryz.underlying49 h3
  refine ⟨a, c1, c2, _, P, Q, xs, es, l3, rfl, hT, hG, hS, hC, z3, by omega, ?_⟩
  simp only [Rows.uptoBulk, Rows.uptoBulkAll]
  omega
end Go.Proofs.YtdnnfgabdkkdjaaGreat.Lf

namespace Go.Proofs.YtdnnfgabdkkdjaaGreat
open Go.ChangeShapes Go.WideShapes Go.ChangeAt Go.RowKit
set_option maxRecDepth 100000 in
theorem pathsStaysUpto_contract (H : Type) (enc : TypeId × Value → H) (W : World) (base : Nat) (args : Array Value) (ds gs : List (DataW H)) (before : List MemPlace)
    (hval : ∀ (j : Nat) t v, Tryz.f7.params[j]? = some t → args[j]? = some v → Value.okWide Tryz.prog W .any base t v)
    (hW : DataW.Whole enc Tryz.prog Tryz.f7.params.toList Rows.pathsStaysSpec.vars false W args.toList ds gs before) (hk : Rows.uptoSmall H (ds ++ gs) = true) (hR : (DataW.weightsEach Tryz.prog (Tryz.f7.params.toList ++ (Rows.OpenSpec.upto Rows.pathsStaysSpec).bare.plain.varTypes Tryz.prog) (ds ++ gs)).all (· ≤ reachBytes) = true) :
    Calls Tryz.prog 7 args W fun e W' => ∃ v, e = .returned v ∧ Rows.pathsStaysSpec.post enc Tryz.prog Tryz.f7 false true false false W args v W' := by
 have hW' := hW
 obtain ⟨p, q, hA0, hV, rfl, hfz, hnd⟩ := hW
 have hA : DataW.TrodAll enc Tryz.prog W 0 (fun _ => true) true Tryz.f7.params.toList args.toList ds p := hA0
 rw [Tryz.params7] at hA hval
 obtain ⟨v0, d0, rfl, rfl, h0⟩ := trodAll_one hA
 obtain ⟨rfl, rfl⟩ := trodVars_none hV
 obtain ⟨hlt0, a0, nv0, ev0, sv0, P0, Q0, xs0, es0, l0, rfl, hT0, hG0, _, hC0, hs0, _, hb0⟩ := Lf.open_ask11 (hval 0 67 v0 rfl rfl) h0 (fun n hn => by simpa using List.all_eq_true.1 hR n (DataW.weights_mem_each (j := 0) (by kernel_rfl) rfl n hn))
 have hk0 : l0.length ≤ 1048576 := by
  have h1 := of_decide_eq_true hk
  simp only [List.append_nil, Rows.uptoBulkAll] at h1
  omega
 simp only [List.append_nil] at hW'
 refine (Lf.pathsStays_any P0 Q0 W hG0 (Nat.le_refl _) hC0 (Lf.GphT.gpt hT0) hs0 hk0).mono fun e W' ⟨he, hB⟩ => ?_
 subst he
 exact ⟨_, rfl, _, _, _, [], _, [], hW', trodAll_mk1 (shut_bool Tryz.underlying4 _), trodAll_mk1 (Below.trod laidOut (by kernel_rfl) (of_decide_eq_true (by kernel_rfl)) h0 hB hlt0), rfl, hB.frame _, fun h => by cases h⟩
set_option maxRecDepth 100000 in
theorem pathsStaysUpto_lifted (os : Os) (started : os.Started) (H : Type) (enc : TypeId × Value → H) (F : Stop.Interp) :
    ReturnsInHanded {} Tryz.checked os 7 .any ((Rows.OpenSpec.upto Rows.pathsStaysSpec).preRow enc Tryz.prog Tryz.f7 Rows.pathsStaysUptoRow.domain false Rows.pathsStaysUptoRow.laid) (((Rows.OpenSpec.upto Rows.pathsStaysSpec).at F).post enc Tryz.prog Tryz.f7 false true false false) := by
 refine returnsInHanded_of_row (C := Tryz.checked) (s := (Rows.OpenSpec.upto Rows.pathsStaysSpec)) own started (by kernel_rfl) Tryz.func7
  (witness (enc := enc) #[.agg #[.int .i64 0, .slice none 0 0, .slice none 0 0, .int .i64 0, .int .i64 0, .slice none 0 0]] (World.shaped_of_ZipB (by kernel_rfl) (by kernel_rfl)) (by kernel_rfl)
   (OpenSpec.preRow_of_cond 8 (x := ([.agg [.agg [.lit (.int .i64 0), .nil, .nil], .lit (.int .i64 0), .lit (.int .i64 0), .nil]], [], [])) (by kernel_rfl) (by kernel_rfl) (fun k hk => by cases hk; kernel_rfl) (by kernel_rfl) (laid_met os _))) ?_
 intro W base args ds gs before hval hW _ hC hR _ _ _
 exact pathsStaysUpto_contract H enc W base args ds gs before hval hW (hC _ rfl) hR
theorem pathsStaysUpto_said : Rows.PathsStaysUptoSaid :=
 OpenClaim.holds_of_cond 7 Tryz.f7 rfl rfl rfl rfl rfl rfl rfl ⟨rfl, rfl, rfl, rfl, rfl⟩ rfl rfl rfl rfl rfl (by kernel_rfl) Tryz.func7 (by kernel_rfl)
  (of_decide_eq_true (by kernel_rfl)) (by unfold Func.isWrapper; first | (rw [if_pos (by decide +kernel)]; kernel_rfl) | (rw [if_neg (by decide +kernel)]; exact ⟨rfl, rfl⟩))
  (fun os started H enc _ F => by rw [OpenClaim.pre_eq_preRow]; exact pathsStaysUpto_lifted os started H enc F)
end Go.Proofs.YtdnnfgabdkkdjaaGreat
