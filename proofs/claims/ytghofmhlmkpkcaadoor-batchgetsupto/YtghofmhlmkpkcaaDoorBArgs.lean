import Derived.Test.YtghofmhlmkpkcaaDoorRows
import Derived.Test.YtghofmhlmkpkcaaDoorBErr
import Derived.Test.YtghofmhlmkpkcaaDoorBBase
import Derived.ProofKit
import Derived.Lay
import Derived.LaidMore
import Derived.LaidHandle
import Derived.LaidLaws
import Derived.Stop.Joined
import Derived.Deep.DeepHandedRow
import Derived.Lib.SmallJoins
import Derived.OpenShut
import Derived.Deep.Slices
import Derived.ChangeOld
namespace Go.Proofs.YtghofmhlmkpkcaaDoor
open Go.ChangeShapes Go.WideShapes Go.ChangeAt Go.RowKit Go.Joins

def dataL : List (String × DataW Unit) := [("math/bits.deBruijn32tab", Rows.laid_math_bits_deBruijn32tab), ("math/bits.deBruijn64tab", Rows.laid_math_bits_deBruijn64tab), ("internal/strconv.uint64pow10", Rows.laid_internal_strconv_uint64pow10)]
def laidL : List (String × DataW Unit) := [("math/bits.deBruijn32tab", Rows.laid_math_bits_deBruijn32tab), ("math/bits.deBruijn64tab", Rows.laid_math_bits_deBruijn64tab), ("internal/strconv.uint64pow10", Rows.laid_internal_strconv_uint64pow10), ("errors.errorType", Rows.laid_errors_errorType)]
theorem own : ownKnob Tryd.prog.godebug = none := by kernel_rfl
theorem laidOut : laidOutB Tryd.prog = true := by kernel_rfl
theorem cellsB : Tryd.prog.cellsOf 5 = 1 := by kernel_rfl
theorem cellsC : Tryd.prog.cellsOf 43 = 5 := by kernel_rfl
theorem gEty : Tryd.prog.globalNamed "errors.errorType" = some 0 := by kernel_rfl
theorem rtRow : (Tryd.prog.cutTypes.find? (·.1 == "internal/reflectlite.rtype")).map (·.2) = some 129 := by kernel_rfl
theorem oneRow : ((List.range 194).filter fun t => Tryd.prog.rowNamed t [101, 114, 114, 111, 114]) = [26] := by kernel_rfl
theorem typesSize : Tryd.prog.types.size = 194 := by kernel_rfl
/-- What the row's list gives. -/
theorem ety_of_laid {W : World} (h : laidMetH Tryd.prog laidL W) : Wi.Ety W := by
  have h' : laidMet Tryd.prog dataL W ∧ handlesMet Tryd.prog [("errors.errorType", Rows.laid_errors_errorType)] W := h
  obtain ⟨name, u, ty, e1, e2, e3, e4, e5⟩ := h'.2 _ (List.mem_singleton.2 rfl)
  have en : name = [101, 114, 114, 111, 114] := (Option.some.inj e1).symm
  subst en
  obtain rfl := Option.some.inj (rtRow.symm.trans e2)
  have hm : ty ∈ (List.range 194).filter fun t => Tryd.prog.rowNamed t [101, 114, 114, 111, 114] := List.mem_filter.2 ⟨List.mem_range.2 (by rw [← typesSize]; exact e3), e4⟩
  rw [oneRow] at hm
  obtain rfl := List.mem_singleton.1 hm
  have hh : typeHandle Tryd.prog 26 = .pointer (some ⟨4, 26, none⟩) := by kernel_rfl
  rw [hh] at e5
  unfold Wi.Ety
  simpa using World.var?_cell gEty e5 0
/-- A world that meets the list. -/
noncomputable def atEty (w : World) : World :=
  { w with heap := w.heap.modify 0 fun
      | .cells _ t frozen => .cells #[.iface 129 (.agg #[.pointer (some ⟨4, 26, none⟩)])] t frozen
      | o => o }
theorem atEty_os (w : World) : (atEty w).os = w.os := rfl
noncomputable def LW (os : Os) : World := atEty (World.laidAll Tryd.prog os dataL)
theorem LW_os (os : Os) : (LW os).os = os := (atEty_os _).trans (World.laidAll_os _ _ _)
theorem laid_met0 (os : Os) : laidMetH Tryd.prog laidL (LW os) :=
  laidMetH_of_parts (laidMet_of_run' 40 (by kernel_rfl) (by kernel_rfl)) (by kernel_rfl)
theorem laid_met (os : Os) (args : Array Value) : laidMetH Tryd.prog laidL ((LW os).forCall (fun _ _ => 0) ⟨#[], args, []⟩).memory :=
  (laid_met0 os).of_heap (by simp [World.memory, World.forCall, Input.heap])
/-- A witness for a row. -/
theorem witness {H : Type} {enc : TypeId × Value → H} {os : Os} {f : FuncId} {fn : Func} {s : OpenSpec} {conds : List PathCond} {apart : Bool} (args : Array Value)
    (hsh : ((LW os).forCall (fun _ _ => 0) ⟨#[], args, []⟩).Shaped Tryd.prog)
    (hok : Input.okWideB Tryd.prog ((LW os).forCall (fun _ _ => 0) ⟨#[], args, []⟩) f ⟨#[], args, []⟩ = true)
    (hrow : s.preRow enc Tryd.prog fn conds apart laidL ((LW os).forCall (fun _ _ => 0) ⟨#[], args, []⟩).memory args) :
    ∃ (w : World) (tape : Tape) (i : Input), w.os = os ∧ (w.forCall tape i).Shaped Tryd.prog ∧ i.vars = [] ∧ Input.okWide Tryd.prog (w.forCall tape i) .any w.heap.size f i ∧
      s.preRow enc Tryd.prog fn conds apart laidL (w.forCall tape i).memory i.args ∧ ({} : Assume).holds Tryd.prog (lone (Frame.enter Tryd.prog f i.args .normal) [] (w.forCall tape i)) :=
  ⟨LW os, fun _ _ => 0, ⟨#[], args, []⟩, LW_os _, hsh, (Input.okWide_of_okWideB (base := 0) hok).1, (Input.okWide_of_okWideB hok).2, hrow, by
    simp only [Assume.holds]
    exact ⟨by simp, by simp, by simp, by simp, by simp⟩⟩
theorem i64_bd {x : Int} (h : (Lit.int .i64 x).wf = true) : -9223372036854775808 ≤ x ∧ x ≤ 9223372036854775807 := by
  simpa [Lit.wf, IntKind.min, IntKind.max, IntKind.signed, IntKind.bits] using h
theorem has_lt {P : Program} {W : World} {r : Reach} {b0 : Nat} {t e : TypeId} {a : Addr} {len cap : Nat} (ht : P.underlying t = some (.slice e)) (hv : Value.okWide P W r b0 t (.slice (some a) len cap)) : a.spot = none ∧ a.block < W.heap.size := by
  simp only [Value.okWide, ht, Cell.okWide, Cell.ok] at hv
  obtain ⟨_, _, _, hs, row, cells, hsh, _⟩ := hv
  refine ⟨hs, ?_⟩
  unfold World.shape? at hsh
  split at hsh
  · rename_i h
    exact (Array.getElem?_eq_some_iff.1 h).1
  · cases hsh


/-- A list that came in, of any elements. -/
theorem open_list {P : Program} {α : Type} [Inhabited α] (E : El α) {sT eT : TypeId} (hu : P.underlying sT = some (.slice eT)) (hc : P.cellsOf eT = E.k) (hk : 0 < E.k)
    {H : Type} {enc : TypeId × Value → H} {W : World} {r : Reach} {b0 base : Nat} {sp : Nat → Bool} {held : Bool} {v : Value} {d : DataW H} {p : List MemPlace}
    (hel : ∀ fuel cs y, cs.length = E.k → DataW.trod enc P W base sp held fuel eT cs = some y → ∃ x, cs = E.enc x)
    (hv : Value.okWide P W r b0 sT v) (h : DataW.Trod enc P W base sp held sT v d p) :
    (∀ x ∈ p, x.block < W.heap.size) ∧ ∃ ts : List α, Ls E W v ts ∧ ((d = .nil ∧ ts = []) ∨ ∃ elems spare, d = .slice elems spare ∧ elems.length = ts.length) := by
  obtain ⟨a0, len, cap, rfl⟩ := okWide_slice hu hv
  obtain ⟨fuel, hf⟩ := h
  refine ⟨DataW.trod_lt fuel _ _ _ hf, ?_⟩
  rcases Deep.open_slice hu hf with ⟨hcs, hx⟩ | ⟨a, len', cap', m, n, D, Pl, hcs, hb, hl, hm, hmm, hx, hall⟩
  · simp [Value.cells] at hcs
    obtain ⟨rfl, rfl, rfl⟩ := hcs
    exact ⟨[], Or.inl ⟨rfl, rfl⟩, Or.inl ⟨congrArg Prod.fst hx, rfl⟩⟩
  · simp [Value.cells] at hcs
    obtain ⟨rfl, rfl, rfl⟩ := hcs
    obtain ⟨hsp, hlt⟩ := has_lt hu hv
    obtain ⟨b, off, spot⟩ := a
    simp only at hsp hlt
    subst hsp
    have hlm : len ≤ m := by rw [hmm]; split <;> omega
    obtain ⟨V, hV⟩ := Deep.choose_lt (α := α) (p := fun i t => ∀ j u, j < E.k → (E.enc t)[j]? = some u → W.cell? ⟨b, off + i * E.k + j, none⟩ = some u) (n := len) (fun i hi => by
      obtain ⟨cs', h1, h2⟩ := hall i (by omega)
      rw [hc] at h1
      obtain ⟨_, hl3, hc'⟩ := World.cells?_some h1
      obtain ⟨x, rfl⟩ := hel _ _ _ hl3 h2
      refine ⟨x, fun j u hj hu' => ?_⟩
      have g0 := hc' j hj
      rw [Deep.add_add, addA] at g0
      rw [← Nat.add_assoc] at g0
      rw [g0]
      exact hu')
    refine ⟨(List.range len).map V, Or.inr ⟨b, off, cap, by simp, hlt, fun j u hj => ?_⟩, Or.inr ⟨_, _, congrArg Prod.fst hx, by simp⟩⟩
    have hjl : j < len * E.k := by
      have := (List.getElem?_eq_some_iff.1 hj).1
      rw [fl_length] at this
      simpa using this
    have hi : j / E.k < len := (Nat.div_lt_iff_lt_mul hk).2 hjl
    have hg := fl_get E ((List.range len).map V) (j / E.k) (j % E.k) (V (j / E.k)) (by simp [hi]) (Nat.mod_lt _ hk)
    rw [Nat.div_add_mod', hj] at hg
    have := hV (j / E.k) hi (j % E.k) u (Nat.mod_lt _ hk) hg.symm
    rwa [Nat.add_assoc, Nat.div_add_mod'] at this
theorem has_cap {P : Program} {W : World} {r : Reach} {b0 : Nat} {t e : TypeId} {v : Value} (ht : P.underlying t = some (.slice e)) (hv : Value.okWide P W r b0 t v) : ∀ p n c, v = .slice p n c → n ≤ c := by
  intro p n c h
  subst h
  cases p with
  | none =>
    cases n with
    | zero => exact Nat.zero_le _
    | succ n => simp [Value.okWide, ht, Cell.okWide, Cell.ok] at hv
  | some a =>
    simp only [Value.okWide, ht, Cell.okWide, Cell.ok] at hv
    obtain ⟨h1, h2, h3, _⟩ := hv
    omega
theorem u64_bd {x : Int} (h : (Lit.int .u64 x).wf = true) : 0 ≤ x ∧ x ≤ 18446744073709551615 := by
  simpa [Lit.wf, IntKind.min, IntKind.max, IntKind.signed, IntKind.bits] using h
theorem u8_bd {x : Int} (h : (Lit.int .u8 x).wf = true) : 0 ≤ x ∧ x ≤ 255 := by
  simpa [Lit.wf, IntKind.min, IntKind.max, IntKind.signed, IntKind.bits] using h
theorem trod_b {H : Type} {enc : TypeId × Value → H} {W : World} {base : Nat} {sp : Nat → Bool} {held : Bool} (fuel : Nat) (cs : List Value) (y : DataW H × List MemPlace) (_hl : cs.length = 1) (h : DataW.trod enc Tryd.prog W base sp held fuel 5 cs = some y) : ∃ x : UInt8, cs = Wi.EB.enc x := by
  obtain ⟨u, e, _, wf⟩ := DataW.trod_int Tryd.underlying5 h
  obtain ⟨h0, h1⟩ := u8_bd wf
  refine ⟨UInt8.ofNat u.toNat, ?_⟩
  rw [e]
  show [Value.int .u8 u] = [Value.int .u8 ((UInt8.ofNat u.toNat).toNat : Nat)]
  rw [Wi.u8_of (by omega), Int.toNat_of_nonneg h0]
theorem bulk_one {H : Type} (d : DataW H) : 1 ≤ Rows.uptoBulk d := by
  cases d with
  | lit l => cases l <;> simp [Rows.uptoBulk]
  | nil => simp [Rows.uptoBulk]
  | ptr d => simp [Rows.uptoBulk]
  | slice elems spare => simp [Rows.uptoBulk]
  | agg parts => simp [Rows.uptoBulk]
  | iface t d => simp [Rows.uptoBulk]
  | map entries => simp [Rows.uptoBulk]
  | held h => simp [Rows.uptoBulk]
theorem bulk_len {H : Type} (l : List (DataW H)) : l.length ≤ Rows.uptoBulkAll l := by
  induction l with
  | nil => simp [Rows.uptoBulkAll]
  | cons x r ih => have := bulk_one x; simp only [Rows.uptoBulkAll, List.length_cons]; omega
theorem bulk_mem {H : Type} {l : List (DataW H)} {elems spare : List (DataW H)} (h : DataW.slice elems spare ∈ l) : elems.length ≤ Rows.uptoBulkAll l := by
  induction l with
  | nil => cases h
  | cons x r ih =>
    simp only [Rows.uptoBulkAll]
    rcases List.mem_cons.1 h with rfl | h
    · have h1 := bulk_len elems
      simp only [Rows.uptoBulk]
      omega
    · have := ih h
      omega
set_option maxRecDepth 100000 in
theorem trod_ch {H : Type} {enc : TypeId × Value → H} {W : World} {base : Nat} {sp : Nat → Bool} {held : Bool} (fuel : Nat) (cs : List Value) (y : DataW H × List MemPlace) (hl : cs.length = 5) (h : DataW.trod enc Tryd.prog W base sp held fuel 43 cs = some y) : ∃ x : Wi.Cx, cs = Wi.EC.enc x := by
  obtain ⟨xs, k, hk, hxy, _, hxl, hff⟩ := DataW.trod_struct Tryd.underlying43 h
  have hone : Tryd.prog.cellsOf 3 = 1 := by kernel_rfl
  have hfour : Tryd.prog.cellsOf 41 = 4 := by kernel_rfl
  have hthree : Tryd.prog.cellsOf 39 = 3 := by kernel_rfl
  have honeu : Tryd.prog.cellsOf 37 = 1 := by kernel_rfl
  have honei : Tryd.prog.cellsOf 2 = 1 := by kernel_rfl
  match cs, hl, xs, hxl with
  | [c3, c4, c5, c6, c7], _, [y3, y7], _ =>
    have k3 : DataW.trod enc Tryd.prog W base sp held k 41 (([c3, c4, c5, c6, c7].drop 0).take (Tryd.prog.cellsOf 41)) = some y3 := hff 0 _ rfl
    have k7 : DataW.trod enc Tryd.prog W base sp held k 2 (([c3, c4, c5, c6, c7].drop 4).take (Tryd.prog.cellsOf 2)) = some y7 := hff 1 _ rfl
    rw [honei] at k7
    rw [hfour] at k3
    obtain ⟨u7, e7, _, w7⟩ := DataW.trod_int Tryd.underlying2 k7
    simp only [List.drop_zero, List.take_succ_cons, List.take_zero] at k3
    obtain ⟨zs, k', _, _, _, hzl, hgg⟩ := DataW.trod_struct Tryd.underlying41 k3
    match zs, hzl with
    | [z0, z1], _ =>
      have j0 : DataW.trod enc Tryd.prog W base sp held k' 3 (([c3, c4, c5, c6].drop 0).take (Tryd.prog.cellsOf 3)) = some z0 := hgg 0 _ rfl
      have j1 : DataW.trod enc Tryd.prog W base sp held k' 39 (([c3, c4, c5, c6].drop 1).take (Tryd.prog.cellsOf 39)) = some z1 := hgg 1 _ rfl
      rw [hone] at j0
      rw [hthree] at j1
      obtain ⟨u3, e3, _, w3⟩ := DataW.trod_int Tryd.underlying3 j0
      simp only [List.drop_succ_cons, List.drop_zero, List.take_succ_cons, List.take_zero] at j1
      obtain ⟨ts, k2', _, _, _, htl, hhh⟩ := DataW.trod_struct Tryd.underlying39 j1
      match ts, htl with
      | [t0, t1, t2], _ =>
        have i0 : DataW.trod enc Tryd.prog W base sp held k2' 37 (([c4, c5, c6].drop 0).take (Tryd.prog.cellsOf 37)) = some t0 := hhh 0 _ rfl
        have i1 : DataW.trod enc Tryd.prog W base sp held k2' 37 (([c4, c5, c6].drop 1).take (Tryd.prog.cellsOf 37)) = some t1 := hhh 1 _ rfl
        have i2 : DataW.trod enc Tryd.prog W base sp held k2' 37 (([c4, c5, c6].drop 2).take (Tryd.prog.cellsOf 37)) = some t2 := hhh 2 _ rfl
        rw [honeu] at i0 i1 i2
        obtain ⟨u4, e4, _, w4⟩ := DataW.trod_int Tryd.underlying37 i0
        obtain ⟨u5, e5, _, w5⟩ := DataW.trod_int Tryd.underlying37 i1
        obtain ⟨u6, e6, _, w6⟩ := DataW.trod_int Tryd.underlying37 i2
        simp at e3 e4 e5 e6 e7
        subst e3 e4 e5 e6 e7
        have b3 := i64_bd w3
        have b7 := i64_bd w7
        have b4 := u64_bd w4
        have b5 := u64_bd w5
        have b6 := u64_bd w6
        refine ⟨⟨u3, u4.toNat, u5.toNat, u6.toNat, u7, by omega⟩, ?_⟩
        show _ = [Value.int .i64 u3, .int .u64 (u4.toNat : Nat), .int .u64 (u5.toNat : Nat), .int .u64 (u6.toNat : Nat), .int .i64 u7]
        rw [Int.toNat_of_nonneg b4.1, Int.toNat_of_nonneg b5.1, Int.toNat_of_nonneg b6.1]
end Go.Proofs.YtghofmhlmkpkcaaDoor
