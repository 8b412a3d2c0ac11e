import Derived.Test.YtmhbpelbkeclpaaGreatDoorRows
import Derived.Test.YtmhbpelbkeclpaaGreatDoorFormat
import Derived.ProofKit
import Derived.Lib.LaidU8
import Derived.Lay
import Derived.LaidMore
import Derived.Deep.DeepHandedRow
namespace Go.Proofs.YtmhbpelbkeclpaaGreatDoor
open Go.ChangeShapes Go.WideShapes Go.ChangeAt Go.RowKit Go.Lib

def laidL : List (String × DataW Unit) := [("math/bits.deBruijn32tab", Rows.laid_math_bits_deBruijn32tab), ("math/bits.deBruijn64tab", Rows.laid_math_bits_deBruijn64tab), ("internal/strconv.uint64pow10", Rows.laid_internal_strconv_uint64pow10), ("unicode/utf8.acceptRanges", Rows.laid_unicode_utf8_acceptRanges), ("strconv.ErrRange", Rows.laid_strconv_ErrRange), ("strconv.ErrSyntax", Rows.laid_strconv_ErrSyntax), ("unicode/utf8.first", Rows.laid_unicode_utf8_first)]

theorem own : ownKnob Tryz.prog.godebug = none := by kernel_rfl
theorem tPow : (Tryz.prog.globalNamed "internal/strconv.uint64pow10").bind (fun g => (Tryz.prog.globals[g]?).map (·.type)) = some 136 := by kernel_rfl
theorem tRange : (Tryz.prog.globalNamed "strconv.ErrRange").bind (fun g => (Tryz.prog.globals[g]?).map (·.type)) = some 96 := by kernel_rfl
theorem tSyntax : (Tryz.prog.globalNamed "strconv.ErrSyntax").bind (fun g => (Tryz.prog.globals[g]?).map (·.type)) = some 96 := by kernel_rfl
theorem powDatum : (Rows.laid_internal_strconv_uint64pow10 : DataW Unit) = Lib.tabData .u64 Lib.pow10Tab := by kernel_rfl
theorem cellsU64 : Tryz.prog.cellsOf 23 = 1 := by kernel_rfl
theorem cellsPow : Tryz.prog.cellsOf 136 = 20 := by kernel_rfl
theorem uPow : Tryz.prog.underlying 136 = some (.array 20 23) := by kernel_rfl

/-- What the row's list gives. -/
theorem env_of_laid {W : World} (h0 : laidMetH Tryz.prog laidL W) : Env W := by
  have h := h0
  rw [MakeChecks.laidMetH_plain _ _ _ (by kernel_rfl)] at h
  have r1 := Lib.laidMet.reads h (n := "internal/strconv.uint64pow10") (d := Rows.laid_internal_strconv_uint64pow10) (by simp [laidL])
  have r2 := Lib.laidMet.reads h (n := "strconv.ErrRange") (d := Rows.laid_strconv_ErrRange) (by simp [laidL])
  have r3 := Lib.laidMet.reads h (n := "strconv.ErrSyntax") (d := Rows.laid_strconv_ErrSyntax) (by simp [laidL])
  refine ⟨?_, ?_, ?_⟩
  · obtain ⟨g, t, cs, fuel, p, hg, hty, hv, hd⟩ := r1
    have ht : t = 136 := by
      have := tPow
      rw [hg] at this
      exact (Option.some.inj (this.symm.trans hty)).symm
    subst ht
    rw [powDatum] at hd
    have hcs := cells_of_tab uPow Tryz.underlying23 cellsU64 cellsPow hd
    rw [Lib.TabIs, hv, ← hcs]
  · obtain ⟨g, t, cs, fuel, p, hg, hty, hv, hd⟩ := r3
    have ht : t = 96 := by
      have := tSyntax
      rw [hg] at this
      exact (Option.some.inj (this.symm.trans hty)).symm
    subst ht
    obtain ⟨f1, u, v, hcs, _, _⟩ := iface_of_trod Tryz.underlying96 hd
    refine ⟨u, v, ?_⟩
    rw [hv]
    obtain ⟨l⟩ := cs
    simp only at hcs
    rw [hcs]
  · obtain ⟨g, t, cs, fuel, p, hg, hty, hv, hd⟩ := r2
    have ht : t = 96 := by
      have := tRange
      rw [hg] at this
      exact (Option.some.inj (this.symm.trans hty)).symm
    subst ht
    obtain ⟨f1, u, v, hcs, _, _⟩ := iface_of_trod Tryz.underlying96 hd
    refine ⟨u, v, ?_⟩
    rw [hv]
    obtain ⟨l⟩ := cs
    simp only at hcs
    rw [hcs]
end Go.Proofs.YtmhbpelbkeclpaaGreatDoor
