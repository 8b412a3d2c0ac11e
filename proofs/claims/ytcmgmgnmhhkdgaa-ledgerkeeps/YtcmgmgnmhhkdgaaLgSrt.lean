import Derived.Test.YtcmgmgnmhhkdgaaLgBase
import Derived.Test.YtcmgmgnmhhkdgaaLSort
namespace Go.Proofs.Ytcmgmgnmhhkdgaa
open Go.RowKit Go.Sort Go.Maps Go.Shelf

def slt (s t : Sm) : Bool := ltOf scm s t
theorem slt_iff (s t : Sm) : slt s t = true ↔ s.1.1 < t.1.1 ∨ (s.1.1 = t.1.1 ∧ (s.1.2.1 < t.1.2.1 ∨ (s.1.2.1 = t.1.2.1 ∧ (s.1.2.2.1 < t.1.2.2.1 ∨ (s.1.2.2.1 = t.1.2.2.1 ∧ s.1.2.2.2 < t.1.2.2.2))))) := by
  unfold slt ltOf scm
  have h1 := c64_neg s.1.1 t.1.1
  have h2 := c64_zero s.1.1 t.1.1
  have h3 := tcmp_neg s.1.2.1 s.1.2.2.1 s.1.2.2.2 t.1.2.1 t.1.2.2.1 t.1.2.2.2
  rw [decide_eq_true_iff]
  unfold or2
  generalize c64 s.1.1 t.1.1 = p at *
  generalize tcmp s.1.2.1 s.1.2.2.1 s.1.2.2.2 t.1.2.1 t.1.2.2.1 t.1.2.2.2 = q at *
  split <;> omega
theorem slt_not (s t : Sm) : slt s t = false ↔ ¬ (s.1.1 < t.1.1 ∨ (s.1.1 = t.1.1 ∧ (s.1.2.1 < t.1.2.1 ∨ (s.1.2.1 = t.1.2.1 ∧ (s.1.2.2.1 < t.1.2.2.1 ∨ (s.1.2.2.1 = t.1.2.2.1 ∧ s.1.2.2.2 < t.1.2.2.2)))))) := by
  rw [← slt_iff, Bool.not_eq_true]
theorem ltOf_scm (x y : Sm) : ltOf scm x y = slt x y := rfl
theorem totS (x y : Sm) (h1 : ltOf scm x y = false) (h2 : ltOf scm y x = false) : x = y := by
  rw [ltOf_scm, slt_not] at h1 h2
  exact sm_ext (by omega) (by omega) (by omega) (by omega)
theorem swoS : SWO (ltOf scm) where
  irrefl x := by rw [ltOf_scm, slt_not]; omega
  trans x y z h1 h2 := by rw [ltOf_scm, slt_iff] at *; omega
  ntrans x y z h1 h2 := by rw [ltOf_scm, slt_not] at *; omega
/-- In their order. -/
abbrev stS (ks : List Sm) : List Sm := srtBy scm ks
theorem stS_sorted {ks : List Sm} (h : ks.Nodup) : (stS ks).Pairwise fun a b => slt a b = true := by
  have h1 := srtBy_sorted swoS ks
  have h2 : (stS ks).Nodup := (srtBy_perm scm ks).nodup_iff.2 h
  refine List.Pairwise.imp₂ (R := fun x y => (!(ltOf scm) y x) = true) (S := fun x y => x ≠ y) (fun {a b} ha hb => ?_) h1 h2
  have ha' : ltOf scm b a = false := by simpa using ha
  cases hq : slt a b with
  | true => rfl
  | false => exact absurd (totS a b hq ha') hb
theorem stS_sup {f : Sm → Int} {ks ms : List Sm} (h1 : Sup f ks) (h2 : Sup f ms) : stS ks = stS ms := srtBy_of_perm swoS totS (h1.perm h2)
/-- The changes. -/
def chs (f : Sm → Int) (ks : List Sm) : List Cg := (stS ks).map fun s => (s, f s)
theorem chs_sup {f : Sm → Int} {ks ms : List Sm} (h1 : Sup f ks) (h2 : Sup f ms) : chs f ks = chs f ms := by unfold chs; rw [stS_sup h1 h2]
theorem chs_length (f : Sm → Int) (ks : List Sm) : (chs f ks).length = ks.length := by unfold chs; rw [List.length_map, srtBy_length]

end Go.Proofs.Ytcmgmgnmhhkdgaa
