import Derived.Sort.Grow
import Derived.WalkKit
namespace Go.Proofs.Ytghpekkncfckaaa.Ca
open Go.RowKit Go.Sort

/-- Times; catches: a time, a key, a value. -/
abbrev T3 := Int × Int × Int
structure Ct where
  a : Int
  b : Int
  c : Int
  k : Int
  v : Int
  deriving DecidableEq, Inhabited
abbrev Ct.t (x : Ct) : T3 := (x.a, x.b, x.c)
/-- At or ahead; told ahead. -/
def bel (s t : T3) : Bool := decide (s.1 ≤ t.1) && (decide (s.2.1 ≤ t.2.1) && decide (s.2.2 ≤ t.2.2))
theorem bel_iff (s t : T3) : bel s t = true ↔ s.1 ≤ t.1 ∧ s.2.1 ≤ t.2.1 ∧ s.2.2 ≤ t.2.2 := by simp [bel]
theorem bel_trans {a b c : T3} (h1 : bel a b = true) (h2 : bel b c = true) : bel a c = true := by rw [bel_iff] at *; omega
theorem bel_refl (a : T3) : bel a a = true := by rw [bel_iff]; omega
theorem bel_anti {a b : T3} (h1 : bel a b = true) (h2 : bel b a = true) : a = b := by
  rw [bel_iff] at *
  exact Prod.ext (by omega) (Prod.ext (by omega) (by omega))
def tol (s t : T3) : Bool := decide (s.1 < t.1 ∨ (s.1 = t.1 ∧ (s.2.1 < t.2.1 ∨ (s.2.1 = t.2.1 ∧ s.2.2 < t.2.2))))
theorem tol_iff (s t : T3) : tol s t = true ↔ (s.1 < t.1 ∨ (s.1 = t.1 ∧ (s.2.1 < t.2.1 ∨ (s.2.1 = t.2.1 ∧ s.2.2 < t.2.2)))) := by simp only [tol, decide_eq_true_eq]
theorem tol_not (s t : T3) : tol s t = false ↔ ¬ (s.1 < t.1 ∨ (s.1 = t.1 ∧ (s.2.1 < t.2.1 ∨ (s.2.1 = t.2.1 ∧ s.2.2 < t.2.2)))) := by rw [← tol_iff, Bool.not_eq_true]
theorem tol_tr {a b c : T3} (h1 : tol a b = true) (h2 : tol b c = true) : tol a c = true := by rw [tol_iff] at *; omega
theorem tol_tot {a b : T3} (h : tol a b = false) (hne : a ≠ b) : tol b a = true := by
  rw [tol_not] at h
  rw [tol_iff]
  have : ¬ (a.1 = b.1 ∧ a.2.1 = b.2.1 ∧ a.2.2 = b.2.2) := fun e => hne (Prod.ext e.1 (Prod.ext e.2.1 e.2.2))
  omega
/-- Open at some times. -/
def opn (F : List T3) (t : T3) : Bool := F.any fun y => bel y t
/-- The order of catches. -/
def clt (x y : Ct) : Bool := decide (x.a < y.a ∨ (x.a = y.a ∧ (x.b < y.b ∨ (x.b = y.b ∧ (x.c < y.c ∨ (x.c = y.c ∧ (x.k < y.k ∨ (x.k = y.k ∧ x.v < y.v))))))))
theorem clt_iff (x y : Ct) : clt x y = true ↔ (x.a < y.a ∨ (x.a = y.a ∧ (x.b < y.b ∨ (x.b = y.b ∧ (x.c < y.c ∨ (x.c = y.c ∧ (x.k < y.k ∨ (x.k = y.k ∧ x.v < y.v)))))))) := by simp only [clt, decide_eq_true_eq]
theorem clt_not (x y : Ct) : clt x y = false ↔ ¬ (x.a < y.a ∨ (x.a = y.a ∧ (x.b < y.b ∨ (x.b = y.b ∧ (x.c < y.c ∨ (x.c = y.c ∧ (x.k < y.k ∨ (x.k = y.k ∧ x.v < y.v)))))))) := by rw [← clt_iff, Bool.not_eq_true]
theorem ct_ext {x y : Ct} (h1 : x.a = y.a) (h2 : x.b = y.b) (h3 : x.c = y.c) (h4 : x.k = y.k) (h5 : x.v = y.v) : x = y := by
  cases x; cases y; simp_all
theorem clt_irr (x : Ct) : clt x x = false := by rw [clt_not]; omega
theorem clt_tr {x y z : Ct} (h1 : clt x y = true) (h2 : clt y z = true) : clt x z = true := by rw [clt_iff] at *; omega
theorem clt_nt {x y z : Ct} (h1 : clt x y = false) (h2 : clt y z = false) : clt x z = false := by rw [clt_not] at *; omega
theorem clt_tot {x y : Ct} (h1 : clt x y = false) (h2 : clt y x = false) : x = y := by
  rw [clt_not] at *
  exact ct_ext (by omega) (by omega) (by omega) (by omega) (by omega)
theorem clt_as {x y : Ct} (h1 : clt x y = true) : clt y x = false := by rw [clt_iff] at h1; rw [clt_not]; omega
/-- In the order of catches. -/
def srt (l : List Ct) : List Ct := l.mergeSort fun x y => !clt y x
theorem srt_len (l : List Ct) : (srt l).length = l.length := List.length_mergeSort ..
theorem srt_perm (l : List Ct) : (srt l).Perm l := List.mergeSort_perm ..
theorem srt_mem {l : List Ct} {x : Ct} : x ∈ srt l ↔ x ∈ l := (srt_perm l).mem_iff
theorem srt_nil : srt [] = [] := by simp [srt]
/-- Sorted. -/
def Sd (l : List Ct) : Prop := l.Pairwise fun x y => clt y x = false
theorem srt_sd (l : List Ct) : Sd (srt l) := by
  have := List.pairwise_mergeSort (le := fun x y => !clt y x) (fun x y z h1 h2 => by
    simp only [Bool.not_eq_true'] at *
    exact clt_nt h2 h1) (fun x y => by
      cases h1 : clt y x with
      | false => simp
      | true => simp [clt_as h1]) l
  exact this.imp fun {a b} h => by simpa using h
theorem sd_eq {l m : List Ct} (hl : Sd l) (hm : Sd m) (h : l.Perm m) : l = m :=
  List.Perm.eq_of_pairwise (le := fun x y => clt y x = false) (fun _ _ _ _ h1 h2 => clt_tot h2 h1) hl hm h
theorem srt_of_perm {l m : List Ct} (h : l.Perm m) : srt l = srt m := sd_eq (srt_sd l) (srt_sd m) (((srt_perm l).trans h).trans (srt_perm m).symm)
theorem srt_eq {l m : List Ct} (hm : Sd m) (h : l.Perm m) : srt l = m := sd_eq (srt_sd l) hm ((srt_perm l).trans h)
theorem sd_filter {l : List Ct} (p : Ct → Bool) (h : Sd l) : Sd (l.filter p) := List.Pairwise.filter p h
/-- What is asked for, sorted, is what is sorted, asked for. -/
theorem srt_filter (l : List Ct) (p : Ct → Bool) : srt (l.filter p) = (srt l).filter p := srt_eq (sd_filter p (srt_sd l)) ((srt_perm l).symm.filter p)
theorem srt_count (l : List Ct) (x : Ct) : (srt l).count x = l.count x := (srt_perm l).count_eq x
/-- One more is put to its place. -/
theorem srt_put {R l : List Ct} {x : Ct} {a : Nat} (hR : R = srt l) (ha : ∀ j y, j < a → R[j]? = some y → clt y x = true) (hb : ∀ y, R[a]? = some y → clt y x = false) : R.take a ++ x :: R.drop a = srt (l ++ [x]) := by
  have hsd : Sd R := by rw [hR]; exact srt_sd l
  symm
  refine srt_eq ?_ ?_
  · have h1 : Sd (R.take a) := hsd.sublist (List.take_sublist _ _)
    have h2 : Sd (R.drop a) := hsd.sublist (List.drop_sublist _ _)
    refine List.pairwise_append.2 ⟨h1, List.pairwise_cons.2 ⟨fun y hy => ?_, h2⟩, fun y hy z hz => ?_⟩
    · obtain ⟨j, hj⟩ := List.mem_iff_getElem?.1 hy
      rw [List.getElem?_drop] at hj
      rcases Nat.eq_zero_or_pos j with rfl | hp
      · exact hb y (by simpa using hj)
      · have hlt : a < R.length := by have := (List.getElem?_eq_some_iff.1 hj).1; omega
        have hx := hb R[a] (by simp)
        have h3 := List.pairwise_iff_getElem.1 hsd a (a + j) hlt (List.getElem?_eq_some_iff.1 hj).1 (by omega)
        rw [(List.getElem?_eq_some_iff.1 hj).2] at h3
        exact clt_nt h3 hx
    · obtain ⟨j, hj⟩ := List.mem_iff_getElem?.1 hy
      have hja : j < a := by
        have := (List.getElem?_eq_some_iff.1 hj).1
        rw [List.length_take] at this
        omega
      rw [List.getElem?_take_of_lt hja] at hj
      have hyx := ha j y hja hj
      rcases List.mem_cons.1 hz with rfl | hz
      · exact clt_as hyx
      · obtain ⟨i, hi⟩ := List.mem_iff_getElem?.1 hz
        rw [List.getElem?_drop] at hi
        have h3 := List.pairwise_iff_getElem.1 hsd j (a + i) (List.getElem?_eq_some_iff.1 hj).1 (List.getElem?_eq_some_iff.1 hi).1 (by omega)
        rw [(List.getElem?_eq_some_iff.1 hi).2, (List.getElem?_eq_some_iff.1 hj).2] at h3
        exact h3
  · have h1 : (R.take a ++ x :: R.drop a).Perm (x :: (R.take a ++ R.drop a)) := List.perm_middle
    rw [List.take_append_drop] at h1
    have h2 : (l ++ [x]).Perm (x :: l) := List.perm_append_singleton x l
    exact h2.trans (((by rw [hR]; exact (srt_perm l).symm : l.Perm R).cons x).trans h1.symm)
end Go.Proofs.Ytghpekkncfckaaa.Ca
