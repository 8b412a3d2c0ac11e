import Derived.Test.YtpglheijiolcgaaWIns
namespace Go.Proofs.Ytpglheijiolcgaa.Wd
open Go.RowKit Go.Sort Classical

theorem list_of (a : ByteArray) : a.toList.length = a.size := by rw [ByteArray.toList_eq]; rfl
theorem list_inj {a b : ByteArray} (h : a.toList = b.toList) : a = b := by
  rw [ByteArray.toList_eq, ByteArray.toList_eq] at h
  cases a; cases b
  simp only [ByteArray.mk.injEq]
  exact Array.toList_inj.1 h
theorem list_cut (b : ByteArray) (n : Nat) : (b.extract 0 n).toList = b.toList.take n := by
  rw [ByteArray.toList_eq, ByteArray.toList_eq]
  simp
theorem list_cat (a b : ByteArray) : (a ++ b).toList = a.toList ++ b.toList := by
  rw [ByteArray.toList_eq, ByteArray.toList_eq, ByteArray.toList_eq]
  simp
theorem wbel_iff (a b : ByteArray) : wbel a b = true ↔ a.toList <+: b.toList := by
  unfold wbel
  rw [Bool.and_eq_true, decide_eq_true_iff, beq_iff_eq, list_cut, ← list_of, ← list_of b]
  constructor
  · rintro ⟨_, h⟩
    exact List.prefix_iff_eq_take.2 h
  · intro h
    exact ⟨h.length_le, List.prefix_iff_eq_take.1 h⟩
theorem wfst_iff (a b : ByteArray) : wfst a b = true ↔ a.toList < b.toList := by
  unfold wfst
  rw [bytesLess_eq, decide_eq_true_iff]
theorem wfst_not (a b : ByteArray) : wfst a b = false ↔ ¬ a.toList < b.toList := by rw [← wfst_iff, Bool.not_eq_true]
theorem ordsW : Ords wbel wfst where
  refl a := (wbel_iff a a).2 (List.prefix_refl _)
  trans a b c h1 h2 := (wbel_iff a c).2 (List.IsPrefix.trans ((wbel_iff a b).1 h1) ((wbel_iff b c).1 h2))
  anti a b h1 h2 := list_inj (List.IsPrefix.eq_of_length_le ((wbel_iff a b).1 h1) ((wbel_iff b a).1 h2).length_le)
  irr a := (wfst_not a a).2 (List.lt_irrefl _)
  tr a b c h1 h2 := (wfst_iff a c).2 (List.lt_trans ((wfst_iff a b).1 h1) ((wfst_iff b c).1 h2))
  tot a b hne h := (wfst_iff b a).2 (by
    have h1 := (wfst_not a b).1 h
    have h2 : b.toList ≤ a.toList := List.not_lt.1 h1
    rcases List.le_iff_lt_or_eq.1 h2 with h3 | h3
    · exact h3
    · exact absurd (list_inj h3).symm hne)

/-- How many of F have come up to a place. -/
noncomputable def upto (F l : List ByteArray) (k : Nat) : Nat := (F.filter (fun y => decide (y ∈ l.take k))).length
theorem upto_succ {F l : List ByteArray} (hF : F.Nodup) {k : Nat} {x : ByteArray} (hx : l[k]? = some x) : upto F l (k + 1) = upto F l k + (if x ∈ F ∧ ¬ x ∈ l.take k then 1 else 0) := by
  unfold upto
  have hm : ∀ y, y ∈ l.take (k + 1) ↔ y ∈ l.take k ∨ y = x := fun y => by rw [List.take_add_one, hx]; simp
  simp only [hm]
  clear hm
  generalize l.take k = T
  induction F with
  | nil => simp
  | cons f F ih =>
    have hn := List.nodup_cons.1 hF
    have ih' := ih hn.2
    rw [List.filter_cons, List.filter_cons]
    by_cases hfx : f = x
    · subst hfx
      have h0 : ¬ (f ∈ F ∧ ¬ f ∈ T) := fun h => hn.1 h.1
      rw [if_neg h0] at ih'
      by_cases hT : f ∈ T
      · simp only [hT, true_or, decide_true, if_true, List.length_cons, not_true_eq_false, and_false, if_false]
        omega
      · simp only [hT, or_true, decide_true, if_true, List.length_cons, decide_false, Bool.false_eq_true, if_false, List.mem_cons, true_or, not_false_eq_true, and_self]
        omega
    · have he : (x ∈ f :: F ∧ ¬ x ∈ T) ↔ (x ∈ F ∧ ¬ x ∈ T) := by
        rw [List.mem_cons]
        constructor
        · rintro ⟨h1 | h1, h2⟩
          · exact absurd h1.symm hfx
          · exact ⟨h1, h2⟩
        · rintro ⟨h1, h2⟩; exact ⟨Or.inr h1, h2⟩
      simp only [he]
      by_cases hT : f ∈ T
      · simp only [hT, true_or, decide_true, if_true, List.length_cons]
        omega
      · simp only [hT, hfx, or_self, decide_false, Bool.false_eq_true, if_false]
        exact ih'
theorem upto_zero (F l : List ByteArray) : upto F l 0 = 0 := by simp [upto]
theorem upto_all {F l : List ByteArray} (h : ∀ x ∈ F, x ∈ l) : upto F l l.length = F.length := by
  unfold upto
  rw [List.take_length, List.filter_eq_self.2]
  intro a ha
  exact decide_eq_true (h a ha)
theorem good_nodup {F : List ByteArray} (h : Good wbel wfst F) : F.Nodup := by
  refine List.Pairwise.imp ?_ h
  rintro a b h1 rfl
  rw [ordsW.irr] at h1
  cases h1.1
/-- Who is least. -/
noncomputable def wleast (l : List ByteArray) (x : ByteArray) : Bool := l.all (fun y => decide (y = x) || !wbel y x)
theorem wleast_iff {l : List ByteArray} {x : ByteArray} (hx : x ∈ l) : decide (x ∈ cjoin wbel wfst [] l) = wleast l x := by
  rw [Bool.eq_iff_iff, decide_eq_true_iff, mem_least ordsW]
  unfold wleast
  rw [List.all_eq_true]
  constructor
  · rintro ⟨_, h⟩ y hy
    cases hb : wbel y x with
    | true => rw [h y hy hb]; simp
    | false => simp
  · intro h
    refine ⟨hx, fun y hy hb => ?_⟩
    have := h y hy
    rw [hb] at this
    simpa using this
theorem cov_more {l : List ByteArray} {x : ByteArray} (hx : x ∈ l) (s : ByteArray) : ccov wbel (cjoin wbel wfst [] l) (x ++ s) = true := by
  rw [cov_all ordsW, List.any_eq_true]
  refine ⟨x, hx, (wbel_iff _ _).2 ?_⟩
  rw [list_cat]
  exact List.prefix_append _ _
theorem beq_of {a b : ByteArray} : (a.toList == b.toList) = decide (a = b) := by
  rw [Bool.eq_iff_iff, beq_iff_eq, decide_eq_true_iff]
  exact ⟨list_inj, fun h => by rw [h]⟩
end Go.Proofs.Ytpglheijiolcgaa.Wd
