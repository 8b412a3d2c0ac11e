import Derived.Test.YtnpmmodcmfgbjaaGreatMSrt
namespace Go.Proofs.YtnpmmodcmfgbjaaGreat
open Go.RowKit Go.Sort Go.Maps
attribute [local go_sem ↓] Go.wp_at_zero Go.wp_at_succ

theorem mem_dlt {a b : List Tm} {d : Dl} : d ∈ dlt a b ↔ ((d.1 ∈ a ∧ d.1 ∉ b) ∨ (d.1 ∈ b ∧ d.1 ∉ a)) ∧ d.2 = if d.1 ∈ b then 1 else -1 := by
  unfold dlt
  rw [List.mem_map]
  constructor
  · rintro ⟨t, ht, rfl⟩
    exact ⟨mem_mis.1 (srtBy_mem.1 ht), rfl⟩
  · rintro ⟨h1, h2⟩
    exact ⟨d.1, srtBy_mem.2 (mem_mis.2 h1), by rw [← h2]⟩
theorem dlt_sorted {a b : List Tm} (ha : a.Nodup) (hb : b.Nodup) : (dlt a b).Pairwise fun p q => tol p.1 q.1 = true := by
  unfold dlt
  rw [List.pairwise_map]
  exact stT_sorted (mis_nodup ha hb)
theorem dlt_length (a b : List Tm) : (dlt a b).length ≤ a.length + b.length := by
  unfold dlt
  rw [List.length_map, srtBy_length, List.length_append]
  exact Nat.add_le_add (List.length_filter_le _ _) (List.length_filter_le _ _)
/-- Is the time told as gone? -/
def gn (dl : List Dl) (y : Tm) : Bool := dl.any fun d => decide (d.1 = y) && (d.2 == -1)
theorem gn_take_succ {dl : List Dl} {k : Nat} {d : Dl} (h : dl[k]? = some d) (y : Tm) : gn (dl.take (k + 1)) y = (gn (dl.take k) y || (decide (d.1 = y) && (d.2 == -1))) := by
  unfold gn
  rw [List.take_add_one, h, List.any_append]
  simp
theorem gn_eq {a b : List Tm} {y : Tm} (hy : y ∈ a) : gn (dlt a b) y = !decide (y ∈ b) := by
  rw [Bool.eq_iff_iff]
  unfold gn
  rw [List.any_eq_true]
  constructor
  · rintro ⟨d, hd, h⟩
    rw [Bool.and_eq_true, decide_eq_true_iff, beq_iff_eq] at h
    obtain ⟨h1, h2⟩ := mem_dlt.1 hd
    by_cases hb : d.1 ∈ b
    · rw [if_pos hb] at h2; omega
    · rw [← h.1]; simpa using hb
  · intro h
    have hb : y ∉ b := by simpa using h
    refine ⟨(y, -1), mem_dlt.2 ⟨Or.inl ⟨hy, hb⟩, by rw [if_neg hb]⟩, by simp⟩
/-- The next front, as it is gathered. -/
def nx (a : List Tm) (dl : List Dl) : List Tm := a.filter fun y => !gn dl y
def up (dl : List Dl) : List Tm := (dl.filter fun d => d.2 == 1).map Prod.fst
theorem mem_next {a b : List Tm} (y : Tm) : y ∈ nx a (dlt a b) ++ up (dlt a b) ↔ y ∈ b := by
  unfold nx up
  rw [List.mem_append, List.mem_filter, List.mem_map]
  constructor
  · rintro (⟨h1, h2⟩ | ⟨d, hd, rfl⟩)
    · rw [gn_eq h1] at h2
      simpa using h2
    · obtain ⟨h1, h2⟩ := List.mem_filter.1 hd
      obtain ⟨h3, h4⟩ := mem_dlt.1 h1
      by_cases hb : d.1 ∈ b
      · exact hb
      · rw [if_neg hb] at h4
        rw [h4] at h2
        simp at h2
  · intro hy
    by_cases ha : y ∈ a
    · exact Or.inl ⟨ha, by rw [gn_eq ha]; simpa using hy⟩
    · exact Or.inr ⟨(y, 1), List.mem_filter.2 ⟨mem_dlt.2 ⟨Or.inr ⟨hy, ha⟩, by rw [if_pos hy]⟩, by simp⟩, rfl⟩
theorem nx_length (a : List Tm) (dl : List Dl) : (nx a dl).length ≤ a.length := List.length_filter_le _ _
theorem up_length (dl : List Dl) : (up dl).length ≤ dl.length := by unfold up; rw [List.length_map]; exact List.length_filter_le _ _
theorem nx_take_succ {a : List Tm} {dl : List Dl} {j : Nat} {y : Tm} (h : a[j]? = some y) : nx (a.take (j + 1)) dl = nx (a.take j) dl ++ (if gn dl y then [] else [y]) := by
  unfold nx
  rw [filter_take_succ h]
  cases gn dl y <;> rfl
theorem up_take_succ {dl : List Dl} {k : Nat} {d : Dl} (h : dl[k]? = some d) : up (dl.take (k + 1)) = up (dl.take k) ++ (if d.2 = 1 then [d.1] else []) := by
  unfold up
  rw [filter_take_succ h, List.map_append]
  by_cases h1 : d.2 = 1 <;> simp [h1]

/-- A list of slices. -/
abbrev SV := { v : Value // v.oneCell' = true }
def ES : El SV where
  k := 1
  enc v := [v.1]
  len _ := rfl
  one x u hu := by simp at hu; subst hu; exact x.2
theorem Ls.at1 {w : World} {v : Value} {ts : List SV} (h : Ls ES w v ts) {j : Nat} {t : SV} (hj : ts[j]? = some t) :
    ∃ b off c, v = .slice (some ⟨b, off, none⟩) ts.length c ∧ b < w.heap.size ∧ w.cell? ⟨b, off + j, none⟩ = some t.1 := by
  obtain ⟨b, off, c, hv, hb, hc⟩ := h.get hj
  have := hc 0 _ (by decide) rfl
  refine ⟨b, off, c, hv, hb, ?_⟩
  have e : off + j * ES.k + 0 = off + j := by show off + j * 1 + 0 = off + j; omega
  rw [e] at this
  exact this
/-- A slice that reads as a list, or an empty one wherever it points. -/
def Lz (w : World) (v : Value) (l : List Dl) : Prop := Ls ED w v l ∨ (l = [] ∧ ∃ p c, v = .slice p 0 c)
theorem Lz.below {w w' : World} {v : Value} {l : List Dl} (h : Lz w v l) (hb : Below w.heap.size w w') : Lz w' v l := h.imp (fun h => h.below hb) id
end Go.Proofs.YtnpmmodcmfgbjaaGreat
