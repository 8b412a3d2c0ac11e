import Derived.Test.YtnpmmodcmfgbjaaGreatCPure
namespace Go.Proofs.YtnpmmodcmfgbjaaGreat
open Go.RowKit

section
variable {α : Type} (bel fst : α → α → Bool)
/-- One change of a front: what does not count any more cuts; where it has cut, it is noted. -/
def cutS (s : List α × List α) (d : α × Int) : List α × List α :=
  if d.2 ≤ 0 then (ccut bel s.1 d.1, if (ccut bel s.1 d.1).length < s.1.length then s.2 ++ [d.1] else s.2) else s
/-- All changes. -/
def cutG (s : List α × List α) (us : List (α × Int)) : List α × List α := us.foldl (cutS bel) s
/-- What is put in again. -/
def cback (f : α → Int) (l F G : List α) (k : Nat) : List α := if 0 < G.length ∧ F.length < k then cjoin bel fst F (l.filter fun t => !(decide (f t ≤ 0) || !ccov bel G t)) else F
/-- The front, renewed. -/
def cren (f : α → Int) (l fr : List α) (us : List (α × Int)) (k : Nat) : List α :=
  cjoin bel fst (cback bel fst f l (cutG bel (fr, []) us).1 (cutG bel (fr, []) us).2 k) ((us.filter fun d => decide (0 < d.2)).map Prod.fst)
end
section
variable {α : Type} {bel fst : α → α → Bool}
theorem cutG_cons (s : List α × List α) (d : α × Int) (us : List (α × Int)) : cutG bel s (d :: us) = cutG bel (cutS bel s d) us := rfl
theorem cutG_take_succ {s : List α × List α} {us : List (α × Int)} {k : Nat} {d : α × Int} (h : us[k]? = some d) : cutG bel s (us.take (k + 1)) = cutS bel (cutG bel s (us.take k)) d := by
  unfold cutG
  rw [List.take_add_one, h, List.foldl_append]
  rfl
theorem cutS_good {s : List α × List α} (h : Good bel fst s.1) (d : α × Int) : Good bel fst (cutS bel s d).1 := by
  unfold cutS
  split
  · exact good_cut h d.1
  · exact h
theorem cutG_good (us : List (α × Int)) : ∀ (s : List α × List α), Good bel fst s.1 → Good bel fst (cutG bel s us).1 := by
  induction us with
  | nil => exact fun s h => h
  | cons d us ih => exact fun s h => ih _ (cutS_good h d)
theorem mem_cutS {s : List α × List α} {d : α × Int} {x : α} : x ∈ (cutS bel s d).1 ↔ x ∈ s.1 ∧ (d.2 ≤ 0 → bel d.1 x = false) := by
  unfold cutS
  split
  · rename_i h
    rw [mem_ccut]
    exact ⟨fun ⟨h1, h2⟩ => ⟨h1, fun _ => h2⟩, fun ⟨h1, h2⟩ => ⟨h1, h2 h⟩⟩
  · rename_i h
    exact ⟨fun h1 => ⟨h1, fun e => absurd e h⟩, fun h1 => h1.1⟩
theorem mem_cutG (us : List (α × Int)) : ∀ (s : List α × List α) (x : α), x ∈ (cutG bel s us).1 ↔ x ∈ s.1 ∧ ∀ d ∈ us, d.2 ≤ 0 → bel d.1 x = false := by
  induction us with
  | nil => exact fun s x => ⟨fun h => ⟨h, fun d hd => by cases hd⟩, fun h => h.1⟩
  | cons d us ih =>
    intro s x
    rw [cutG_cons, ih, mem_cutS]
    constructor
    · rintro ⟨⟨h1, h2⟩, h3⟩
      refine ⟨h1, fun d' hd' => ?_⟩
      rcases List.mem_cons.1 hd' with rfl | hd'
      · exact h2
      · exact h3 d' hd'
    · rintro ⟨h1, h2⟩
      exact ⟨⟨h1, h2 d (List.mem_cons_self ..)⟩, fun d' hd' => h2 d' (List.mem_cons_of_mem _ hd')⟩
theorem cutS_note {s : List α × List α} (d : α × Int) {x : α} (h : x ∈ s.2) : x ∈ (cutS bel s d).2 := by
  unfold cutS
  split
  · show x ∈ (if _ then _ else _)
    split
    · exact List.mem_append_left _ h
    · exact h
  · exact h
theorem cutG_note (us : List (α × Int)) : ∀ (s : List α × List α) {x : α}, x ∈ s.2 → x ∈ (cutG bel s us).2 := by
  induction us with
  | nil => exact fun s x h => h
  | cons d us ih => exact fun s x h => ih _ (cutS_note d h)
theorem cut_less {l : List α} {v x : α} (hx : x ∈ l) (hb : bel v x = true) : (ccut bel l v).length < l.length := by
  unfold ccut
  refine Nat.lt_of_le_of_ne (List.length_filter_le _ _) (fun e => ?_)
  have := List.length_filter_eq_length_iff.1 e x hx
  rw [hb] at this
  cases this
/-- What was cut out is behind something noted. -/
theorem cutG_out (us : List (α × Int)) : ∀ (s : List α × List α) (z : α), z ∈ s.1 → z ∉ (cutG bel s us).1 → ∃ g ∈ (cutG bel s us).2, bel g z = true := by
  induction us with
  | nil => exact fun s z h hn => absurd h hn
  | cons d us ih =>
    intro s z hz hn
    rw [cutG_cons] at hn ⊢
    by_cases h : z ∈ (cutS bel s d).1
    · exact ih _ z h hn
    · have h1 : d.2 ≤ 0 ∧ bel d.1 z = true := by
        by_cases h2 : d.2 ≤ 0
        · refine ⟨h2, ?_⟩
          cases e : bel d.1 z with
          | true => rfl
          | false => exact absurd (mem_cutS.2 ⟨hz, fun _ => e⟩) h
        · exact absurd (mem_cutS.2 ⟨hz, fun e => absurd e h2⟩) h
      refine ⟨d.1, cutG_note us _ ?_, h1.2⟩
      unfold cutS
      rw [if_pos h1.1, if_pos (cut_less hz h1.2)]
      exact List.mem_append_right _ (List.mem_singleton.2 rfl)
theorem cutG_len (us : List (α × Int)) : ∀ (s : List α × List α), (cutG bel s us).1.length ≤ s.1.length ∧ (cutG bel s us).2.length ≤ s.2.length + us.length := by
  induction us with
  | nil => exact fun s => ⟨Nat.le_refl _, Nat.le_refl _⟩
  | cons d us ih =>
    intro s
    rw [cutG_cons]
    obtain ⟨h1, h2⟩ := ih (cutS bel s d)
    have h3 : (cutS bel s d).1.length ≤ s.1.length := by
      unfold cutS
      split
      · exact ccut_length _ _
      · exact Nat.le_refl _
    have h4 : (cutS bel s d).2.length ≤ s.2.length + 1 := by
      unfold cutS
      split
      · show (if _ then _ else _ : List α).length ≤ _
        split
        · simp
        · omega
      · omega
    rw [List.length_cons]
    omega
/-- The front that was renewed is the front. -/
theorem cren_ok (O : Ords bel fst) {f0 f1 : α → Int} {fr ks l : List α} {us : List (α × Int)} (hgood : Good bel fst fr) (hpos : ∀ x ∈ fr, 0 < f0 x) (hcov : ∀ y, 0 < f0 y → ccov bel fr y = true)
    (hch : ∀ t, f1 t ≠ f0 t → ∃ d ∈ us, d.1 = t) (hus : ∀ d ∈ us, d.2 = f1 d.1) (_ : ks.Nodup) (hks : ∀ t, t ∈ ks ↔ f1 t ≠ 0) (hl : ∀ t, t ∈ l ↔ t ∈ ks)
    (hsub : ∀ F : List α, F.Nodup → (∀ x ∈ F, x ∈ ks) → ks.length ≤ F.length → ∀ x ∈ ks, x ∈ F) :
    Good bel fst (cren bel fst f1 l fr us ks.length) ∧ (∀ x ∈ cren bel fst f1 l fr us ks.length, 0 < f1 x) ∧ ∀ y, 0 < f1 y → ccov bel (cren bel fst f1 l fr us ks.length) y = true := by
  have hF : ∀ x ∈ (cutG bel (fr, []) us).1, 0 < f1 x := fun x hx => by
    obtain ⟨h1, h2⟩ := (mem_cutG us _ x).1 hx
    by_cases e : f1 x = f0 x
    · rw [e]
      exact hpos x h1
    · obtain ⟨d, hd, rfl⟩ := hch x e
      by_cases h0 : d.2 ≤ 0
      · have := h2 d hd h0
        rw [O.refl] at this
        cases this
      · rw [← hus d hd]
        omega
  have hFg : Good bel fst (cutG bel (fr, []) us).1 := cutG_good us _ hgood
  have hFn : (cutG bel (fr, []) us).1.Nodup := hFg.imp fun {a b} hab e => by subst e; rw [O.irr] at hab; cases hab.1
  have hB : Good bel fst (cback bel fst f1 l (cutG bel (fr, []) us).1 (cutG bel (fr, []) us).2 ks.length) ∧ (∀ x ∈ cback bel fst f1 l (cutG bel (fr, []) us).1 (cutG bel (fr, []) us).2 ks.length, 0 < f1 x) ∧ ∀ y, 0 < f1 y → f1 y = f0 y → ccov bel (cback bel fst f1 l (cutG bel (fr, []) us).1 (cutG bel (fr, []) us).2 ks.length) y = true := by
    have hout : ∀ y, 0 < f1 y → f1 y = f0 y → ccov bel (cutG bel (fr, []) us).1 y = true ∨ ccov bel (cutG bel (fr, []) us).2 y = true := fun y hy e => by
      obtain ⟨z, hz, hzy⟩ := ccov_true.1 (hcov y (by omega))
      by_cases hm : z ∈ (cutG bel (fr, []) us).1
      · exact Or.inl (ccov_true.2 ⟨z, hm, hzy⟩)
      · obtain ⟨g, hg, hgz⟩ := cutG_out us (fr, []) z hz hm
        exact Or.inr (ccov_true.2 ⟨g, hg, O.trans _ _ _ hgz hzy⟩)
    generalize (cutG bel (fr, []) us).1 = F at *
    generalize (cutG bel (fr, []) us).2 = G at *
    unfold cback
    split
    · refine ⟨good_join O hFg _, fun x hx => ?_, fun y hy e => ?_⟩
      · rcases mem_join hx with h1 | h1
        · have := (List.mem_filter.1 h1).2
          simp at this
          omega
        · exact hF x h1
      · rcases hout y hy e with h1 | h1
        · exact cov_join_mono O _ h1
        · refine cov_join O F (List.mem_filter.2 ⟨(hl y).2 ((hks y).2 (by omega)), ?_⟩)
          rw [h1, decide_eq_false (by omega)]
          rfl
    · rename_i hno
      refine ⟨hFg, hF, fun y hy e => ?_⟩
      rcases hout y hy e with h1 | h1
      · exact h1
      · have hG : 0 < G.length := by
          obtain ⟨g, hg, _⟩ := ccov_true.1 h1
          exact List.length_pos_of_mem hg
        have hlen : ks.length ≤ F.length := by
          by_cases h2 : F.length < ks.length
          · exact absurd ⟨hG, h2⟩ hno
          · omega
        exact ccov_true.2 ⟨y, hsub F hFn (fun x hx => (hks x).2 (by have := hF x hx; omega)) hlen y ((hks y).2 (by omega)), O.refl y⟩
  obtain ⟨b1, b2, b3⟩ := hB
  unfold cren
  refine ⟨good_join O b1 _, fun x hx => ?_, fun y hy => ?_⟩
  · rcases mem_join hx with h1 | h1
    · obtain ⟨d, hd, rfl⟩ := List.mem_map.1 h1
      obtain ⟨hd1, hd2⟩ := List.mem_filter.1 hd
      rw [← hus d hd1]
      simpa using hd2
    · exact b2 x h1
  · by_cases he : f1 y = f0 y
    · exact cov_join_mono O _ (b3 y hy he)
    · obtain ⟨d, hd, rfl⟩ := hch y he
      exact cov_join O _ (List.mem_map.2 ⟨d, List.mem_filter.2 ⟨hd, by rw [hus d hd]; simpa using hy⟩, rfl⟩)
end
end Go.Proofs.YtnpmmodcmfgbjaaGreat
