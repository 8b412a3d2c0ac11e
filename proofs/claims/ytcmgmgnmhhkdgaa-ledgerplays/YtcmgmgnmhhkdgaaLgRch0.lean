import Derived.Test.YtcmgmgnmhhkdgaaLgRef2
namespace Go.Proofs.Ytcmgmgnmhhkdgaa
open Go.RowKit Go.Sort Go.Maps Go.Shelf

/-- How many stand ahead of a stamp. -/
def ahd (s : Sm) : List Cg → Nat
  | [] => 0
  | y :: l => if slt y.1 s = true then ahd s l + 1 else 0
theorem ahd_le (s : Sm) (l : List Cg) : ahd s l ≤ l.length := by
  induction l with
  | nil => exact Nat.le_refl _
  | cons y l ih => unfold ahd; split <;> simp <;> omega
theorem ahd_lt {s : Sm} {l : List Cg} {j : Nat} (h : j < ahd s l) : ∃ y, l[j]? = some y ∧ slt y.1 s = true := by
  induction l generalizing j with
  | nil => simp [ahd] at h
  | cons y l ih =>
    unfold ahd at h
    split at h
    · rename_i hy
      cases j with
      | zero => exact ⟨y, rfl, hy⟩
      | succ j => exact ih (by omega)
    · omega
theorem ahd_at {s : Sm} {l : List Cg} {y : Cg} (h : l[ahd s l]? = some y) : slt y.1 s = false := by
  induction l with
  | nil => simp at h
  | cons x l ih =>
    unfold ahd at h
    split at h
    · exact ih (by simpa using h)
    · rename_i hx
      have : x = y := by simpa using h
      subst this
      simpa using hx
/-- Put in at its place. -/
def insC (c : Cg) (l : List Cg) : List Cg := l.take (ahd c.1 l) ++ c :: l.drop (ahd c.1 l)
/-- Is it the first of its stamp? -/
def fst1 (L : List Cg) (i : Nat) (s : Sm) : Bool := (L.take i).all fun d => decide (d.1 ≠ s)
/-- What Changes has behind i rounds. -/
def rch (L : List Cg) : Nat → List Cg
  | 0 => []
  | i + 1 => match L[i]? with
    | some c => if fst1 L i c.1 = true ∧ smf L c.1 ≠ 0 then insC (c.1, smf L c.1) (rch L i) else rch L i
    | none => rch L i
theorem rch_succ {L : List Cg} {i : Nat} {c : Cg} (h : L[i]? = some c) : rch L (i + 1) = if fst1 L i c.1 = true ∧ smf L c.1 ≠ 0 then insC (c.1, smf L c.1) (rch L i) else rch L i := by
  rw [rch, h]
def srtd (l : List Cg) : Prop := l.Pairwise fun a b => slt a.1 b.1 = true
theorem insC_mem {c x : Cg} {l : List Cg} : x ∈ insC c l ↔ x = c ∨ x ∈ l := by
  unfold insC
  rw [List.mem_append, List.mem_cons]
  constructor
  · rintro (h | h | h)
    · exact Or.inr (List.mem_of_mem_take h)
    · exact Or.inl h
    · exact Or.inr (List.mem_of_mem_drop h)
  · rintro (h | h)
    · exact Or.inr (Or.inl h)
    · rw [← List.take_append_drop (ahd c.1 l) l, List.mem_append] at h
      rcases h with h | h
      · exact Or.inl h
      · exact Or.inr (Or.inr h)
theorem insC_len (c : Cg) (l : List Cg) : (insC c l).length = l.length + 1 := by
  unfold insC
  have := ahd_le c.1 l
  rw [List.length_append, List.length_cons, List.length_take, List.length_drop]
  omega
theorem slt_tr {a b c : Sm} (h1 : slt a b = true) (h2 : slt b c = true) : slt a c = true := swoS.trans a b c h1 h2
theorem insC_srtd {c : Cg} {l : List Cg} (h : srtd l) (hn : ∀ x ∈ l, x.1 ≠ c.1) : srtd (insC c l) := by
  have hp : ∀ x ∈ l.take (ahd c.1 l), slt x.1 c.1 = true := fun x hx => by
    obtain ⟨j, hj, e⟩ := List.mem_take_iff_getElem.1 hx
    obtain ⟨y, hy, hs⟩ := ahd_lt (s := c.1) (l := l) (j := j) (by omega)
    have : y = x := by rw [← e]; exact (Option.some.inj (by rw [← hy]; simp)).symm
    rw [← this]; exact hs
  have hq : ∀ x ∈ l.drop (ahd c.1 l), slt c.1 x.1 = true := fun x hx => by
    cases hd : l.drop (ahd c.1 l) with
    | nil => rw [hd] at hx; cases hx
    | cons y r =>
      have hy : l[ahd c.1 l]? = some y := by
        have := List.getElem?_drop (xs := l) (i := ahd c.1 l) (j := 0)
        rw [hd] at this
        simpa using this.symm
      have h1 := ahd_at hy
      have hym : y ∈ l := List.mem_of_getElem? hy
      have h2 : slt c.1 y.1 = true := by
        cases hb : slt c.1 y.1 with
        | true => rfl
        | false => exact absurd (totS y.1 c.1 h1 hb) (hn y hym)
      rw [hd, List.mem_cons] at hx
      rcases hx with rfl | hx
      · exact h2
      · have hs : srtd (y :: r) := by rw [← hd]; exact List.Pairwise.sublist (List.drop_sublist _ _) h
        exact slt_tr h2 ((List.pairwise_cons.1 hs).1 x hx)
  unfold insC srtd
  refine List.pairwise_append.2 ⟨List.Pairwise.sublist (List.take_sublist _ _) h, List.pairwise_cons.2 ⟨hq, List.Pairwise.sublist (List.drop_sublist _ _) h⟩, fun a ha b hb => ?_⟩
  rw [List.mem_cons] at hb
  rcases hb with rfl | hb
  · exact hp a ha
  · exact slt_tr (hp a ha) (hq b hb)
/-- What stands there behind i rounds. -/
theorem rch_mem {L : List Cg} {i : Nat} (hi : i ≤ L.length) (x : Cg) : x ∈ rch L i ↔ (∃ d ∈ L.take i, d.1 = x.1) ∧ x.2 = smf L x.1 ∧ smf L x.1 ≠ 0 := by
  induction i generalizing x with
  | zero => simp [rch]
  | succ i ih =>
    obtain ⟨c, hc⟩ : ∃ c, L[i]? = some c := ⟨L[i], by simp⟩
    have ih := ih (by omega)
    rw [rch_succ hc, List.take_add_one, hc]
    have hx : ∀ P : Prop, ((∃ d ∈ L.take i ++ [c], d.1 = x.1) ∧ P) ↔ ((∃ d ∈ L.take i, d.1 = x.1) ∧ P) ∨ (c.1 = x.1 ∧ P) := fun P => by
      simp only [List.mem_append, List.mem_singleton]
      constructor
      · rintro ⟨⟨d, hd | rfl, e⟩, p⟩
        · exact Or.inl ⟨⟨d, hd, e⟩, p⟩
        · exact Or.inr ⟨e, p⟩
      · rintro (⟨⟨d, hd, e⟩, p⟩ | ⟨e, p⟩)
        · exact ⟨⟨d, Or.inl hd, e⟩, p⟩
        · exact ⟨⟨c, Or.inr rfl, e⟩, p⟩
    show x ∈ _ ↔ (∃ d ∈ L.take i ++ [c], d.1 = x.1) ∧ _
    rw [hx]
    split
    · rename_i h
      rw [insC_mem, ih]
      constructor
      · rintro (rfl | h1)
        · exact Or.inr ⟨rfl, rfl, h.2⟩
        · exact Or.inl h1
      · rintro (h1 | ⟨e, h2, h3⟩)
        · exact Or.inr h1
        · exact Or.inl (Prod.ext e.symm (by rw [h2, e]))
    · rename_i h
      rw [ih]
      constructor
      · exact Or.inl
      · rintro (h1 | ⟨e, h2, h3⟩)
        · exact h1
        · refine ⟨?_, h2, h3⟩
          rw [← e] at h3
          have hf : ¬ fst1 L i c.1 = true := fun hf => h ⟨hf, h3⟩
          unfold fst1 at hf
          rw [List.all_eq_true] at hf
          simp only [decide_eq_true_eq] at hf
          obtain ⟨d, hd⟩ := Classical.not_forall.1 hf
          obtain ⟨hd1, hd2⟩ := Classical.not_imp.1 hd
          exact ⟨d, hd1, (Classical.not_not.1 hd2).trans e⟩
theorem rch_srtd {L : List Cg} {i : Nat} (hi : i ≤ L.length) : srtd (rch L i) := by
  induction i with
  | zero => exact List.Pairwise.nil
  | succ i ih =>
    obtain ⟨c, hc⟩ : ∃ c, L[i]? = some c := ⟨L[i], by simp⟩
    rw [rch_succ hc]
    split
    · rename_i h
      refine insC_srtd (ih (by omega)) fun x hx e => ?_
      obtain ⟨⟨d, hd, e2⟩, _⟩ := (rch_mem (by omega) x).1 hx
      have := (List.all_eq_true.1 h.1) d hd
      simp only [decide_eq_true_eq] at this
      exact this (e2.trans e)
    · exact ih (by omega)
theorem rch_len (L : List Cg) (i : Nat) : (rch L i).length ≤ i := by
  induction i with
  | zero => exact Nat.le_refl _
  | succ i ih =>
    rw [rch]
    split
    · split
      · rw [insC_len]; omega
      · omega
    · omega
theorem smf_none {L : List Cg} {s : Sm} (h : ∀ d ∈ L, d.1 ≠ s) : smf L s = 0 := by
  induction L with
  | nil => rfl
  | cons c L ih =>
    rw [smf, if_neg (h c List.mem_cons_self), ih fun d hd => h d (List.mem_cons_of_mem _ hd)]
    rfl
/-- All of it: the changes. -/
theorem rch_chs {L : List Cg} {ks : List Sm} (h : Sup (smf L) ks) : rch L L.length = chs (smf L) ks := by
  have hs := rch_srtd (L := L) (Nat.le_refl _)
  have hm := fun x => rch_mem (L := L) (Nat.le_refl _) x
  have hk : ((rch L L.length).map (·.1)).Pairwise fun a b => slt a b = true := List.pairwise_map.2 hs
  have hnd : ((rch L L.length).map (·.1)).Nodup := hk.imp fun {a b} hab e => by
    subst e
    have := swoS.irrefl a
    rw [ltOf_scm, hab] at this
    cases this
  have hp : ks.Perm ((rch L L.length).map (·.1)) := by
    refine (List.perm_ext_iff_of_nodup h.1 hnd).2 fun s => ?_
    rw [h.2 s, List.mem_map]
    constructor
    · intro h0
      refine ⟨(s, smf L s), (hm _).2 ⟨?_, rfl, h0⟩, rfl⟩
      rw [List.take_length]
      apply Classical.byContradiction
      intro hn
      exact h0 (smf_none fun d hd e => hn ⟨d, hd, e⟩)
    · rintro ⟨x, hx, rfl⟩
      exact ((hm x).1 hx).2.2
  unfold chs
  rw [stS_eq hp hk, List.map_map]
  conv => lhs; rw [← List.map_id (rch L L.length)]
  refine List.map_congr_left fun x hx => ?_
  have := ((hm x).1 hx).2.1
  exact Prod.ext rfl this
end Go.Proofs.Ytcmgmgnmhhkdgaa
