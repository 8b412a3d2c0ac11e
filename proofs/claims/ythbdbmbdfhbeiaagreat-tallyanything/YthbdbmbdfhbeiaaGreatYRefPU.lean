import Derived.Test.YthbdbmbdfhbeiaaGreatYRef3U
namespace Go.Proofs.YthbdbmbdfhbeiaaGreat
open Go.RowKit Go.Sort Go.Maps

theorem ris_lt2 (x y : BS) (m n : Int) : ris x m y n < 0 ↔ bl x y = true ∨ (x = y ∧ m < n) := by
  unfold ris
  by_cases h : bl x y = true ∨ (x = y ∧ m < n)
  · simp [h]
  · rw [if_neg h]
    constructor
    · intro hq; split at hq <;> omega
    · intro hq; exact absurd hq h
/-- By the text, then by the number. -/
def rlt (x y : Rk) : Prop := bl x.1 y.1 = true ∨ (x.1 = y.1 ∧ x.2 < y.2)
theorem rlt_irr (x : Rk) : ¬ rlt x x := fun h => by
  rcases h with h | h
  · rw [bl_irrefl] at h; cases h
  · omega
theorem rlt_trans {x y z : Rk} (h1 : rlt x y) (h2 : rlt y z) : rlt x z := by
  rcases h1 with h1 | ⟨h1, h1'⟩ <;> rcases h2 with h2 | ⟨h2, h2'⟩
  · exact Or.inl (bl_trans h1 h2)
  · exact Or.inl (by rw [← h2]; exact h1)
  · exact Or.inl (by rw [h1]; exact h2)
  · exact Or.inr ⟨h1.trans h2, by omega⟩
theorem rlt_tot {x y : Rk} (h1 : ¬ rlt x y) (h2 : ¬ rlt y x) : x = y := by
  have e : x.1 = y.1 := by
    apply bl_total
    · cases hb : bl x.1 y.1 with
      | false => rfl
      | true => exact absurd (Or.inl hb) h1
    · cases hb : bl y.1 x.1 with
      | false => rfl
      | true => exact absurd (Or.inl hb) h2
  have e2 : x.2 = y.2 := by
    have a : ¬ x.2 < y.2 := fun h => h1 (Or.inr ⟨e, h⟩)
    have b : ¬ y.2 < x.2 := fun h => h2 (Or.inr ⟨e.symm, h⟩)
    omega
  exact Prod.ext e e2
theorem ltk_iff (kind : Int) (hk : kind = 0 ∨ kind = 1 ∨ kind = 2) (x y : Rk) : ltk kind x y = true ↔ (kind = 0 ∧ rlt x y) ∨ (kind = 1 ∧ rlt y x) ∨ (kind = 2 ∧ (x.1.1.size < y.1.1.size ∨ (x.1.1.size = y.1.1.size ∧ rlt x y))) := by
  unfold ltk
  rw [decide_eq_true_iff]
  rcases hk with rfl | rfl | rfl
  · unfold cfk
    simp only [Int.zero_ne_one, if_false, ne_eq, not_true_eq_false, false_and]
    rw [ris_lt2]
    simp [rlt]
  · unfold cfk
    simp only [if_true]
    rw [ris_lt2]
    simp [rlt]
  · unfold cfk
    rw [if_neg (by decide)]
    by_cases hs : x.1.1.size = y.1.1.size
    · rw [if_neg (by simp [hs]), ris_lt2]
      simp [rlt, hs]
    · rw [if_pos ⟨by decide, hs⟩]
      simp [hs]
      omega
theorem ltk_swo (kind : Int) (hk : kind = 0 ∨ kind = 1 ∨ kind = 2) : (∀ x, ltk kind x x = false) ∧ (∀ x y z, ltk kind x y = true → ltk kind y z = true → ltk kind x z = true) ∧ (∀ x y, ltk kind x y = false → ltk kind y x = false → x = y) := by
  have hnot : ∀ x y, ltk kind x y = false ↔ ¬ ((kind = 0 ∧ rlt x y) ∨ (kind = 1 ∧ rlt y x) ∨ (kind = 2 ∧ (x.1.1.size < y.1.1.size ∨ (x.1.1.size = y.1.1.size ∧ rlt x y)))) := fun x y => by rw [← ltk_iff kind hk, Bool.not_eq_true]
  refine ⟨fun x => ?_, fun x y z h1 h2 => ?_, fun x y h1 h2 => ?_⟩
  · rw [hnot]
    have := rlt_irr x
    simp [this]
  · rw [ltk_iff kind hk] at *
    rcases hk with rfl | rfl | rfl
    · simp at h1 h2 ⊢; exact rlt_trans h1 h2
    · simp at h1 h2 ⊢; exact rlt_trans h2 h1
    · simp at h1 h2 ⊢
      rcases h1 with h1 | ⟨h1, h1'⟩ <;> rcases h2 with h2 | ⟨h2, h2'⟩
      · left; omega
      · left; omega
      · left; omega
      · right; exact ⟨by omega, rlt_trans h1' h2'⟩
  · rw [hnot] at h1 h2
    rcases hk with rfl | rfl | rfl
    · simp at h1 h2; exact rlt_tot h1 h2
    · simp at h1 h2; exact rlt_tot h2 h1
    · simp at h1 h2
      have e : x.1.1.size = y.1.1.size := by omega
      exact rlt_tot (h1.2 e) (h2.2 e.symm)
theorem ltk_cf (kind : Int) (x y : BS) : ltk kind (x, 0) (y, 0) = ltOf (cf kind) x y := rfl

/-- The keys that are told are those that are in. -/
theorem mem_rins (kind : Int) (l : List Rk) (x y : Rk) : y ∈ rins kind l x ↔ y = x ∨ y ∈ l := by
  unfold rins
  rw [List.mem_append, List.mem_cons]
  conv => rhs; rw [← List.take_append_drop (rix kind l x) l, List.mem_append]
  constructor
  · rintro (h | h | h)
    · exact Or.inr (Or.inl h)
    · exact Or.inl h
    · exact Or.inr (Or.inr h)
  · rintro (h | h | h)
    · exact Or.inr (Or.inl h)
    · exact Or.inl h
    · exact Or.inr (Or.inr h)
theorem mem_rkeys (kind : Int) {N : List Rk} {C : List Int} (hl : C.length = N.length) : ∀ (i : Nat), i ≤ N.length → ∀ y, y ∈ rkeys kind N C i ↔ ∃ j c, j < i ∧ N[j]? = some y ∧ C[j]? = some c ∧ c ≠ 0
  | 0, _, y => by simp [rkeys, rks]
  | i + 1, h, y => by
    have ih := mem_rkeys kind hl i (by omega) y
    have hx : N[i]? = some (N[i]'(by omega)) := by simp
    have hc : C[i]? = some (C[i]'(by omega)) := by simp
    rw [rkeys_succ kind hl hx hc]
    split
    · rename_i h0
      rw [ih]
      constructor
      · rintro ⟨j, c, h1, h2⟩; exact ⟨j, c, by omega, h2⟩
      · rintro ⟨j, c, h1, h2, h3, h4⟩
        refine ⟨j, c, ?_, h2, h3, h4⟩
        by_cases e : j = i
        · subst e; rw [hc] at h3; cases h3; exact absurd h0 h4
        · omega
    · rename_i h0
      rw [mem_rins, ih]
      constructor
      · rintro (h1 | ⟨j, c, h1, h2⟩)
        · exact ⟨i, _, by omega, by rw [h1]; exact hx, hc, h0⟩
        · exact ⟨j, c, by omega, h2⟩
      · rintro ⟨j, c, h1, h2, h3, h4⟩
        by_cases e : j = i
        · subst e; rw [hx] at h2; cases h2; exact Or.inl rfl
        · exact Or.inr ⟨j, c, by omega, h2, h3, h4⟩
/-- One key is ahead of the next ones. -/
theorem srt_rins (kind : Int) (hk : kind = 0 ∨ kind = 1 ∨ kind = 2) {l : List Rk} {x : Rk} (h : l.Pairwise fun a b => ltk kind a b = true) (hx : x ∉ l) : (rins kind l x).Pairwise fun a b => ltk kind a b = true := by
  obtain ⟨hI, hTr, hTo⟩ := ltk_swo kind hk
  have hlow : ∀ a ∈ l.take (rix kind l x), ltk kind a x = true := fun a ha => by
    obtain ⟨j, hj⟩ := List.mem_iff_getElem?.1 ha
    rw [List.getElem?_take] at hj
    split at hj
    · rename_i hjx
      obtain ⟨hlt, he⟩ := List.getElem?_eq_some_iff.1 hj
      have := List.not_of_lt_findIdx (xs := l) (p := fun y => !ltk kind y x) hjx
      simpa [he] using this
    · cases hj
  have hhigh : ∀ b ∈ l.drop (rix kind l x), ltk kind x b = true := fun b hb => by
    have hlt : rix kind l x < l.length := by
      cases Nat.lt_or_ge (rix kind l x) l.length with
      | inl h => exact h
      | inr h => rw [List.drop_of_length_le h] at hb; cases hb
    have h0 : ltk kind (l[rix kind l x]) x = false := by
      have := List.findIdx_getElem (xs := l) (p := fun y => !ltk kind y x) (w := hlt)
      rw [Bool.not_eq_true'] at this
      exact this
    have h1 : ltk kind x (l[rix kind l x]) = true := by
      cases hq : ltk kind x (l[rix kind l x]) with
      | true => rfl
      | false => exact absurd (hTo _ _ hq h0) (fun e => hx (by rw [e]; exact List.getElem_mem hlt))
    rw [List.drop_eq_getElem_cons hlt] at hb
    rcases List.mem_cons.1 hb with e | hb
    · rw [e]; exact h1
    · have hp := h
      rw [← List.take_append_drop (rix kind l x) l, List.drop_eq_getElem_cons hlt] at hp
      have := (List.pairwise_cons.1 (List.pairwise_append.1 hp).2.1).1 b hb
      exact hTr _ _ _ h1 this
  have hp := h
  rw [← List.take_append_drop (rix kind l x) l] at hp
  obtain ⟨p1, p2, p3⟩ := List.pairwise_append.1 hp
  unfold rins
  refine List.pairwise_append.2 ⟨p1, List.pairwise_cons.2 ⟨hhigh, p2⟩, fun a ha b hb => ?_⟩
  rcases List.mem_cons.1 hb with e | hb
  · rw [e]; exact hlow a ha
  · exact p3 a ha b hb
theorem nodup_get {N : List Rk} (h : N.Nodup) {i j : Nat} {x : Rk} (hi : N[i]? = some x) (hj : N[j]? = some x) : i = j := by
  obtain ⟨h1, e1⟩ := List.getElem?_eq_some_iff.1 hi
  obtain ⟨h2, e2⟩ := List.getElem?_eq_some_iff.1 hj
  exact (List.getElem_inj h).1 (e1.trans e2.symm)
theorem srt_rkeys (kind : Int) (hk : kind = 0 ∨ kind = 1 ∨ kind = 2) {N : List Rk} {C : List Int} (hl : C.length = N.length) (hn : N.Nodup) : ∀ i, i ≤ N.length → (rkeys kind N C i).Pairwise fun a b => ltk kind a b = true
  | 0, _ => by simp [rkeys, rks]
  | i + 1, h => by
    have ih := srt_rkeys kind hk hl hn i (by omega)
    have hx : N[i]? = some (N[i]'(by omega)) := by simp
    have hc : C[i]? = some (C[i]'(by omega)) := by simp
    rw [rkeys_succ kind hl hx hc]
    split
    · exact ih
    · refine srt_rins kind hk ih fun hm => ?_
      obtain ⟨j, c, hj, hj2, _⟩ := (mem_rkeys kind hl i (by omega) _).1 hm
      have := nodup_get hn hj2 hx
      omega

/-- A key's count behind an Add. -/
theorem fi_mem {N : List Rk} {x : Rk} {i : Nat} (hn : N.Nodup) (h : N[i]? = some x) : fi N x = i := by
  have hx : x ∈ N := List.mem_of_getElem? h
  have hlt : fi N x < N.length := List.findIdx_lt_length.2 ⟨x, hx, by simp⟩
  have h2 := List.findIdx_getElem (xs := N) (p := fun y => decide (y = x)) (w := hlt)
  have h3 : N[fi N x]? = some x := by rw [List.getElem?_eq_getElem hlt]; exact congrArg some (of_decide_eq_true h2)
  exact nodup_get hn h3 h
theorem rget_mem {N : List Rk} {C : List Int} {x : Rk} {i : Nat} {c : Int} (hn : N.Nodup) (h : N[i]? = some x) (hc : C[i]? = some c) : rget N C x = c := by
  unfold rget
  rw [fi_mem hn h, hc]; rfl
theorem rget_not {N : List Rk} {C : List Int} {x : Rk} (hl : C.length = N.length) (h : x ∉ N) : rget N C x = 0 := by
  unfold rget
  have : fi N x = N.length := by
    unfold fi
    rw [List.findIdx_eq_length]
    intro y hy
    simp only [decide_eq_false_iff_not]
    exact fun e => h (e ▸ hy)
  rw [this, List.getElem?_eq_none (by omega)]; rfl
theorem rget_add {N : List Rk} {C : List Int} (hl : C.length = N.length) (hn : N.Nodup) (x : Rk) (v : Int) (y : Rk) : rget (rN N x) (rC N C x v) y = if y = x then rget N C x + v else rget N C y := by
  by_cases hf : fi N x < N.length
  · have e1 : rN N x = N := by unfold rN; rw [if_pos hf]
    have e2 : rC N C x v = C.set (fi N x) (rget N C x + v) := by unfold rC; rw [if_pos hf]
    rw [e1, e2]
    by_cases hy : y = x
    · subst hy
      rw [if_pos rfl]
      conv => lhs; unfold rget
      rw [List.getElem?_set_self (by omega)]; rfl
    · rw [if_neg hy]
      unfold rget
      rw [List.getElem?_set_ne]
      intro e
      have h1 := List.findIdx_getElem (xs := N) (p := fun z => decide (z = x)) (w := hf)
      have hf2 : fi N y < N.length := by rw [← e]; exact hf
      have h2 := List.findIdx_getElem (xs := N) (p := fun z => decide (z = y)) (w := hf2)
      have h3 : N[fi N x] = x := of_decide_eq_true h1
      have h4 : N[fi N y] = y := of_decide_eq_true h2
      have : N[fi N x] = N[fi N y] := by simp only [e]
      exact hy (by rw [← h4, ← this, h3])
  · have e1 : rN N x = N ++ [x] := by unfold rN; rw [if_neg hf]
    have e2 : rC N C x v = C ++ [v] := by unfold rC; rw [if_neg hf]
    have hx := fi_not hf
    have hn' : (N ++ [x]).Nodup := List.nodup_append.2 ⟨hn, by simp, fun a ha b hb => by simp at hb; subst hb; exact fun e => hx (e ▸ ha)⟩
    rw [e1, e2]
    by_cases hy : y = x
    · subst hy
      rw [if_pos rfl, rget_not hl hx, Int.zero_add]
      exact rget_mem hn' (i := N.length) (by simp) (by rw [← hl]; simp)
    · rw [if_neg hy]
      by_cases hm : y ∈ N
      · obtain ⟨i, hi⟩ := List.mem_iff_getElem?.1 hm
        have hlt := (List.getElem?_eq_some_iff.1 hi).1
        have hc : C[i]? = some (C[i]'(by omega)) := by simp
        rw [rget_mem hn hi hc]
        exact rget_mem hn' (i := i) (by rw [List.getElem?_append_left hlt]; exact hi) (by rw [List.getElem?_append_left (by omega)]; exact hc)
      · rw [rget_not hl hm, rget_not (by simp [hl]) (by simp [hm, hy])]
theorem rN_sub {N : List Rk} {x y : Rk} (h : y ∈ rN N x) : y ∈ N ∨ y = x := by
  unfold rN at h
  split at h
  · exact Or.inl h
  · simpa using h
theorem mem_rk {kind : Int} {N : List Rk} {C : List Int} (hl : C.length = N.length) (hn : N.Nodup) (y : Rk) : y ∈ rkeys kind N C N.length ↔ rget N C y ≠ 0 := by
  rw [mem_rkeys kind hl _ (Nat.le_refl _)]
  constructor
  · rintro ⟨j, c, _, h2, h3, h4⟩
    rw [rget_mem hn h2 h3]; exact h4
  · intro h
    have hm : y ∈ N := Classical.byContradiction fun hm => h (rget_not hl hm)
    obtain ⟨i, hi⟩ := List.mem_iff_getElem?.1 hm
    have hlt := (List.getElem?_eq_some_iff.1 hi).1
    have hc : C[i]? = some (C[i]'(by omega)) := by simp
    exact ⟨i, _, hlt, hi, hc, by rw [rget_mem hn hi hc] at h; exact h⟩
end Go.Proofs.YthbdbmbdfhbeiaaGreat
