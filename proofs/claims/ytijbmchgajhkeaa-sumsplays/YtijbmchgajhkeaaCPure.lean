import Derived.WalkKit
namespace Go.Proofs.Ytijbmchgajhkeaa
section
variable {α : Type} (bel fst : α → α → Bool)

/-- What the list of a chain becomes. -/
def ccov (l : List α) (v : α) : Bool := l.any (fun x => bel x v)
def ccut (l : List α) (v : α) : List α := l.filter (fun x => !bel v x)
def cput (l : List α) (v : α) : List α := l.take (l.findIdx (fun y => fst v y)) ++ v :: l.drop (l.findIdx (fun y => fst v y))
def cins (l : List α) (v : α) : List α := if ccov bel l v then l else cput fst (ccut bel l v) v
def cjoin (l vs : List α) : List α := vs.foldl (cins bel fst) l
def cnum (l : List α) : List α → Nat
  | [] => 0
  | v :: vs => (if ccov bel l v then 0 else 1) + cnum (cins bel fst l v) vs

variable {bel fst}
theorem cjoin_nil (l : List α) : cjoin bel fst l [] = l := rfl
theorem cjoin_cons (l : List α) (v : α) (vs : List α) : cjoin bel fst l (v :: vs) = cjoin bel fst (cins bel fst l v) vs := rfl
theorem cjoin_append (l vs us : List α) : cjoin bel fst l (vs ++ us) = cjoin bel fst (cjoin bel fst l vs) us := by
  simp [cjoin]
theorem cjoin_take_succ {l vs : List α} {k : Nat} {v : α} (h : vs[k]? = some v) : cjoin bel fst l (vs.take (k + 1)) = cins bel fst (cjoin bel fst l (vs.take k)) v := by
  rw [List.take_add_one, h, cjoin_append]; rfl
theorem ccut_length (l : List α) (v : α) : (ccut bel l v).length ≤ l.length := List.length_filter_le _ _
theorem cput_length (l : List α) (v : α) : (cput fst l v).length = l.length + 1 := by
  simp [cput]; omega
theorem cins_length (l : List α) (v : α) : (cins bel fst l v).length ≤ l.length + 1 := by
  unfold cins
  split
  · omega
  · rw [cput_length]; have := ccut_length (bel := bel) l v; omega
theorem cjoin_length (l vs : List α) : (cjoin bel fst l vs).length ≤ l.length + vs.length := by
  induction vs generalizing l with
  | nil => simp [cjoin]
  | cons v vs ih =>
    have h1 := ih (cins bel fst l v)
    have h2 := cins_length (bel := bel) (fst := fst) l v
    rw [cjoin_cons]; simp only [List.length_cons]; omega
theorem mem_cput {l : List α} {v x : α} : x ∈ cput fst l v ↔ x = v ∨ x ∈ l := by
  unfold cput
  constructor
  · intro h
    rcases List.mem_append.1 h with h | h
    · exact Or.inr (List.mem_of_mem_take h)
    · rcases List.mem_cons.1 h with h | h
      · exact Or.inl h
      · exact Or.inr (List.mem_of_mem_drop h)
  · intro h
    rcases h with h | h
    · subst h; simp
    · rw [← List.take_append_drop (l.findIdx fun y => fst v y) l] at h
      rcases List.mem_append.1 h with h | h
      · exact List.mem_append.2 (Or.inl h)
      · exact List.mem_append.2 (Or.inr (List.mem_cons_of_mem _ h))
theorem mem_ccut {l : List α} {v x : α} : x ∈ ccut bel l v ↔ x ∈ l ∧ bel v x = false := by
  simp [ccut, List.mem_filter]
theorem ccov_true {l : List α} {v : α} : ccov bel l v = true ↔ ∃ x ∈ l, bel x v = true := by
  simp [ccov]
theorem ccov_false {l : List α} {v : α} : ccov bel l v = false ↔ ∀ x ∈ l, bel x v = false := by
  simp [ccov]
theorem ccut_twice (l : List α) (v : α) : ccut bel (ccut bel l v) v = ccut bel l v := by
  simp [ccut]

/-- The two functions are orders. -/
structure Ords (bel fst : α → α → Bool) : Prop where
  refl : ∀ a, bel a a = true
  trans : ∀ a b c, bel a b = true → bel b c = true → bel a c = true
  anti : ∀ a b, bel a b = true → bel b a = true → a = b
  irr : ∀ a, fst a a = false
  tr : ∀ a b c, fst a b = true → fst b c = true → fst a c = true
  tot : ∀ a b, a ≠ b → fst a b = false → fst b a = true

/-- Sorted, none at or ahead of another. -/
def Good (bel fst : α → α → Bool) (l : List α) : Prop := l.Pairwise fun a b => fst a b = true ∧ bel a b = false ∧ bel b a = false

theorem findIdx_take_false {l : List α} {p : α → Bool} {x : α} (h : x ∈ l.take (l.findIdx p)) : p x = false := by
  obtain ⟨i, hi, rfl⟩ := List.mem_iff_getElem.1 h
  rw [List.getElem_take]
  have hi' : i < l.findIdx p := by simp at hi; omega
  have := List.not_of_lt_findIdx (p := p) (xs := l) hi'
  simpa using this
theorem findIdx_drop_true (O : Ords bel fst) {l : List α} (hl : l.Pairwise fun a b => fst a b = true) {v x : α} (h : x ∈ l.drop (l.findIdx fun y => fst v y)) : fst v x = true := by
  induction l with
  | nil => simp at h
  | cons y l ih =>
    rw [List.pairwise_cons] at hl
    rw [List.findIdx_cons] at h
    cases hy : fst v y with
    | true =>
      rw [hy] at h
      simp at h
      rcases h with rfl | h
      · exact hy
      · exact O.tr _ _ _ hy (hl.1 _ h)
    | false =>
      rw [hy] at h
      simp at h
      exact ih hl.2 h

theorem good_cut {l : List α} (h : Good bel fst l) (v : α) : Good bel fst (ccut bel l v) := List.Pairwise.filter _ h
theorem good_ins (O : Ords bel fst) {l : List α} (h : Good bel fst l) (v : α) : Good bel fst (cins bel fst l v) := by
  unfold cins
  split
  · exact h
  · rename_i hc
    have hc : ccov bel l v = false := by simpa using hc
    rw [ccov_false] at hc
    have hg := good_cut h v
    have hm : ∀ x ∈ ccut bel l v, bel x v = false ∧ bel v x = false := fun x hx => ⟨hc x (mem_ccut.1 hx).1, (mem_ccut.1 hx).2⟩
    generalize ccut bel l v = m at hg hm
    have hs : m.Pairwise fun a b => fst a b = true := hg.imp (fun h => h.1)
    unfold Good cput
    have hsplit : (m.take (m.findIdx fun y => fst v y) ++ m.drop (m.findIdx fun y => fst v y)).Pairwise fun a b => fst a b = true ∧ bel a b = false ∧ bel b a = false := by rw [List.take_append_drop]; exact hg
    rw [List.pairwise_append] at hsplit
    refine List.pairwise_append.2 ⟨hsplit.1, List.pairwise_cons.2 ⟨?_, hsplit.2.1⟩, ?_⟩
    · intro x hx
      have hxm := List.mem_of_mem_drop hx
      exact ⟨findIdx_drop_true O hs hx, (hm x hxm).2, (hm x hxm).1⟩
    · intro a ha b hb
      rcases List.mem_cons.1 hb with rfl | hb
      · have ham := List.mem_of_mem_take ha
        have hf := findIdx_take_false ha
        refine ⟨O.tot _ _ ?_ hf, hm a ham⟩
        rintro rfl
        have := (hm _ ham).1
        rw [O.refl] at this; cases this
      · exact hsplit.2.2 a ha b hb
theorem good_join (O : Ords bel fst) {l : List α} (h : Good bel fst l) (vs : List α) : Good bel fst (cjoin bel fst l vs) := by
  induction vs generalizing l with
  | nil => exact h
  | cons v vs ih => exact ih (good_ins O h v)
theorem good_nil : Good bel fst ([] : List α) := List.Pairwise.nil

theorem cov_ins (O : Ords bel fst) (l : List α) (v : α) : ccov bel (cins bel fst l v) v = true := by
  unfold cins
  split
  · assumption
  · exact ccov_true.2 ⟨v, mem_cput.2 (Or.inl rfl), O.refl v⟩
/-- What was covered stays so. -/
theorem cov_ins_mono (O : Ords bel fst) {l : List α} {x : α} (v : α) (h : ccov bel l x = true) : ccov bel (cins bel fst l v) x = true := by
  unfold cins
  split
  · exact h
  · obtain ⟨y, hy, hyx⟩ := ccov_true.1 h
    cases hv : bel v y with
    | true => exact ccov_true.2 ⟨v, mem_cput.2 (Or.inl rfl), O.trans _ _ _ hv hyx⟩
    | false => exact ccov_true.2 ⟨y, mem_cput.2 (Or.inr (mem_ccut.2 ⟨hy, hv⟩)), hyx⟩
theorem mem_ins {l : List α} {x v : α} (h : x ∈ cins bel fst l v) : x = v ∨ x ∈ l := by
  unfold cins at h
  split at h
  · exact Or.inr h
  · rcases mem_cput.1 h with h | h
    · exact Or.inl h
    · exact Or.inr (mem_ccut.1 h).1
theorem cov_join_mono (O : Ords bel fst) {l : List α} {x : α} (vs : List α) (h : ccov bel l x = true) : ccov bel (cjoin bel fst l vs) x = true := by
  induction vs generalizing l with
  | nil => exact h
  | cons v vs ih => exact ih (cov_ins_mono O v h)
theorem cov_join (O : Ords bel fst) (l : List α) {vs : List α} {x : α} (h : x ∈ vs) : ccov bel (cjoin bel fst l vs) x = true := by
  induction vs generalizing l with
  | nil => simp at h
  | cons v vs ih =>
    rcases List.mem_cons.1 h with rfl | h
    · exact cov_join_mono O vs (cov_ins O l x)
    · exact ih _ h
theorem mem_join {l vs : List α} {x : α} (h : x ∈ cjoin bel fst l vs) : x ∈ vs ∨ x ∈ l := by
  induction vs generalizing l with
  | nil => exact Or.inr h
  | cons v vs ih =>
    rcases ih h with h | h
    · exact Or.inl (List.mem_cons_of_mem _ h)
    · rcases mem_ins h with rfl | h
      · exact Or.inl (by simp)
      · exact Or.inr h
/-- What is asked of a chain without elements that took in some. -/
theorem cov_all (O : Ords bel fst) (vs : List α) (x : α) : ccov bel (cjoin bel fst [] vs) x = vs.any (fun y => bel y x) := by
  rw [Bool.eq_iff_iff]
  constructor
  · intro h
    obtain ⟨y, hy, hyx⟩ := ccov_true.1 h
    rcases mem_join hy with h | h
    · exact List.any_eq_true.2 ⟨y, h, hyx⟩
    · simp at h
  · intro h
    obtain ⟨y, hy, hyx⟩ := List.any_eq_true.1 h
    obtain ⟨z, hz, hzy⟩ := ccov_true.1 (cov_join O [] hy)
    exact ccov_true.2 ⟨z, hz, O.trans _ _ _ hzy hyx⟩
theorem good_off {l : List α} (h : Good bel fst l) {i j : Nat} {a b : α} (ha : l[i]? = some a) (hb : l[j]? = some b) (hne : i ≠ j) : bel a b = false := by
  obtain ⟨hi, rfl⟩ := List.getElem?_eq_some_iff.1 ha
  obtain ⟨hj, rfl⟩ := List.getElem?_eq_some_iff.1 hb
  rcases Nat.lt_or_gt_of_ne hne with h1 | h1
  · exact (List.pairwise_iff_getElem.1 h i j hi hj h1).2.1
  · exact (List.pairwise_iff_getElem.1 h j i hj hi h1).2.2
theorem good_next {l : List α} (h : Good bel fst l) {i : Nat} {a b : α} (ha : l[i]? = some a) (hb : l[i + 1]? = some b) : fst a b = true := by
  obtain ⟨hi, rfl⟩ := List.getElem?_eq_some_iff.1 ha
  obtain ⟨hj, rfl⟩ := List.getElem?_eq_some_iff.1 hb
  exact (List.pairwise_iff_getElem.1 h i (i + 1) hi hj (by omega)).1
/-- Who is in. -/
theorem mem_least (O : Ords bel fst) {vs : List α} {x : α} : x ∈ cjoin bel fst [] vs ↔ x ∈ vs ∧ ∀ y ∈ vs, bel y x = true → y = x := by
  have hg := good_join O (good_nil (bel := bel) (fst := fst)) vs
  constructor
  · intro h
    have hx : x ∈ vs := by
      rcases mem_join h with h | h
      · exact h
      · simp at h
    refine ⟨hx, fun y hy hyx => ?_⟩
    obtain ⟨z, hz, hzy⟩ := ccov_true.1 (cov_join O [] hy)
    have hzx := O.trans _ _ _ hzy hyx
    have : z = x := by
      obtain ⟨i, hi⟩ := List.mem_iff_getElem?.1 hz
      obtain ⟨j, hj⟩ := List.mem_iff_getElem?.1 h
      by_cases hij : i = j
      · subst hij; rw [hi] at hj; exact Option.some.inj hj
      · have := good_off hg hi hj hij
        rw [hzx] at this; cases this
    subst this
    exact O.anti _ _ hyx hzy
  · rintro ⟨hx, hm⟩
    obtain ⟨z, hz, hzx⟩ := ccov_true.1 (cov_join O [] hx)
    have hzv : z ∈ vs := by
      rcases mem_join hz with h | h
      · exact h
      · simp at h
    rw [hm z hzv hzx] at hz
    exact hz
theorem sorted_same (O : Ords bel fst) {l m : List α} (hl : l.Pairwise fun a b => fst a b = true) (hm : m.Pairwise fun a b => fst a b = true) (h : ∀ x, x ∈ l ↔ x ∈ m) : l = m := by
  induction l generalizing m with
  | nil =>
    cases m with
    | nil => rfl
    | cons b m => exact absurd ((h b).2 (by simp)) (by simp)
  | cons a l ih =>
    cases m with
    | nil => exact absurd ((h a).1 (by simp)) (by simp)
    | cons b m =>
      rw [List.pairwise_cons] at hl hm
      have hab : a = b := by
        by_cases e : a = b
        · exact e
        · have h1 := (h a).1 (by simp)
          have h2 := (h b).2 (by simp)
          rcases List.mem_cons.1 h1 with h1 | h1
          · exact h1
          rcases List.mem_cons.1 h2 with h2 | h2
          · exact h2.symm
          have := O.tr _ _ _ (hl.1 b h2) (hm.1 a h1)
          rw [O.irr] at this; cases this
      subst hab
      rw [ih hl.2 hm.2 (fun x => ?_)]
      constructor
      · intro hx
        rcases List.mem_cons.1 ((h x).1 (List.mem_cons_of_mem _ hx)) with rfl | h1
        · have := hl.1 _ hx; rw [O.irr] at this; cases this
        · exact h1
      · intro hx
        rcases List.mem_cons.1 ((h x).2 (List.mem_cons_of_mem _ hx)) with rfl | h1
        · have := hm.1 _ hx; rw [O.irr] at this; cases this
        · exact h1
theorem join_same (O : Ords bel fst) {vs us : List α} (h : ∀ x, x ∈ vs ↔ x ∈ us) : cjoin bel fst [] vs = cjoin bel fst [] us := by
  refine sorted_same O ((good_join O good_nil vs).imp fun h => h.1) ((good_join O good_nil us).imp fun h => h.1) fun x => ?_
  rw [mem_least O, mem_least O, h x]
  constructor
  · rintro ⟨a, b⟩; exact ⟨a, fun y hy => b y ((h y).2 hy)⟩
  · rintro ⟨a, b⟩; exact ⟨a, fun y hy => b y ((h y).1 hy)⟩
end
end Go.Proofs.Ytijbmchgajhkeaa
