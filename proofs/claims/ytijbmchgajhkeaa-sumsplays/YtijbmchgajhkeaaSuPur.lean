import Derived.Test.YtijbmchgajhkeaaSuKey
import Derived.Test.YtijbmchgajhkeaaLSort
import Derived.OpenShut
namespace Go.Proofs.Ytijbmchgajhkeaa
open Go.RowKit Go.Sort Go.Maps Go.Shelf

/-- The sum of two numbers, modulo 2^64. -/
def addU (a b : Ku) : Ku := ⟨IntKind.u64.wrap (a.1 + b.1), wf_wrap _ _⟩
theorem wrapU (n : Int) : IntKind.u64.wrap n = n % 18446744073709551616 := by
  simp [IntKind.wrap, IntKind.signed, IntKind.bits]
theorem addU_val (a b : Ku) : (addU a b).1 = (a.1 + b.1) % 18446744073709551616 := wrapU _
theorem addU_swap (a b c : Ku) : addU (addU a b) c = addU (addU a c) b := by
  apply Subtype.ext
  simp only [addU_val]
  omega
theorem addU_zero (a : Ku) : addU ⟨0, by decide⟩ a = a := by
  apply Subtype.ext
  have := ku_bd a
  rw [addU_val]
  show (0 + a.1) % 18446744073709551616 = a.1
  omega
/-- The sum of a time and a key. -/
def sm (A : List Ct) (s : Sx) : Ku := A.foldl (fun n c => if c.1 = s.1 ∧ c.2.1 = s.2 then addU n c.2.2 else n) ⟨0, by decide⟩
theorem sm_nil (s : Sx) : sm [] s = ⟨0, by decide⟩ := rfl
theorem sm_snoc (A : List Ct) (c : Ct) (s : Sx) : sm (A ++ [c]) s = if c.1 = s.1 ∧ c.2.1 = s.2 then addU (sm A s) c.2.2 else sm A s := by
  unfold sm
  rw [List.foldl_append]
  rfl
theorem foldl_out (s : Sx) (l : List Ct) (n v : Ku) : l.foldl (fun n c => if c.1 = s.1 ∧ c.2.1 = s.2 then addU n c.2.2 else n) (addU n v) = addU (l.foldl (fun n c => if c.1 = s.1 ∧ c.2.1 = s.2 then addU n c.2.2 else n) n) v := by
  induction l generalizing n with
  | nil => rfl
  | cons c l ih =>
    rw [List.foldl_cons, List.foldl_cons]
    by_cases hc : c.1 = s.1 ∧ c.2.1 = s.2
    · rw [if_pos hc, if_pos hc, addU_swap, ih]
    · rw [if_neg hc, if_neg hc, ih]
theorem sm_cons (c : Ct) (A : List Ct) (s : Sx) : sm (c :: A) s = sm (A ++ [c]) s := by
  rw [sm_snoc]
  show List.foldl _ (if c.1 = s.1 ∧ c.2.1 = s.2 then addU _ c.2.2 else _) A = _
  by_cases hc : c.1 = s.1 ∧ c.2.1 = s.2
  · rw [if_pos hc, if_pos hc, foldl_out]; rfl
  · rw [if_neg hc, if_neg hc]; rfl
theorem sm_perm {A B : List Ct} (h : A.Perm B) (s : Sx) : sm A s = sm B s := by
  induction h with
  | nil => rfl
  | cons x _ ih => rw [sm_cons, sm_cons, sm_snoc, sm_snoc, ih]
  | swap x y l =>
    rw [sm_cons, sm_snoc, sm_cons, sm_snoc, sm_cons, sm_snoc, sm_cons, sm_snoc]
    by_cases h1 : x.1 = s.1 ∧ x.2.1 = s.2 <;> by_cases h2 : y.1 = s.1 ∧ y.2.1 = s.2 <;> simp [h1, h2, addU_swap]
  | trans _ _ i1 i2 => exact i1.trans i2
/-- Is a time held? a key? -/
def Hld (A : List Ct) (t : Tm) : Prop := ∃ c ∈ A, c.1 = t
def Has (A : List Ct) (s : Sx) : Prop := ∃ c ∈ A, c.1 = s.1 ∧ c.2.1 = s.2
instance (A : List Ct) (t : Tm) : Decidable (Hld A t) := inferInstanceAs (Decidable (∃ c ∈ A, c.1 = t))
instance (A : List Ct) (s : Sx) : Decidable (Has A s) := inferInstanceAs (Decidable (∃ c ∈ A, c.1 = s.1 ∧ c.2.1 = s.2))
theorem hld_snoc (A : List Ct) (c : Ct) (t : Tm) : Hld (A ++ [c]) t ↔ Hld A t ∨ c.1 = t := by
  unfold Hld
  simp [or_and_right, exists_or]
theorem has_snoc (A : List Ct) (c : Ct) (s : Sx) : Has (A ++ [c]) s ↔ Has A s ∨ (c.1 = s.1 ∧ c.2.1 = s.2) := by
  unfold Has
  simp [or_and_right, exists_or]
theorem Has.hld {A : List Ct} {s : Sx} (h : Has A s) : Hld A s.1 := by
  obtain ⟨c, hc, h1, _⟩ := h
  exact ⟨c, hc, h1⟩
theorem sm_none {A : List Ct} {s : Sx} (h : ¬ Has A s) : sm A s = ⟨0, by decide⟩ := by
  unfold sm
  have : ∀ (l : List Ct) (n : Ku), (∀ c ∈ l, ¬ (c.1 = s.1 ∧ c.2.1 = s.2)) → l.foldl (fun n c => if c.1 = s.1 ∧ c.2.1 = s.2 then addU n c.2.2 else n) n = n := by
    intro l
    induction l with
    | nil => intros; rfl
    | cons c l ih =>
      intro n hl
      rw [List.foldl_cons, if_neg (hl c List.mem_cons_self)]
      exact ih n fun d hd => hl d (List.mem_cons_of_mem _ hd)
  exact this A _ fun c hc hcs => h ⟨c, hc, hcs⟩
/-- What is left when a time is told. -/
def lft (A : List Ct) (t : Tm) : List Ct := A.filter fun c => !decide (c.1 = t)
theorem lft_snoc (A : List Ct) (c : Ct) (t : Tm) : lft (A ++ [c]) t = if c.1 = t then lft A t else lft A t ++ [c] := by
  unfold lft
  rw [List.filter_append]
  by_cases h : c.1 = t <;> simp [h]
theorem hld_lft (A : List Ct) (t u : Tm) : Hld (lft A t) u ↔ Hld A u ∧ u ≠ t := by
  unfold Hld lft
  constructor
  · rintro ⟨c, hc, rfl⟩
    rw [List.mem_filter] at hc
    exact ⟨⟨c, hc.1, rfl⟩, by simpa using hc.2⟩
  · rintro ⟨⟨c, hc, rfl⟩, hne⟩
    exact ⟨c, List.mem_filter.2 ⟨hc, by simpa using hne⟩, rfl⟩
theorem has_lft (A : List Ct) (t : Tm) (s : Sx) : Has (lft A t) s ↔ Has A s ∧ s.1 ≠ t := by
  unfold Has lft
  constructor
  · rintro ⟨c, hc, h1, h2⟩
    rw [List.mem_filter] at hc
    exact ⟨⟨c, hc.1, h1, h2⟩, by rw [← h1]; simpa using hc.2⟩
  · rintro ⟨⟨c, hc, h1, h2⟩, hne⟩
    exact ⟨c, List.mem_filter.2 ⟨hc, by rw [h1]; simpa using hne⟩, h1, h2⟩
theorem sm_lft (A : List Ct) (t : Tm) (s : Sx) (h : s.1 ≠ t) : sm (lft A t) s = sm A s := by
  unfold sm lft
  generalize (⟨0, by decide⟩ : Ku) = n
  induction A generalizing n with
  | nil => rfl
  | cons c l ih =>
    by_cases hc : c.1 = t
    · rw [List.filter_cons_of_neg (by simp [hc]), List.foldl_cons, if_neg (fun (h2 : c.1 = s.1 ∧ c.2.1 = s.2) => h (h2.1.symm.trans hc)), ih]
    · rw [List.filter_cons_of_pos (by simp [hc]), List.foldl_cons, List.foldl_cons, ih]
theorem lft_len (A : List Ct) (t : Tm) : (lft A t).length ≤ A.length := List.length_filter_le _ _
theorem lft_nil_of {A : List Ct} {t : Tm} (h : ¬ Hld A t) : lft A t = A := by
  unfold lft
  rw [List.filter_eq_self]
  intro c hc
  simp only [Bool.not_eq_true', decide_eq_false_iff_not]
  exact fun e => h ⟨c, hc, e⟩

/-- Strictly rising lists of the same members are one list. -/
theorem rise_eq {α : Type} {lt : α → α → Prop} (irr : ∀ a, ¬ lt a a) (tr : ∀ a b c, lt a b → lt b c → lt a c) : ∀ {l m : List α}, l.Pairwise lt → m.Pairwise lt → (∀ x, x ∈ l ↔ x ∈ m) → l = m
  | [], m, _, _, h => by
    cases m with
    | nil => rfl
    | cons x m => exact absurd ((h x).2 List.mem_cons_self) (by simp)
  | a :: l, [], _, _, h => absurd ((h a).1 List.mem_cons_self) (by simp)
  | a :: l, b :: m, hl, hm, h => by
    rw [List.pairwise_cons] at hl hm
    have hab : a = b := by
      rcases List.mem_cons.1 ((h a).1 List.mem_cons_self) with e | ha
      · exact e
      · rcases List.mem_cons.1 ((h b).2 List.mem_cons_self) with e | hb
        · exact e.symm
        · exact absurd (tr _ _ _ (hm.1 a ha) (hl.1 b hb)) (irr b)
    subst hab
    congr 1
    refine rise_eq irr tr hl.2 hm.2 fun x => ?_
    constructor
    · intro hx
      rcases List.mem_cons.1 ((h x).1 (List.mem_cons_of_mem _ hx)) with e | hx'
      · subst e; exact absurd (hl.1 x hx) (irr x)
      · exact hx'
    · intro hx
      rcases List.mem_cons.1 ((h x).2 (List.mem_cons_of_mem _ hx)) with e | hx'
      · subst e; exact absurd (hm.1 x hx) (irr x)
      · exact hx'
def ltT (a b : Tm) : Prop := tol a b = true
instance (a b : Tm) : Decidable (ltT a b) := inferInstanceAs (Decidable (_ = _))
def ltK (a b : Ku) : Prop := a.1 < b.1
instance (a b : Ku) : Decidable (ltK a b) := inferInstanceAs (Decidable (_ < _))
theorem ltT_irr (a : Tm) : ¬ ltT a a := by unfold ltT; rw [ords.irr]; simp
theorem ltT_tr (a b c : Tm) (h : ltT a b) (k : ltT b c) : ltT a c := ords.tr a b c h k
theorem ltK_irr (a : Ku) : ¬ ltK a a := Int.lt_irrefl _
theorem ltK_tr (a b c : Ku) (h : ltK a b) (k : ltK b c) : ltK a c := Int.lt_trans h k
theorem ltT_tot {a b : Tm} (h1 : ¬ ltT a b) (hne : a ≠ b) : ltT b a := ords.tot a b hne (by simpa [ltT] using h1)
theorem ltK_tot {a b : Ku} (h1 : ¬ ltK a b) (hne : a ≠ b) : ltK b a := by
  unfold ltK at *
  have : a.1 ≠ b.1 := fun e => hne (Subtype.ext e)
  omega

section
variable {α : Type} [DecidableEq α]
/-- A list in its order with one put in. -/
def ins (lt : α → α → Prop) [DecidableRel lt] (x : α) (l : List α) : List α := l.takeWhile (fun y => decide (lt y x)) ++ x :: l.dropWhile (fun y => decide (lt y x))
omit [DecidableEq α] in
theorem mem_insT (lt : α → α → Prop) [DecidableRel lt] (x y : α) (l : List α) : y ∈ ins lt x l ↔ y = x ∨ y ∈ l := by
  unfold ins
  conv => rhs; rw [← List.takeWhile_append_dropWhile (p := fun y => decide (lt y x)) (l := l)]
  simp only [List.mem_append, List.mem_cons]
  constructor
  · rintro (h | h | h)
    · exact .inr (.inl h)
    · exact .inl h
    · exact .inr (.inr h)
  · rintro (h | h | h)
    · exact .inr (.inl h)
    · exact .inl h
    · exact .inr (.inr h)
omit [DecidableEq α] in
theorem takeWhile_all {p : α → Bool} {l : List α} {x : α} (h : x ∈ l.takeWhile p) : p x = true := by
  induction l with
  | nil => simp at h
  | cons a l ih =>
    rw [List.takeWhile_cons] at h
    split at h
    · rcases List.mem_cons.1 h with rfl | h
      · assumption
      · exact ih h
    · simp at h
omit [DecidableEq α] in
/-- In a rising list all behind the first that is not below x are not below it. -/
theorem dropWhile_all {lt : α → α → Prop} [DecidableRel lt] (tr : ∀ a b c, lt a b → lt b c → lt a c) {l : List α} (hl : l.Pairwise lt) {x y : α} (h : y ∈ l.dropWhile (fun y => decide (lt y x))) : ¬ lt y x := by
  induction l with
  | nil => simp at h
  | cons a l ih =>
    rw [List.pairwise_cons] at hl
    rw [List.dropWhile_cons] at h
    split at h
    · exact ih hl.2 h
    · rename_i ha
      have ha' : ¬ lt a x := by simpa using ha
      rcases List.mem_cons.1 h with rfl | h
      · exact ha'
      · exact fun hy => ha' (tr _ _ _ (hl.1 y h) hy)
omit [DecidableEq α] in
theorem ins_rise {lt : α → α → Prop} [DecidableRel lt] (tr : ∀ a b c, lt a b → lt b c → lt a c) (tot : ∀ {a b}, ¬ lt a b → a ≠ b → lt b a) {l : List α} (hl : l.Pairwise lt) {x : α} (hx : x ∉ l) : (ins lt x l).Pairwise lt := by
  unfold ins
  have hs := List.takeWhile_append_dropWhile (p := fun y => decide (lt y x)) (l := l)
  have hp : (l.takeWhile (fun y => decide (lt y x)) ++ l.dropWhile (fun y => decide (lt y x))).Pairwise lt := by rw [hs]; exact hl
  rw [List.pairwise_append] at hp
  have h1 : ∀ y ∈ l.takeWhile (fun y => decide (lt y x)), lt y x := fun y hy => by simpa using takeWhile_all hy
  have h2 : ∀ y ∈ l.dropWhile (fun y => decide (lt y x)), lt x y := fun y hy => by
    refine tot (dropWhile_all tr hl hy) fun e => hx ?_
    rw [← e, ← hs]
    exact List.mem_append_right _ hy
  rw [List.pairwise_append]
  refine ⟨hp.1, List.pairwise_cons.2 ⟨h2, hp.2.1⟩, fun a ha b hb => ?_⟩
  rcases List.mem_cons.1 hb with rfl | hb
  · exact h1 a ha
  · exact hp.2.2 a ha b hb
end
/-- The times that are held, in their order. -/
def tms (A : List Ct) : List Tm := A.foldl (fun l c => if c.1 ∈ l then l else ins ltT c.1 l) []
theorem tms_nil : tms [] = [] := rfl
theorem tms_snoc (A : List Ct) (c : Ct) : tms (A ++ [c]) = if c.1 ∈ tms A then tms A else ins ltT c.1 (tms A) := by unfold tms; rw [List.foldl_append]; rfl
theorem list_snoc {α : Type} {p : List α → Prop} (h0 : p []) (h1 : ∀ l x, p l → p (l ++ [x])) (l : List α) : p l := by
  rw [← List.reverse_reverse l]
  generalize l.reverse = m
  induction m with
  | nil => exact h0
  | cons x m ih => rw [List.reverse_cons]; exact h1 _ _ ih
theorem mem_tms (A : List Ct) : ∀ t, t ∈ tms A ↔ Hld A t := by
  induction A using list_snoc with
  | h0 => simp [tms, Hld]
  | h1 A c ih =>
    intro t
    rw [tms_snoc, hld_snoc]
    split
    · rename_i hc
      rw [ih]
      exact ⟨.inl, fun h => h.elim id fun e => e ▸ (ih _).1 hc⟩
    · rw [mem_insT, ih]
      constructor
      · rintro (rfl | h)
        · exact .inr rfl
        · exact .inl h
      · rintro (h | rfl)
        · exact .inr h
        · exact .inl rfl
theorem tms_rise (A : List Ct) : (tms A).Pairwise ltT := by
  induction A using list_snoc with
  | h0 => simp [tms]
  | h1 A c ih =>
    rw [tms_snoc]
    split
    · exact ih
    · rename_i hc
      exact ins_rise ltT_tr ltT_tot ih hc
theorem tms_eq {A : List Ct} {l : List Tm} (h1 : l.Pairwise ltT) (h2 : ∀ t, t ∈ l ↔ Hld A t) : l = tms A := rise_eq ltT_irr ltT_tr h1 (tms_rise A) fun t => (h2 t).trans (mem_tms A t).symm
theorem tms_len (A : List Ct) : (tms A).length ≤ A.length := by
  induction A using list_snoc with
  | h0 => simp [tms]
  | h1 A c ih =>
    rw [tms_snoc]
    split
    · simp; omega
    · have h := congrArg List.length (List.takeWhile_append_dropWhile (p := fun y => decide (ltT y c.1)) (l := tms A))
      rw [List.length_append] at h
      unfold ins
      simp only [List.length_append, List.length_cons, List.length_nil]
      omega
/-- The keys of a time, in their order; its records. -/
def kys (A : List Ct) (t : Tm) : List Ku := A.foldl (fun l c => if c.1 = t then (if c.2.1 ∈ l then l else ins ltK c.2.1 l) else l) []
theorem kys_snoc (A : List Ct) (c : Ct) (t : Tm) : kys (A ++ [c]) t = if c.1 = t then (if c.2.1 ∈ kys A t then kys A t else ins ltK c.2.1 (kys A t)) else kys A t := by unfold kys; rw [List.foldl_append]; rfl
theorem mem_kys (A : List Ct) (t : Tm) : ∀ k, k ∈ kys A t ↔ Has A (t, k) := by
  induction A using list_snoc with
  | h0 => simp [kys, Has]
  | h1 A c ih =>
    intro k
    rw [kys_snoc, has_snoc]
    split
    · rename_i h1
      split
      · rename_i hc
        rw [ih]
        exact ⟨.inl, fun h => h.elim id fun e => by have := (ih _).1 hc; rw [e.2] at this; exact this⟩
      · rw [mem_insT, ih]
        constructor
        · rintro (rfl | h)
          · exact .inr ⟨h1, rfl⟩
          · exact .inl h
        · rintro (h | h)
          · exact .inr h
          · exact .inl h.2.symm
    · rename_i h1
      rw [ih]
      exact ⟨.inl, fun h => h.elim id fun e => absurd e.1 h1⟩
theorem kys_rise (A : List Ct) (t : Tm) : (kys A t).Pairwise ltK := by
  induction A using list_snoc with
  | h0 => simp [kys]
  | h1 A c ih =>
    rw [kys_snoc]
    split
    · split
      · exact ih
      · rename_i hc
        exact ins_rise ltK_tr ltK_tot ih hc
    · exact ih
theorem kys_eq {A : List Ct} {t : Tm} {l : List Ku} (h1 : l.Pairwise ltK) (h2 : ∀ k, k ∈ l ↔ Has A (t, k)) : l = kys A t := rise_eq ltK_irr ltK_tr h1 (kys_rise A t) fun k => (h2 k).trans (mem_kys A t k).symm
theorem kys_len (A : List Ct) (t : Tm) : (kys A t).length ≤ A.length := by
  induction A using list_snoc with
  | h0 => simp [kys]
  | h1 A c ih =>
    rw [kys_snoc]
    split
    · split
      · simp; omega
      · have h := congrArg List.length (List.takeWhile_append_dropWhile (p := fun y => decide (ltK y c.2.1)) (l := kys A t))
        rw [List.length_append] at h
        unfold ins
        simp only [List.length_append, List.length_cons, List.length_nil]
        omega
    · simp; omega
def rcs (A : List Ct) (t : Tm) : List Rc := (kys A t).map fun k => (k, sm A (t, k))
theorem rcs_len (A : List Ct) (t : Tm) : (rcs A t).length = (kys A t).length := List.length_map _
theorem rcs_none {A : List Ct} {t : Tm} (h : ¬ Hld A t) : rcs A t = [] := by
  have : kys A t = [] := by
    rw [List.eq_nil_iff_forall_not_mem]
    exact fun k hk => h ((mem_kys A t k).1 hk).hld
  unfold rcs
  rw [this]; rfl
theorem rcs_some {A : List Ct} {t : Tm} (h : Hld A t) : rcs A t ≠ [] := by
  obtain ⟨c, hc, rfl⟩ := h
  have : c.2.1 ∈ kys A c.1 := (mem_kys A c.1 c.2.1).2 ⟨c, hc, rfl, rfl⟩
  intro e
  unfold rcs at e
  rw [List.map_eq_nil_iff] at e
  rw [e] at this
  cases this
/-- In whatever order. -/
theorem hld_perm {A B : List Ct} (h : A.Perm B) (t : Tm) : Hld A t ↔ Hld B t := ⟨fun ⟨c, hc, e⟩ => ⟨c, h.mem_iff.1 hc, e⟩, fun ⟨c, hc, e⟩ => ⟨c, h.mem_iff.2 hc, e⟩⟩
theorem has_perm {A B : List Ct} (h : A.Perm B) (s : Sx) : Has A s ↔ Has B s := ⟨fun ⟨c, hc, e⟩ => ⟨c, h.mem_iff.1 hc, e⟩, fun ⟨c, hc, e⟩ => ⟨c, h.mem_iff.2 hc, e⟩⟩
theorem tms_perm {A B : List Ct} (h : A.Perm B) : tms A = tms B := tms_eq (tms_rise A) fun t => (mem_tms A t).trans (hld_perm h t)
theorem rcs_perm {A B : List Ct} (h : A.Perm B) (t : Tm) : rcs A t = rcs B t := by
  unfold rcs
  rw [kys_eq (A := B) (kys_rise A t) fun k => (mem_kys A t k).trans (has_perm h _)]
  exact List.map_congr_left fun k _ => by rw [sm_perm h]
theorem lft_perm {A B : List Ct} (h : A.Perm B) (t : Tm) : (lft A t).Perm (lft B t) := h.filter _
end Go.Proofs.Ytijbmchgajhkeaa
