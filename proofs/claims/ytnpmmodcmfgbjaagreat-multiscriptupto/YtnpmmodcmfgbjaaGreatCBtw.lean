import Derived.Test.YtnpmmodcmfgbjaaGreatCPure
namespace Go.Proofs.YtnpmmodcmfgbjaaGreat
open Go.RowKit

section
variable {α : Type} [DecidableEq α] (fst : α → α → Bool)
/-- What leads from one list to the other, both in order. -/
def btw : List α → List α → List (α × Int)
  | [], [] => []
  | [], b :: bs => (b, 1) :: btw [] bs
  | a :: as, [] => (a, -1) :: btw as []
  | a :: as, b :: bs => if a = b then btw as bs else if fst a b = true then (a, -1) :: btw as (b :: bs) else (b, 1) :: btw (a :: as) bs
termination_by l m => l.length + m.length
end
section
variable {α : Type} [DecidableEq α] {bel fst : α → α → Bool}
theorem btw_mem (O : Ords bel fst) (l m : List α) (hl : l.Pairwise fun a b => fst a b = true) (hm : m.Pairwise fun a b => fst a b = true) (p : α × Int) :
    p ∈ btw fst l m ↔ (p.1 ∈ l ∧ p.1 ∉ m ∧ p.2 = -1) ∨ (p.1 ∈ m ∧ p.1 ∉ l ∧ p.2 = 1) := by
  induction l, m using btw.induct fst with
  | case1 => simp [btw]
  | case2 b bs ih =>
    obtain ⟨_, hm2⟩ := List.pairwise_cons.1 hm
    rw [btw, List.mem_cons, ih hl hm2]
    obtain ⟨x, n⟩ := p
    simp only [Prod.mk.injEq, List.not_mem_nil, List.mem_cons, false_and, false_or, not_false_eq_true, true_and]
    constructor
    · rintro (⟨rfl, rfl⟩ | ⟨h1, h2⟩)
      · exact ⟨Or.inl rfl, rfl⟩
      · exact ⟨Or.inr h1, h2⟩
    · rintro ⟨rfl | h1, h2⟩
      · exact Or.inl ⟨rfl, h2⟩
      · exact Or.inr ⟨h1, h2⟩
  | case3 a as ih =>
    obtain ⟨_, hl2⟩ := List.pairwise_cons.1 hl
    rw [btw, List.mem_cons, ih hl2 hm]
    obtain ⟨x, n⟩ := p
    simp only [Prod.mk.injEq, List.not_mem_nil, List.mem_cons, false_and, or_false, not_false_eq_true, true_and]
    constructor
    · rintro (⟨rfl, rfl⟩ | ⟨h1, h2⟩)
      · exact ⟨Or.inl rfl, rfl⟩
      · exact ⟨Or.inr h1, h2⟩
    · rintro ⟨rfl | h1, h2⟩
      · exact Or.inl ⟨rfl, h2⟩
      · exact Or.inr ⟨h1, h2⟩
  | case4 as a bs ih =>
    obtain ⟨hl1, hl2⟩ := List.pairwise_cons.1 hl
    obtain ⟨hm1, hm2⟩ := List.pairwise_cons.1 hm
    rw [btw, if_pos rfl, ih hl2 hm2]
    have n1 : ∀ x ∈ as, x ≠ a := fun x hx e => by subst e; have := hl1 x hx; rw [O.irr] at this; cases this
    have n2 : ∀ x ∈ bs, x ≠ a := fun x hx e => by subst e; have := hm1 x hx; rw [O.irr] at this; cases this
    simp only [List.mem_cons, not_or]
    constructor
    · rintro (⟨h1, h2, h3⟩ | ⟨h1, h2, h3⟩)
      · exact Or.inl ⟨Or.inr h1, ⟨n1 _ h1, h2⟩, h3⟩
      · exact Or.inr ⟨Or.inr h1, ⟨n2 _ h1, h2⟩, h3⟩
    · rintro (⟨h1, ⟨h2, h3⟩, h4⟩ | ⟨h1, ⟨h2, h3⟩, h4⟩)
      · exact Or.inl ⟨h1.resolve_left h2, h3, h4⟩
      · exact Or.inr ⟨h1.resolve_left h2, h3, h4⟩
  | case5 a as b bs hab hf ih =>
    obtain ⟨hl1, hl2⟩ := List.pairwise_cons.1 hl
    obtain ⟨hm1, _⟩ := List.pairwise_cons.1 hm
    rw [btw, if_neg hab, if_pos hf, List.mem_cons, ih hl2 hm]
    have na : a ∉ b :: bs := fun h => by
      have : fst a a = true := by
        rcases List.mem_cons.1 h with h | h
        · exact absurd h hab
        · exact O.tr _ _ _ hf (hm1 a h)
      rw [O.irr] at this
      cases this
    have n1 : a ∉ as := fun h => by have := hl1 a h; rw [O.irr] at this; cases this
    obtain ⟨x, n⟩ := p
    simp only [Prod.mk.injEq]
    constructor
    · rintro (⟨rfl, rfl⟩ | ⟨h1, h2, h3⟩ | ⟨h1, h2, h3⟩)
      · exact Or.inl ⟨List.mem_cons_self .., na, rfl⟩
      · exact Or.inl ⟨List.mem_cons_of_mem _ h1, h2, h3⟩
      · exact Or.inr ⟨h1, fun e => by
          rcases List.mem_cons.1 e with rfl | e
          · exact na h1
          · exact h2 e, h3⟩
    · rintro (⟨h1, h2, h3⟩ | ⟨h1, h2, h3⟩)
      · rcases List.mem_cons.1 h1 with rfl | h1
        · exact Or.inl ⟨rfl, h3⟩
        · exact Or.inr (Or.inl ⟨h1, h2, h3⟩)
      · exact Or.inr (Or.inr ⟨h1, fun e => h2 (List.mem_cons_of_mem _ e), h3⟩)
  | case6 a as b bs hab hf ih =>
    obtain ⟨hl1, _⟩ := List.pairwise_cons.1 hl
    obtain ⟨hm1, hm2⟩ := List.pairwise_cons.1 hm
    rw [btw, if_neg hab, if_neg hf, List.mem_cons, ih hl hm2]
    have hba : fst b a = true := O.tot _ _ hab (by cases e : fst a b with | true => exact absurd e hf | false => rfl)
    have nb : b ∉ a :: as := fun h => by
      have : fst b b = true := by
        rcases List.mem_cons.1 h with h | h
        · exact absurd h.symm hab
        · exact O.tr _ _ _ hba (hl1 b h)
      rw [O.irr] at this
      cases this
    obtain ⟨x, n⟩ := p
    simp only [Prod.mk.injEq]
    constructor
    · rintro (⟨rfl, rfl⟩ | ⟨h1, h2, h3⟩ | ⟨h1, h2, h3⟩)
      · exact Or.inr ⟨List.mem_cons_self .., nb, rfl⟩
      · exact Or.inl ⟨h1, fun e => by
          rcases List.mem_cons.1 e with rfl | e
          · exact nb h1
          · exact h2 e, h3⟩
      · exact Or.inr ⟨List.mem_cons_of_mem _ h1, h2, h3⟩
    · rintro (⟨h1, h2, h3⟩ | ⟨h1, h2, h3⟩)
      · exact Or.inr (Or.inl ⟨h1, fun e => h2 (List.mem_cons_of_mem _ e), h3⟩)
      · rcases List.mem_cons.1 h1 with rfl | h1
        · exact Or.inl ⟨rfl, h3⟩
        · exact Or.inr (Or.inr ⟨h1, h2, h3⟩)
theorem btw_sorted (O : Ords bel fst) (l m : List α) (hl : l.Pairwise fun a b => fst a b = true) (hm : m.Pairwise fun a b => fst a b = true) : (btw fst l m).Pairwise fun p q => fst p.1 q.1 = true := by
  induction l, m using btw.induct fst with
  | case1 => rw [btw]; exact List.Pairwise.nil
  | case2 b bs ih =>
    obtain ⟨hm1, hm2⟩ := List.pairwise_cons.1 hm
    rw [btw]
    refine List.pairwise_cons.2 ⟨fun q hq => ?_, ih hl hm2⟩
    rcases (btw_mem O _ _ hl hm2 q).1 hq with ⟨h1, _⟩ | ⟨h1, _⟩
    · cases h1
    · exact hm1 _ h1
  | case3 a as ih =>
    obtain ⟨hl1, hl2⟩ := List.pairwise_cons.1 hl
    rw [btw]
    refine List.pairwise_cons.2 ⟨fun q hq => ?_, ih hl2 hm⟩
    rcases (btw_mem O _ _ hl2 hm q).1 hq with ⟨h1, _⟩ | ⟨h1, _⟩
    · exact hl1 _ h1
    · cases h1
  | case4 as a bs ih =>
    rw [btw, if_pos rfl]
    exact ih (List.pairwise_cons.1 hl).2 (List.pairwise_cons.1 hm).2
  | case5 a as b bs hab hf ih =>
    obtain ⟨hl1, hl2⟩ := List.pairwise_cons.1 hl
    obtain ⟨hm1, _⟩ := List.pairwise_cons.1 hm
    rw [btw, if_neg hab, if_pos hf]
    refine List.pairwise_cons.2 ⟨fun q hq => ?_, ih hl2 hm⟩
    rcases (btw_mem O _ _ hl2 hm q).1 hq with ⟨h1, _⟩ | ⟨h1, _⟩
    · exact hl1 _ h1
    · rcases List.mem_cons.1 h1 with h1 | h1
      · rw [h1]
        exact hf
      · exact O.tr _ _ _ hf (hm1 _ h1)
  | case6 a as b bs hab hf ih =>
    obtain ⟨hl1, _⟩ := List.pairwise_cons.1 hl
    obtain ⟨hm1, hm2⟩ := List.pairwise_cons.1 hm
    have hba : fst b a = true := O.tot _ _ hab (by cases e : fst a b with | true => exact absurd e hf | false => rfl)
    rw [btw, if_neg hab, if_neg hf]
    refine List.pairwise_cons.2 ⟨fun q hq => ?_, ih hl hm2⟩
    rcases (btw_mem O _ _ hl hm2 q).1 hq with ⟨h1, _⟩ | ⟨h1, _⟩
    · rcases List.mem_cons.1 h1 with h1 | h1
      · rw [h1]
        exact hba
      · exact O.tr _ _ _ hba (hl1 _ h1)
    · exact hm1 _ h1
theorem btw_keys (O : Ords bel fst) {l m : List α} (hl : l.Pairwise fun a b => fst a b = true) (hm : m.Pairwise fun a b => fst a b = true) : ((btw fst l m).map Prod.fst).Pairwise (fun a b => fst a b = true) ∧ (∀ x, x ∈ (btw fst l m).map Prod.fst ↔ (x ∈ l ∧ x ∉ m) ∨ (x ∈ m ∧ x ∉ l)) ∧ btw fst l m = ((btw fst l m).map Prod.fst).map fun t => (t, if t ∈ m then 1 else -1) := by
  refine ⟨List.pairwise_map.2 (btw_sorted O l m hl hm), fun x => ?_, ?_⟩
  · rw [List.mem_map]
    constructor
    · rintro ⟨p, hp, rfl⟩
      rcases (btw_mem O l m hl hm p).1 hp with ⟨h1, h2, _⟩ | ⟨h1, h2, _⟩
      · exact Or.inl ⟨h1, h2⟩
      · exact Or.inr ⟨h1, h2⟩
    · rintro (⟨h1, h2⟩ | ⟨h1, h2⟩)
      · exact ⟨(x, -1), (btw_mem O l m hl hm _).2 (Or.inl ⟨h1, h2, rfl⟩), rfl⟩
      · exact ⟨(x, 1), (btw_mem O l m hl hm _).2 (Or.inr ⟨h1, h2, rfl⟩), rfl⟩
  · rw [List.map_map]
    have : ∀ p ∈ btw fst l m, ((fun t => (t, if t ∈ m then (1 : Int) else -1)) ∘ Prod.fst) p = p := fun p hp => by
      rcases (btw_mem O l m hl hm p).1 hp with ⟨_, h2, h3⟩ | ⟨h1, _, h3⟩
      · show (p.1, if p.1 ∈ m then (1 : Int) else -1) = p
        rw [if_neg h2, ← h3]
      · show (p.1, if p.1 ∈ m then (1 : Int) else -1) = p
        rw [if_pos h1, ← h3]
    exact (List.map_congr_left this).trans (List.map_id' _) |>.symm
theorem btw_len (l m : List α) : (btw fst l m).length ≤ l.length + m.length := by
  induction l, m using btw.induct fst with
  | case1 => rw [btw]; exact Nat.zero_le _
  | case2 b bs ih => rw [btw]; simp at ih ⊢; omega
  | case3 a as ih => rw [btw]; simp at ih ⊢; omega
  | case4 as a bs ih => rw [btw, if_pos rfl]; simp at ih ⊢; omega
  | case5 a as b bs hab hf ih => rw [btw, if_neg hab, if_pos hf]; simp at ih ⊢; omega
  | case6 a as b bs hab hf ih => rw [btw, if_neg hab, if_neg hf]; simp at ih ⊢; omega
end
end Go.Proofs.YtnpmmodcmfgbjaaGreat
