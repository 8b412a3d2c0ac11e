import Derived.Test.YtngnfglnfkhheaaGreatJ2
namespace Go.Proofs.YtngnfglnfkhheaaGreat.Df
open Go.RowKit Go.Sort

theorem Wp.join {ls : List (List Int)} {q r : Nat} {y : List Nat} (h2 : Wp ls y r) (hy : y.head? = some q) : ∀ (x : List Nat), Wp ls x q → Wp ls (x ++ y) r := by
  intro x
  induction x with
  | nil => intro _; exact h2
  | cons v x ih =>
    intro h1
    obtain ⟨u, hu, h3⟩ := h1.next
    rcases h3 with ⟨rfl, rfl⟩ | ⟨h4, h5⟩
    · exact Wp.cons hu h2 hy
    · refine Wp.cons hu (ih h5) ?_
      cases x with
      | nil => cases h4
      | cons a x => exact h4
/-- A cycle goes through each of its places. -/
theorem Wp.turn {ls : List (List Int)} {q : Nat} {l : List Nat} (h : Wp ls l q) (hq : l.head? = some q) {p : Nat} (hp : p ∈ l) : ∃ m, Ry ls p m p := by
  obtain ⟨a, b, rfl⟩ := List.append_of_mem hp
  have h1 : Wp ls (p :: b) q := h.back
  have h2 : Wp ls a p := h.front
  cases a with
  | nil =>
    simp at hq
    subst hq
    exact ⟨_, p :: b, rfl, h1, Nat.le_refl _⟩
  | cons v a =>
    simp at hq
    subst hq
    exact ⟨_, (p :: b) ++ (v :: a), rfl, Wp.join h2 rfl _ h1, Nat.le_refl _⟩
/-- In the shortest cycle no place stands twice. -/
theorem ring_nodup {ls : List (List Int)} {q : Nat} {l : List Nat} (h : Wp ls l q) (hq : l.head? = some q) (hs : ¬ Ry ls q (l.length - 1) q) : l.Nodup := by
  obtain ⟨m, h1, h2, h3, h4⟩ := Wp.slim l h
  have hl := sub_le m l h3 h4
  by_cases e : m.length ≤ l.length - 1
  · exact absurd ⟨m, by rw [h2, hq], h1, e⟩ hs
  · have hml : m.length = l.length := by omega
    rw [List.nodup_iff_count]
    intro x
    apply Classical.byContradiction
    intro hc
    have hc2 : 2 ≤ l.count x := by omega
    have hx : x ∈ l := List.count_pos_iff.1 (by omega)
    have h5 := sub_le m (l.erase x) h3 (fun y hy => by
      by_cases ey : y = x
      · subst ey
        refine List.count_pos_iff.1 ?_
        rw [List.count_erase_self]
        omega
      · exact (List.mem_erase_of_ne ey).2 (h4 y hy))
    have h6 := List.length_erase_of_mem hx
    have h7 := List.length_pos_of_mem hx
    omega
/-- Each step of a way. -/
theorem Wp.step {ls : List (List Int)} {q : Nat} : ∀ (l : List Nat) (i p : Nat), Wp ls l q → l[i]? = some p → Sp ls p ((l[i + 1]?).getD q) := by
  intro l
  induction l with
  | nil => intro i p _ hi; simp at hi
  | cons v l ih =>
    intro i p h hi
    cases i with
    | zero =>
      simp at hi
      subst hi
      obtain ⟨u, hu, h2⟩ := h.next
      rcases h2 with ⟨rfl, rfl⟩ | ⟨h3, _⟩
      · exact hu
      · cases l with
        | nil => cases h3
        | cons a l =>
          simp at h3
          subst h3
          exact hu
    | succ i =>
      have := ih i p h.tail (by simpa using hi)
      simpa using this
/-- What is found is a ring. -/
structure Rg (ls : List (List Int)) (l : List Nat) : Prop where
  lt : ∀ p ∈ l, p < ls.length
  nd : l.Nodup
  lo : ∀ (p q : Nat), l.head? = some q → p ∈ l → q ≤ p
  st : ∀ (i p q : Nat), l[i]? = some p → l[(i + 1) % l.length]? = some q → Sp ls p q
theorem rg_find {ls : List (List Int)} (h0 : ∀ l ∈ ls, ∀ x ∈ l, (0 : Int) ≤ x) : Rg ls ((findN ls ls.length).getD []) := by
  have h1 := findN_ok h0 ls.length
  revert h1
  cases findN ls ls.length with
  | none => intro _; exact ⟨(fun p hp => by cases hp), List.nodup_nil, (fun p q e => by cases e), (fun i p q e => by simp at e)⟩
  | some l =>
    rintro ⟨q, _, h2, h3, _, h5, h6⟩
    refine ⟨Wp.lt l h3, ring_nodup h3 h2 h6, fun p q' e hp => ?_, fun i p q' hi hj => ?_⟩
    · change l.head? = some q' at e
      rw [h2] at e
      obtain rfl := Option.some.inj e
      obtain ⟨m, hm⟩ := Wp.turn h3 h2 hp
      apply Classical.byContradiction
      intro hlt
      exact h5 p (by omega) m hm
    · change l[i]? = some p at hi
      change l[(i + 1) % l.length]? = some q' at hj
      have hil := (List.getElem?_eq_some_iff.1 hi).1
      have hs := Wp.step l i p h3 hi
      by_cases e : i + 1 < l.length
      · rw [Nat.mod_eq_of_lt e] at hj
        rw [hj] at hs
        exact hs
      · have e2 : i + 1 = l.length := by omega
        rw [e2, Nat.mod_self] at hj
        rw [e2, List.getElem?_eq_none (Nat.le_refl _)] at hs
        rw [List.head?_eq_getElem?, hj] at h2
        obtain rfl := Option.some.inj h2
        exact hs
end Go.Proofs.YtngnfglnfkhheaaGreat.Df
