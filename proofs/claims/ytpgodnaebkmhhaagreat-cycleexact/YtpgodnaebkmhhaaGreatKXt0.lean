import Derived.Test.YtpgodnaebkmhhaaGreatJ7
import Derived.Test.YtpgodnaebkmhhaaGreatKFndR
import Derived.Test.YtpgodnaebkmhhaaGreatKAln
import Derived.Test.YtpgodnaebkmhhaaGreatKKn
namespace Go.Proofs.YtpgodnaebkmhhaaGreat.Df
open Go.RowKit Go.Sort

/-- A list of the call's own, and where it lies. -/
structure Own (lo hi : Nat) (W : World) (v : Value) (L : List Int) : Prop where
  row : W.ownsRow 0 3 1 v L.length (fl EI L)
  lie : ∀ q, v.ownBlock = some q → lo ≤ q ∧ q < hi
section
variable {lo hi : Nat} {W W' : World} {v : Value} {L : List Int}
theorem Own.of (h : W.ownsRow lo 3 1 v L.length (fl EI L)) : Own lo W.heap.size W v L := ⟨owns_base h (Nat.zero_le _), fun q hq => h.lt q hq⟩
theorem Own.nil : Own lo hi W (.slice none 0 0) [] := ⟨World.ownsRow_nil _ _ _ _, fun q hq => by simp [Value.ownBlock] at hq⟩
theorem Own.below (h : Own lo hi W v L) (hb : Below W.heap.size W W') : Own lo hi W' v L := ⟨owns_below h.row hb, h.lie⟩
theorem Own.kp {S : Nat → Prop} (h : Own lo hi W v L) (hk : Kp S W W') (hS : ∀ q, lo ≤ q → q < hi → ¬ S q) : Own lo hi W' v L := ⟨owns_kp hk h.row (fun k hk' => hS k (h.lie k hk').1 (h.lie k hk').2), h.lie⟩
theorem Own.lz (h : Own lo hi W v L) : Lz EI W.heap.size W v L := owns_lz (E := EI) h.row
theorem Own.form (h : Own lo hi W v L) : ∃ p c, v = .slice p L.length c := by
  obtain ⟨q, m, c, rfl⟩ := owns_form h.row
  obtain ⟨rfl, _⟩ := owns_caps h.row _ _ _ rfl
  exact ⟨q, c, rfl⟩
end
def v3 (x y z : Value) : Nat → Value
  | 0 => x
  | 1 => y
  | _ => z
def c3 (x y z : List Int) : Nat → List Int
  | 0 => x
  | 1 => y
  | _ => z
theorem fam3 {a0 b0 a1 b1 a2 b2 : Nat} {W : World} {x y z : Value} {X Y Z : List Int} (h0 : Own a0 b0 W x X) (h1 : Own a1 b1 W y Y) (h2 : Own a2 b2 W z Z) (h02 : b0 ≤ a2) (h21 : b2 ≤ a1) (hm : a2 ≤ b2) : Fam EI 3 W 3 (v3 x y z) (c3 X Y Z) := by
  refine ⟨fun i hi => ?_, fun i j hi hj hij g hg hg' => ?_⟩
  · match i, hi with
    | 0, _ => exact h0.row
    | 1, _ => exact h1.row
    | 2, _ => exact h2.row
  · match i, j, hi, hj with
    | 0, 0, _, _ => exact hij rfl
    | 1, 1, _, _ => exact hij rfl
    | 2, 2, _, _ => exact hij rfl
    | 0, 1, _, _ => have := h0.lie g hg; have := h1.lie g hg'; omega
    | 0, 2, _, _ => have := h0.lie g hg; have := h2.lie g hg'; omega
    | 1, 0, _, _ => have := h1.lie g hg; have := h0.lie g hg'; omega
    | 1, 2, _, _ => have := h1.lie g hg; have := h2.lie g hg'; omega
    | 2, 0, _, _ => have := h2.lie g hg; have := h0.lie g hg'; omega
    | 2, 1, _, _ => have := h2.lie g hg; have := h1.lie g hg'; omega
theorem fam3' {a0 b0 a1 b1 a2 b2 : Nat} {W : World} {x y z : Value} {X Y Z : List Int} (h0 : Own a0 b0 W x X) (h1 : Own a1 b1 W y Y) (h2 : Own a2 b2 W z Z) (h01 : b0 ≤ a1) (h12 : b1 ≤ a2) (hm : a1 ≤ b1) : Fam EI 3 W 3 (v3 x y z) (c3 X Y Z) := by
  refine ⟨fun i hi => ?_, fun i j hi hj hij g hg hg' => ?_⟩
  · match i, hi with
    | 0, _ => exact h0.row
    | 1, _ => exact h1.row
    | 2, _ => exact h2.row
  · match i, j, hi, hj with
    | 0, 0, _, _ => exact hij rfl
    | 1, 1, _, _ => exact hij rfl
    | 2, 2, _, _ => exact hij rfl
    | 0, 1, _, _ => have := h0.lie g hg; have := h1.lie g hg'; omega
    | 0, 2, _, _ => have := h0.lie g hg; have := h2.lie g hg'; omega
    | 1, 0, _, _ => have := h1.lie g hg; have := h0.lie g hg'; omega
    | 1, 2, _, _ => have := h1.lie g hg; have := h2.lie g hg'; omega
    | 2, 0, _, _ => have := h2.lie g hg; have := h0.lie g hg'; omega
    | 2, 1, _, _ => have := h2.lie g hg; have := h1.lie g hg'; omega
theorem sq3 {a0 b0 a1 b1 a2 b2 : Nat} {W : World} {x y z : Value} {X Y Z : List Int} (h0 : Own a0 b0 W x X) (h1 : Own a1 b1 W y Y) (h2 : Own a2 b2 W z Z) {q : Nat} (h : SqI 3 (v3 x y z) q) : (a0 ≤ q ∧ q < b0) ∨ (a1 ≤ q ∧ q < b1) ∨ (a2 ≤ q ∧ q < b2) := by
  obtain ⟨i, hi, e⟩ := h
  match i, hi with
  | 0, _ => exact Or.inl (h0.lie q e)
  | 1, _ => exact Or.inr (Or.inl (h1.lie q e))
  | 2, _ => exact Or.inr (Or.inr (h2.lie q e))
/-- A list and an error are answered. -/
def Ans (L : List Int) (E : Int) (w : World) (r : Ending) (w' : World) : Prop := Below w.heap.size w w' ∧ ∃ d, r = .returned (.tuple #[d, .int .i64 E]) ∧ Own w.heap.size w'.heap.size w' d L
theorem od_det (ls : List (List Int)) : ∃ (L : List Int) (E : Int), L.length ≤ ls.length ∧ ∀ w r w', Od w ls.length ls r w' → Ans L E w r w' := by
  cases h : ordN ls.length ls ls.length with
  | none =>
    refine ⟨[], 27, Nat.zero_le _, fun w r w' ⟨hb, hr⟩ => ?_⟩
    rcases hr with ⟨_, rfl⟩ | ⟨o, f, d, e, _⟩
    · exact ⟨hb, _, rfl, Own.nil⟩
    · rw [h] at e
      cases e
  | some x =>
    obtain ⟨o, f⟩ := x
    obtain ⟨us, rfl, hor⟩ := ord_some h
    refine ⟨ints us, 0, by rw [List.length_map, hor.len]; exact Nat.le_refl _, fun w r w' ⟨hb, hr⟩ => ?_⟩
    rcases hr with ⟨e, _⟩ | ⟨o, f', d, e, rfl, hrow⟩
    · rw [h] at e
      cases e
    · rw [h] at e
      simp only [Option.some.injEq, Prod.mk.injEq] at e
      obtain ⟨rfl, _⟩ := e
      exact ⟨hb, d, rfl, Own.of hrow⟩
theorem rd_det (ls : List (List Int)) : ∃ (L : List Int) (E : Int), L.length ≤ ls.length ∧ ∀ w r w', Rd w ls r w' → Ans L E w r w' := by
  cases h : ordN ls.length ls ls.length with
  | none =>
    refine ⟨[], 27, Nat.zero_le _, fun w r w' ⟨hb, hr⟩ => ?_⟩
    rcases hr with ⟨_, rfl⟩ | ⟨us, f, d, e, _⟩
    · exact ⟨hb, _, rfl, Own.nil⟩
    · rw [h] at e
      cases e
  | some x =>
    obtain ⟨o, f⟩ := x
    obtain ⟨us, rfl, hor⟩ := ord_some h
    refine ⟨fnL ls.length (rkN ls us), 0, by rw [fnL_len]; exact Nat.le_refl _, fun w r w' ⟨hb, hr⟩ => ?_⟩
    rcases hr with ⟨e, _⟩ | ⟨us', f', d, e, rfl, hrow⟩
    · rw [h] at e
      cases e
    · rw [h] at e
      simp only [Option.some.injEq, Prod.mk.injEq] at e
      obtain rfl : us = us' := ints_inj e.1
      exact ⟨hb, d, rfl, Own.of (owns_re hrow (fnL_len _ _).symm rfl)⟩
theorem fn_det (ls : List (List Int)) (h0 : ∀ l ∈ ls, ∀ x ∈ l, (0 : Int) ≤ x) : ∃ (L : List Int), L.length ≤ ls.length ∧ ∀ w r w', Fn w ls r w' → Below w.heap.size w w' ∧ ∃ d, r = .returned d ∧ Own w.heap.size w'.heap.size w' d L := by
  refine ⟨ints ((findN ls ls.length).getD []), ?_, fun w r w' ⟨v, hr, hb, hrow⟩ => ⟨hb, v, hr, Own.of (owns_re hrow (by rw [List.length_map]) rfl)⟩⟩
  have h1 := findN_ok h0 ls.length
  rw [List.length_map]
  revert h1
  cases findN ls ls.length with
  | none => intro _; exact Nat.zero_le _
  | some l =>
    rintro ⟨q, _, _, _, h, _⟩
    exact h
end Go.Proofs.YtpgodnaebkmhhaaGreat.Df
