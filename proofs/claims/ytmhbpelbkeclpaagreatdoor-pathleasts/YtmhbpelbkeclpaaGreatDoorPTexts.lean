import Derived.Test.YtmhbpelbkeclpaaGreatDoorTexts
import Derived.Test.YtmhbpelbkeclpaaGreatDoorParse
namespace Go.Proofs.YtmhbpelbkeclpaaGreatDoor
open Go.RowKit Go.Shelf Go.Lib

/-- Every byte o becomes n. -/
def swp (o n : UInt8) (l : List UInt8) : List UInt8 := l.map fun c => if c = o then n else c
theorem swp_len (o n : UInt8) (l : List UInt8) : (swp o n l).length = l.length := by simp [swp]
theorem swp_append (o n : UInt8) (l m : List UInt8) : swp o n (l ++ m) = swp o n l ++ swp o n m := by simp [swp]
theorem swp_none {o n : UInt8} {l : List UInt8} (h : o ∉ l) : swp o n l = l := by
  induction l with
  | nil => rfl
  | cons c l ih =>
    simp only [List.mem_cons, not_or] at h
    have := ih h.2
    simp only [swp, List.map_cons] at this ⊢
    rw [this, if_neg (fun e => h.1 e.symm)]
theorem swp_back {o n : UInt8} {l : List UInt8} (h : n ∉ l) : swp n o (swp o n l) = l := by
  induction l with
  | nil => rfl
  | cons c l ih =>
    simp only [List.mem_cons, not_or] at h
    have := ih h.2
    simp only [swp, List.map_cons] at this ⊢
    rw [this]
    congr 1
    by_cases e : c = o
    · simp [e]
    · rw [if_neg e, if_neg (fun e' => h.1 e'.symm)]
/-- The text of a path, for an arity. -/
def ptext (u v x : Nat) (n : Int) : List UInt8 := 43 :: swp 46 44 (ttext u v x n)
/-- These bytes are the text of that path. -/
structure IsPText (l : List UInt8) (n : Int) (u v x : Nat) : Prop where
  hu : u < 18446744073709551616
  hv : v < 18446744073709551616
  hx : x < 18446744073709551616
  h2 : n < 2 → v = 0
  h3 : n < 3 → x = 0
  ht : l = ptext u v x n
theorem dec_nocom (u : Nat) : (44 : UInt8) ∉ decDigits u := fun h => by
  have := dec_digit u 44 h
  simp at this
theorem dec_noplus (u : Nat) : (43 : UInt8) ∉ decDigits u := fun h => by
  have := dec_digit u 43 h
  simp at this
theorem ttext_nocom (u v x : Nat) (n : Int) : (44 : UInt8) ∉ ttext u v x n := by
  have h1 := dec_nocom u; have h2 := dec_nocom v; have h3 := dec_nocom x
  unfold ttext
  split
  · exact h1
  · split <;> simp [h1, h2, h3]
/-- What Parse hands to stamp.Parse. -/
def inner (l : List UInt8) : List UInt8 := swp 44 46 (Lib.trimPrefix l [43])
theorem inner_ptext (u v x : Nat) (n : Int) : inner (ptext u v x n) = ttext u v x n := by
  have : Lib.trimPrefix (ptext u v x n) [43] = swp 46 44 (ttext u v x n) := by
    simp [ptext, Lib.trimPrefix, Lib.hasPrefix]
  rw [inner, this, swp_back (ttext_nocom u v x n)]
theorem isText_inner {l : List UInt8} {n : Int} {u v x : Nat} (h : IsPText l n u v x) : IsText (inner l) n u v x :=
  ⟨h.hu, h.hv, h.hx, h.h2, h.h3, by rw [h.ht, inner_ptext]⟩
theorem ptext_unique {l : List UInt8} {n : Nat} (h1 : 1 ≤ n) (h3 : n ≤ 3) {u v x u' v' x' : Nat} (h : IsPText l n u v x) (k : IsPText l n u' v' x') : u = u' ∧ v = v' ∧ x = x' := by
  exact text_unique (l := ⟨(inner l).toArray⟩) h1 h3 (isText_inner h) (isText_inner k)
/-- How path.Parse ends. -/
def PParseEnd (l : List UInt8) (n : Int) (e : Ending) : Prop :=
  ((n < 1 ∨ 3 < n) ∧ e = .returned (.tuple #[.agg #[.int .u64 0, .int .u64 0, .int .u64 0], .int .i64 10])) ∨
  ((1 ≤ n ∧ n ≤ 3) ∧ ((∃ u v x : Nat, IsPText l n u v x ∧ e = .returned (.tuple #[.agg #[.int .u64 u, .int .u64 v, .int .u64 x], .int .i64 0])) ∨
    ((∀ u v x : Nat, ¬ IsPText l n u v x) ∧ e = .returned (.tuple #[.agg #[.int .u64 0, .int .u64 0, .int .u64 0], .int .i64 11]))))
end Go.Proofs.YtmhbpelbkeclpaaGreatDoor
