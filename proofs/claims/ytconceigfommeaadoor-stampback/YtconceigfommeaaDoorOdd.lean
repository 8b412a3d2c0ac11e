import Derived.Test.YtconceigfommeaaDoorTaken
namespace Go.Proofs.YtconceigfommeaaDoor
open Go.RowKit Go.Shelf Go.Lib

theorem text_bytes (u v x : Nat) (n : Int) : ∀ c ∈ ttext u v x n, c = 46 ∨ (48 ≤ c.toNat ∧ c.toNat ≤ 57) := by
  intro c hc
  unfold ttext at hc
  split at hc
  · exact Or.inr (dec_digit u c hc)
  · split at hc
    · rcases List.mem_append.1 hc with h | h
      · exact Or.inr (dec_digit u c h)
      · rcases List.mem_cons.1 h with h | h
        · exact Or.inl h
        · exact Or.inr (dec_digit v c h)
    · rcases List.mem_append.1 hc with h | h
      · exact Or.inr (dec_digit u c h)
      · rcases List.mem_cons.1 h with h | h
        · exact Or.inl h
        · rcases List.mem_append.1 h with h | h
          · exact Or.inr (dec_digit v c h)
          · rcases List.mem_cons.1 h with h | h
            · exact Or.inl h
            · exact Or.inr (dec_digit x c h)
theorem dec_count (u : Nat) : (decDigits u).count 46 = 0 := List.count_eq_zero.2 (dec_nopt u)
theorem text_count (u v x n : Nat) (h1 : 1 ≤ n) (h3 : n ≤ 3) : (ttext u v x n).count 46 = n - 1 := by
  have : n = 1 ∨ n = 2 ∨ n = 3 := by omega
  rcases this with rfl | rfl | rfl <;> simp [ttext, dec_count]

/-- No time's text for that arity. -/
def NoText (l : List UInt8) (n : Nat) : Prop := ∀ u v x : Nat, ¬ IsText l n u v x
theorem noText_byte {l : List UInt8} {n : Nat} (c : UInt8) (hc : c ∈ l) (h1 : c ≠ 46) (h2 : ¬ (48 ≤ c.toNat ∧ c.toNat ≤ 57)) : NoText l n := fun u v x h => by
  have := h.ht
  rw [this] at hc
  rcases text_bytes u v x n c hc with h | h
  · exact h1 h
  · exact h2 h
theorem noText_count {l : List UInt8} {n : Nat} (h1 : 1 ≤ n) (h3 : n ≤ 3) (hc : l.count 46 ≠ n - 1) : NoText l n := fun u v x h => by
  have := h.ht
  rw [this, text_count u v x n h1 h3] at hc
  exact hc rfl
theorem dec_zero_ahead {u u' : Nat} (hu : u < 18446744073709551616) (hu' : u' < 18446744073709551616) (h : decDigits u' = 48 :: decDigits u) : False := by
  have h1 := parse_dec u' hu'
  rw [h, parseUintM] at h1
  have h48 : (48 : UInt8).toNat = 48 := rfl
  rw [h48, if_pos (by omega), if_neg (by omega), if_neg (by omega)] at h1
  have h2 := parse_dec u hu
  rw [show 0 * 10 + (48 - 48) = 0 from rfl] at h1
  rw [h1] at h2
  have h3 := NumEnd.ok.inj h2
  rw [h3] at h
  have := congrArg List.length h
  simp at this
theorem noText_zero {u v x n : Nat} (h1 : 1 ≤ n) (h3 : n ≤ 3) (hu : u < 18446744073709551616) : NoText (48 :: ttext u v x n) n := fun u' v' x' h => by
  have hno : (46 : UInt8) ∉ 48 :: decDigits u := by
    intro hm
    rcases List.mem_cons.1 hm with h | h
    · simp at h
    · exact dec_nopt u h
  have e1 : 48 :: ttext u v x n = joinP ([48 :: decDigits u, decDigits v, decDigits x].take n) := by
    have : n = 1 ∨ n = 2 ∨ n = 3 := by omega
    rcases this with rfl | rfl | rfl <;> simp [ttext, joinP]
  have hl : (⟨(48 :: ttext u v x n).toArray⟩ : ByteArray).data.toList = 48 :: ttext u v x n := rfl
  have s1 := spl_of ([48 :: decDigits u, decDigits v, decDigits x].take n) (by
      intro p hp
      have hp' := List.mem_of_mem_take hp
      simp at hp'
      rcases hp' with rfl | rfl | rfl
      · exact hno
      · exact dec_nopt _
      · exact dec_nopt _) (by
      intro e
      have := congrArg List.length e
      simp at this; omega) 3 (by simp; omega) ⟨(48 :: ttext u v x n).toArray⟩ (hl.trans e1)
  have s2 := spl_of ([decDigits u', decDigits v', decDigits x'].take n) (by
      intro p hp
      have hp' := List.mem_of_mem_take hp
      simp at hp'
      rcases hp' with rfl | rfl | rfl <;> exact dec_nopt _) (by
      intro e
      have := congrArg List.length e
      simp at this; omega) 3 (by simp; omega) ⟨(48 :: ttext u v x n).toArray⟩ ((hl.trans h.ht).trans (text_parts u' v' x' n h1 h3))
  rw [s1] at s2
  have h0 : 48 :: decDigits u = decDigits u' := by
    have : n = 1 ∨ n = 2 ∨ n = 3 := by omega
    rcases this with rfl | rfl | rfl
    · simpa using s2
    · exact (by simpa using s2 : 48 :: decDigits u = decDigits u' ∧ _).1
    · exact (by simpa using s2 : 48 :: decDigits u = decDigits u' ∧ _).1
  exact dec_zero_ahead hu h.hu h0.symm

/-- The seven odd texts. -/
def odds (l : List UInt8) : List (List UInt8) := [48 :: l, 43 :: l, l ++ [46], l ++ [32], 45 :: l, l ++ [46, 48], 46 :: l]
theorem odds_no {u v x n : Nat} (h1 : 1 ≤ n) (h3 : n ≤ 3) (hu : u < 18446744073709551616) : ∀ o ∈ odds (ttext u v x n), NoText o n := by
  have hc := text_count u v x n h1 h3
  intro o ho
  simp only [odds, List.mem_cons, List.not_mem_nil, or_false] at ho
  rcases ho with rfl | rfl | rfl | rfl | rfl | rfl | rfl
  · exact noText_zero h1 h3 hu
  · exact noText_byte 43 (by simp) (by decide) (by decide)
  · exact noText_count h1 h3 (by simp [hc])
  · exact noText_byte 32 (by simp) (by decide) (by decide)
  · exact noText_byte 45 (by simp) (by decide) (by decide)
  · exact noText_count h1 h3 (by simp [hc])
  · exact noText_count h1 h3 (by simp [hc])
end Go.Proofs.YtconceigfommeaaDoor
