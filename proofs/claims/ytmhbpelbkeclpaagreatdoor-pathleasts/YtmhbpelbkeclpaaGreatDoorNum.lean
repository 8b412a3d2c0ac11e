import Derived.Lib.ItoaNum
import Derived.Lib.ParseIntBCases
import Derived.Lib.ParseIntB
namespace Go.Proofs.YtmhbpelbkeclpaaGreatDoor
open Go.Lib

theorem dec_small {u : Nat} (h : u < 10) : decDigits u = [UInt8.ofNat (48 + u)] := by rw [decDigits, dif_pos h]
theorem dec_big {u : Nat} (h : ¬ u < 10) : decDigits u = decDigits (u / 10) ++ [UInt8.ofNat (48 + u % 10)] := by rw [decDigits, dif_neg h]
theorem dec_ne (u : Nat) : decDigits u ≠ [] := by
  by_cases h : u < 10
  · rw [dec_small h]; simp
  · rw [dec_big h]; simp
theorem dec_digit (u : Nat) : ∀ c ∈ decDigits u, 48 ≤ c.toNat ∧ c.toNat ≤ 57 := by
  induction u using Nat.strongRecOn with
  | _ u ih =>
    by_cases h : u < 10
    · rw [dec_small h]
      intro c hc
      rw [List.mem_singleton] at hc; subst hc
      rw [UInt8.toNat_ofNat_of_lt' (by simp [UInt8.size]; omega)]; omega
    · rw [dec_big h]
      intro c hc
      rcases List.mem_append.1 hc with hc | hc
      · exact ih (u / 10) (by omega) c hc
      · rw [List.mem_singleton] at hc; subst hc
        rw [UInt8.toNat_ofNat_of_lt' (by simp [UInt8.size]; omega)]; omega

def pstep (M a : Nat) (c : UInt8) : NumEnd Nat :=
  if 48 ≤ c.toNat ∧ c.toNat ≤ 57 then (if 1844674407370955162 ≤ a then .range else if M < a * 10 + (c.toNat - 48) then .range else .ok (a * 10 + (c.toNat - 48))) else .«syntax»
theorem parseM_snoc (M : Nat) : ∀ (l : List UInt8) (acc a : Nat) (c : UInt8), parseUintM M acc l = .ok a → parseUintM M acc (l ++ [c]) = pstep M a c
  | [], acc, a, c, h => by
    simp only [parseUintM, NumEnd.ok.injEq] at h
    subst h
    simp only [List.nil_append, parseUintM, pstep]
  | d :: l, acc, a, c, h => by
    rw [List.cons_append, parseUintM]
    rw [parseUintM] at h
    by_cases h1 : 48 ≤ d.toNat ∧ d.toNat ≤ 57
    · rw [if_pos h1] at h ⊢
      by_cases h2 : 1844674407370955162 ≤ acc
      · rw [if_pos h2] at h; exact absurd h (by simp)
      · rw [if_neg h2] at h ⊢
        by_cases h3 : M < acc * 10 + (d.toNat - 48)
        · rw [if_pos h3] at h; exact absurd h (by simp)
        · rw [if_neg h3] at h ⊢
          exact parseM_snoc M l _ a c h
    · rw [if_neg h1] at h; exact absurd h (by simp)
theorem parse_dec (u : Nat) (hu : u < 18446744073709551616) : parseUintM 18446744073709551615 0 (decDigits u) = .ok u := by
  induction u using Nat.strongRecOn with
  | _ u ih =>
    by_cases h : u < 10
    · rw [dec_small h]
      have e : (UInt8.ofNat (48 + u)).toNat = 48 + u := UInt8.toNat_ofNat_of_lt' (by simp [UInt8.size]; omega)
      rw [parseUintM, e, if_pos (by omega), if_neg (by omega), if_neg (by omega), parseUintM]
      congr 1; omega
    · rw [dec_big h]
      have e : (UInt8.ofNat (48 + u % 10)).toNat = 48 + u % 10 := UInt8.toNat_ofNat_of_lt' (by simp [UInt8.size]; omega)
      rw [parseM_snoc _ _ _ _ _ (ih (u / 10) (by omega) (by omega))]
      rw [pstep, e, if_pos (by omega), if_neg (by omega), if_neg (by omega)]
      congr 1; omega
theorem dec_inj {u v : Nat} (hu : u < 18446744073709551616) (hv : v < 18446744073709551616) (h : decDigits u = decDigits v) : u = v := by
  have h1 := parse_dec u hu
  rw [h, parse_dec v hv] at h1
  exact (NumEnd.ok.inj h1).symm

/-- The text of a number. -/
def IsNum (l : List UInt8) (u : Nat) : Prop := u < 18446744073709551616 ∧ decDigits u = l
theorem parseB_dec {l : List UInt8} {u : Nat} (h : IsNum l u) : parseUintB 64 l = .ok u := by
  obtain ⟨hu, rfl⟩ := h
  rw [parseUintB, if_neg (dec_ne u)]
  exact parse_dec u hu
theorem parseB_lt {l : List UInt8} {u : Nat} (h : parseUintB 64 l = .ok u) : u < 18446744073709551616 := by
  rw [parseUintB] at h
  split at h
  · exact absurd h (by simp)
  · have := parseUintM_le _ l 0 u (Nat.zero_le _) h
    omega
theorem isNum_unique {l : List UInt8} {u v : Nat} (h : IsNum l u) (k : IsNum l v) : u = v := by
  have := (parseB_dec h).symm.trans (parseB_dec k)
  exact NumEnd.ok.inj this
end Go.Proofs.YtmhbpelbkeclpaaGreatDoor
