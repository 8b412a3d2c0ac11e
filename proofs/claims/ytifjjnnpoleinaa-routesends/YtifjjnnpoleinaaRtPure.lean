import Derived.Laws.Bits64
namespace Go.Proofs.Ytifjjnnpoleinaa.Df

/-- A key's hash. -/
def hsA (x : Nat) : Nat := (x ^^^ x / 1073741824) * 13787848793156543929 % 18446744073709551616
def hsB (x : Nat) : Nat := (x ^^^ x / 134217728) * 10723151780598845931 % 18446744073709551616
def hsC (x : Nat) : Nat := x ^^^ x / 2147483648
def hsh (x : Nat) : Nat := hsC (hsB (hsA x))
theorem xor_div {x y : Nat} (n : Nat) (hn : 0 < n) (h : x ^^^ x / 2 ^ n = y ^^^ y / 2 ^ n) : x = y := by
  have h1 : x ^^^ y = (x ^^^ y) / 2 ^ n := by
    have h2 : (x ^^^ x / 2 ^ n) ^^^ (y ^^^ y / 2 ^ n) = 0 := by rw [h, Nat.xor_self]
    have h3 : (x ^^^ y) ^^^ (x / 2 ^ n ^^^ y / 2 ^ n) = 0 := by
      rw [← h2]
      apply Nat.eq_of_testBit_eq
      intro i
      simp only [Nat.testBit_xor]
      cases x.testBit i <;> cases y.testBit i <;> cases (x / 2 ^ n).testBit i <;> cases (y / 2 ^ n).testBit i <;> rfl
    rw [← Nat.shiftRight_eq_div_pow, Nat.shiftRight_xor_distrib, Nat.shiftRight_eq_div_pow, Nat.shiftRight_eq_div_pow]
    generalize x ^^^ y = u at *
    generalize x / 2 ^ n ^^^ y / 2 ^ n = v at *
    apply Nat.eq_of_testBit_eq
    intro i
    have h4 : (u ^^^ v).testBit i = false := by rw [h3]; simp
    rw [Nat.testBit_xor] at h4
    revert h4
    cases u.testBit i <;> cases v.testBit i <;> simp
  have h5 : x ^^^ y = 0 := by
    refine Classical.byContradiction fun h6 => ?_
    have h7 : (x ^^^ y) / 2 ^ n < x ^^^ y := Nat.div_lt_self (by omega) (Nat.one_lt_two_pow (by omega))
    omega
  apply Nat.eq_of_testBit_eq
  intro i
  have h6 : (x ^^^ y).testBit i = false := by rw [h5]; simp
  rw [Nat.testBit_xor] at h6
  revert h6
  cases x.testBit i <;> cases y.testBit i <;> simp
theorem mul_back {x y m c d : Nat} (hx : x < m) (hy : y < m) (hc : c * d % m = 1) (h : x * c % m = y * c % m) : x = y := by
  have hm : 1 < m := by
    refine Classical.byContradiction fun h1 => ?_
    have h2 : m = 0 ∨ m = 1 := by omega
    rcases h2 with rfl | rfl
    · omega
    · rw [Nat.mod_one] at hc
      omega
  have key : ∀ z, z < m → z * c % m * d % m = z := fun z hz => by
    rw [Nat.mod_mul_mod, Nat.mul_assoc, Nat.mul_mod, hc, Nat.mul_one, Nat.mod_mod, Nat.mod_eq_of_lt hz]
  rw [← key x hx, ← key y hy, h]
theorem xor_lt {x n : Nat} (hx : x < 18446744073709551616) : x ^^^ x / n < 18446744073709551616 := by
  have h : x / n < 2 ^ 64 := Nat.lt_of_le_of_lt (Nat.div_le_self _ _) hx
  exact Nat.xor_lt_two_pow (show x < 2 ^ 64 from hx) h
theorem hsA_lt (x : Nat) : hsA x < 18446744073709551616 := Nat.mod_lt _ (by decide)
theorem hsB_lt (x : Nat) : hsB x < 18446744073709551616 := Nat.mod_lt _ (by decide)
theorem hsh_lt (x : Nat) : hsh x < 18446744073709551616 := xor_lt (hsB_lt _)
theorem hsA_inj {x y : Nat} (hx : x < 18446744073709551616) (hy : y < 18446744073709551616) (h : hsA x = hsA y) : x = y :=
  xor_div 30 (by decide) (mul_back (d := 10871156337175269513) (xor_lt hx) (xor_lt hy) (by decide) h)
theorem hsB_inj {x y : Nat} (hx : x < 18446744073709551616) (hy : y < 18446744073709551616) (h : hsB x = hsB y) : x = y :=
  xor_div 27 (by decide) (mul_back (d := 3573116690164977347) (xor_lt hx) (xor_lt hy) (by decide) h)
/-- No two keys have one hash. -/
theorem hsh_inj {x y : Nat} (hx : x < 18446744073709551616) (hy : y < 18446744073709551616) (h : hsh x = hsh y) : x = y :=
  hsA_inj hx hy (hsB_inj (hsA_lt _) (hsA_lt _) (xor_div 31 (by decide) h))
/-- Whom a key belongs to. -/
def tow (k : Nat) (W : Int) : Int := if 1 ≤ W ∧ W ≤ 8 then (hsh k : Int) % W else -1
end Go.Proofs.Ytifjjnnpoleinaa.Df
