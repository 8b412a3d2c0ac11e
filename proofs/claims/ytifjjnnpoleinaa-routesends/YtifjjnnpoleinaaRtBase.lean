import Derived.Test.YtifjjnnpoleinaaRtPure
import Derived.Test.YtifjjnnpoleinaaGTy
namespace Go.Proofs.Ytifjjnnpoleinaa.Df
open Go.RowKit Go.Sort

theorem mixA {k : Nat} (hk : k < 18446744073709551616) : IntKind.u64.wrap (bits .xor .u64 (k : Int) ((k : Int) / 1073741824) * 13787848793156543929) = (hsA k : Nat) := mixStep_u64 k 1073741824 13787848793156543929 hk
theorem mixB {k : Nat} (hk : k < 18446744073709551616) : IntKind.u64.wrap (bits .xor .u64 (k : Int) ((k : Int) / 134217728) * 10723151780598845931) = (hsB k : Nat) := mixStep_u64 k 134217728 10723151780598845931 hk
theorem mixC {k : Nat} (hk : k < 18446744073709551616) : bits .xor .u64 (k : Int) ((k : Int) / 2147483648) = (hsC k : Nat) := xorShift_u64 k 2147483648 hk
theorem hash_any {k : Nat} (hk : k < 18446744073709551616) (w : World) : Calls Try.prog 14 #[.int .u64 (k : Nat)] w fun r w' => r = .returned (.int .u64 (hsh k : Nat)) ∧ w' = w := by
  go_enter Try.func14, Try.ntmps14
  go_wp2_with fail
  rw [mixA hk, mixB (hsA_lt k), mixC (hsB_lt _)]
  go_ret
  exact ⟨rfl, rfl⟩
theorem half_step {k : Nat} (hk : k < 18446744073709551616) (i : Nat) : IntKind.u64.wrap (((k : Int) / 2 ^ i).tdiv 2) = ((k / 2 ^ (i + 1) : Nat) : Int) := by
  have h1 : ((k : Int) / 2 ^ i) = ((k / 2 ^ i : Nat) : Int) := by simp
  have h2 : ((k / 2 ^ i : Nat) : Int).tdiv 2 = ((k / 2 ^ i / 2 : Nat) : Int) := (Int.ofNat_tdiv (k / 2 ^ i) 2).symm
  have h3 : k / 2 ^ (i + 1) < 18446744073709551616 := Nat.lt_of_le_of_lt (Nat.div_le_self _ _) hk
  rw [h1, h2, Nat.div_div_eq_div_mul, show 2 ^ i * 2 = 2 ^ (i + 1) from (by rw [Nat.pow_succ]), IntKind.wrap_u64]
  generalize k / 2 ^ (i + 1) = z at h3 ⊢
  omega
theorem right_any {k : Nat} (hk : k < 18446744073709551616) (n : Nat) (hn : n ≤ 64) (w : World) : Calls Try.prog 30 #[.int .u64 (k : Nat), .int .i64 (n : Nat)] w fun r w' => r = .returned (.int .u64 (k / 2 ^ n : Nat)) ∧ w' = w := by
  go_enter Try.func30, Try.ntmps30
  go_wp2_with fail
  go_loopw [0, 5] (fun s0 s5 wr => ∃ i : Nat, i ≤ n ∧ s5 = .int .i64 i ∧ s0 = .int .u64 (k / 2 ^ i : Nat) ∧ wr = w) (fun _ s5 _ => n - (RowKit.intOf s5).toNat)
  case atStart => exact ⟨0, Nat.zero_le _, rfl, by simp, rfl⟩
  case round =>
    obtain ⟨i, hi, rfl, rfl, rfl⟩ := hrel
    by_cases hlt : i < n
    · have hz : (i : Int) < (n : Int) := by omega
      go_wp2_with fail
      go_roundw
      case rel => exact ⟨i + 1, by omega, by simp, by rw [half_step hk], trivial⟩
      case measure => simp [intOf]; omega
    · have hz : ¬ (i : Int) < (n : Int) := by omega
      go_wp2_with fail
      have e : i = n := by omega
      subst e
      go_ret
      exact ⟨rfl, rfl⟩
theorem canbe_any (m : Int) (w : World) : Calls Try.prog 24 #[.int .i64 m] w fun r w' => r = .returned (.bool (decide (1 ≤ m ∧ m ≤ 8))) ∧ w' = w := by
  by_cases h1 : 1 ≤ m
  · by_cases h2 : m ≤ 8
    · rw [decide_eq_true ⟨h1, h2⟩]
      go_enter Try.func24, Try.ntmps24
      go_wp2_with fail
      go_ret
      exact ⟨rfl, rfl⟩
    · rw [decide_eq_false (fun h => h2 h.2)]
      go_enter Try.func24, Try.ntmps24
      go_wp2_with fail
      go_ret
      exact ⟨rfl, rfl⟩
  · rw [decide_eq_false (fun h => h1 h.1)]
    go_enter Try.func24, Try.ntmps24
    go_wp2_with fail
    go_ret
    exact ⟨rfl, rfl⟩
theorem rhash_any {k : Nat} (hk : k < 18446744073709551616) (w : World) : Calls Try.prog 15 #[.int .u64 (k : Nat)] w fun r w' => r = .returned (.int .u64 (hsh k : Nat)) ∧ w' = w := by
  have h1 := right_any hk 30 (by decide) w
  have h2 := right_any (hsA_lt k) 27 (by decide) w
  have h3 := right_any (hsB_lt (hsA k)) 31 (by decide) w
  have e1 := mixA hk
  have e2 := mixB (hsA_lt k)
  have e3 := mixC (hsB_lt (hsA k))
  go_enter Try.func15, Try.ntmps15
  go_wp2_with fail
  refine h1.mono ?_
  rintro r w1 ⟨rfl, rfl⟩
  go_wp2_with fail
  refine h2.mono ?_
  rintro r w1 ⟨rfl, rfl⟩
  go_wp2_with fail
  refine h3.mono ?_
  rintro r w1 ⟨rfl, rfl⟩
  go_wp2_with fail
  go_ret
  exact ⟨rfl, rfl⟩
theorem tow_lt (k : Nat) {m : Int} (h : 1 ≤ m ∧ m ≤ 8) : 0 ≤ tow k m ∧ tow k m < m := by
  unfold tow
  rw [if_pos h]
  exact ⟨Int.emod_nonneg _ (by omega), Int.emod_lt_of_pos _ (by omega)⟩
theorem who_any {k : Nat} (hk : k < 18446744073709551616) (m : Int) (w : World) : Calls Try.prog 13 #[.int .u64 (k : Nat), .int .i64 m] w fun r w' => r = .returned (.int .i64 (tow k m)) ∧ w' = w := by
  have hc := canbe_any m w
  have hh := hash_any hk w
  by_cases h : 1 ≤ m ∧ m ≤ 8
  · rw [decide_eq_true h] at hc
    have hl := tow_lt k h
    have e0 : IntKind.u64.wrap m = m := by rw [IntKind.wrap_u64]; omega
    have e1 : ((hsh k : Nat) : Int).tmod m = tow k m := by
      unfold tow
      rw [if_pos h]
      exact Int.tmod_eq_emod_of_nonneg (by omega)
    have e2 : IntKind.u64.wrap (tow k m) = tow k m := by rw [IntKind.wrap_u64]; omega
    generalize tow k m = t at *
    generalize hsh k = z at *
    go_enter Try.func13, Try.ntmps13
    go_wp2_with fail
    refine hc.mono ?_
    rintro r w1 ⟨rfl, rfl⟩
    go_wp2_with fail
    refine hh.mono ?_
    rintro r w1 ⟨rfl, rfl⟩
    go_wp2_with fail
    go_ret
    exact ⟨rfl, rfl⟩
  · rw [decide_eq_false h] at hc
    have e : tow k m = -1 := by unfold tow; rw [if_neg h]
    rw [e]
    go_enter Try.func13, Try.ntmps13
    go_wp2_with fail
    refine hc.mono ?_
    rintro r w1 ⟨rfl, rfl⟩
    go_wp2_with fail
    go_ret
    exact ⟨rfl, rfl⟩
theorem rwho_any {k : Nat} (hk : k < 18446744073709551616) (m : Int) (w : World) : Calls Try.prog 16 #[.int .u64 (k : Nat), .int .i64 m] w fun r w' => r = .returned (.int .i64 (tow k m)) ∧ w' = w := by
  have hh := rhash_any hk w
  by_cases h : 1 ≤ m ∧ m ≤ 8
  · have hl := tow_lt k h
    have e0 : IntKind.u64.wrap m = m := by rw [IntKind.wrap_u64]; omega
    have e1 : ((hsh k : Nat) : Int).tmod m = tow k m := by
      unfold tow
      rw [if_pos h]
      exact Int.tmod_eq_emod_of_nonneg (by omega)
    have e2 : IntKind.u64.wrap (tow k m) = tow k m := by rw [IntKind.wrap_u64]; omega
    generalize tow k m = t at *
    generalize hsh k = z at *
    go_enter Try.func16, Try.ntmps16
    go_wp2_with fail
    refine hh.mono ?_
    rintro r w1 ⟨rfl, rfl⟩
    go_wp2_with fail
    go_ret
    exact ⟨rfl, rfl⟩
  · have e : tow k m = -1 := by unfold tow; rw [if_neg h]
    rw [e]
    by_cases h1 : m < 1
    · go_enter Try.func16, Try.ntmps16
      go_wp2_with fail
      go_ret
      exact ⟨rfl, rfl⟩
    · have h2 : 8 < m := by omega
      go_enter Try.func16, Try.ntmps16
      go_wp2_with fail
      go_ret
      exact ⟨rfl, rfl⟩
/-- Whom an edge leads to. -/
def alg (kd : Bool) (k : Nat) (own m : Int) : Int := if kd then tow k m else own
theorem along_any {k : Nat} (hk : k < 18446744073709551616) (a b c d : Int) (kd : Bool) (own m : Int) (w : World) : Calls Try.prog 27 #[.agg #[.int .i64 a, .int .i64 b, .int .i64 c, .int .i64 d, .bool kd], .int .u64 (k : Nat), .int .i64 own, .int .i64 m] w fun r w' => r = .returned (.int .i64 (alg kd k own m)) ∧ Gr w w' := by
  have hw := fun W => who_any hk m W
  cases kd with
  | true =>
    have e : alg true k own m = tow k m := rfl
    rw [e]
    go_enter Try.func27, Try.ntmps27
    go_wp2_with fail
    refine (hw _).mono ?_
    rintro r w1 ⟨rfl, rfl⟩
    go_wp2_with fail
    go_ret
    exact ⟨rfl, (Gr.refl _).alloc _⟩
  | false =>
    have e : alg false k own m = own := rfl
    rw [e]
    go_enter Try.func27, Try.ntmps27
    go_wp2_with fail
    go_ret
    exact ⟨rfl, (Gr.refl _).alloc _⟩
end Go.Proofs.Ytifjjnnpoleinaa.Df
