import Derived.Test.YtngnfglnfkhheaaGreatKStp
import Derived.BigQuiet
namespace Go.Proofs.YtngnfglnfkhheaaGreat.Df
open Go.RowKit Go.Sort
attribute [local go_sem ↓] Go.wp_at_zero Go.wp_at_succ

set_option maxHeartbeats 2000000 in
/-- The law's question for a step that is there. -/
theorem step_any {M : Nat} {v : Value} {ss : List Con} (p q : Int) (w : World) (hL : Lz EC M w v ss) (hl : ss.length ≤ 1000) (hm : ∃ x ∈ ss, x.inn = p ∧ x.out = q) : Calls Tryz.prog 14 #[v, .int .i64 p, .int .i64 q] w fun r w' => r = .returned (.bool true) ∧ w' = w := by
  obtain ⟨pa, ca, rfl⟩ := hL.form
  have HL := hid hL
  have HM := hid hm
  clear hL hm
  go_enter Tryz.func14, Tryz.ntmps14
  go_wp2_with fail
  go_loopw [7] (fun s7 wr => ∃ k : Nat, k ≤ ss.length ∧ s7 = .int .i64 (k : Nat) ∧ wr = w ∧ Hid (∀ j x, j < k → ss[j]? = some x → ¬ (x.inn = p ∧ x.out = q))) (fun s7 _ => ss.length - (RowKit.intOf s7).toNat)
  case atStart => exact ⟨0, Nat.zero_le _, rfl, rfl, fun j x hj => absurd hj (Nat.not_lt_zero _)⟩
  case round =>
    obtain ⟨k, hk, rfl, hw, HI⟩ := hrel
    subst hw
    by_cases hlt : k < ss.length
    · have hltz : (k : Int) < (ss.length : Int) := by omega
      have hk0 : (0 : Int) ≤ (k : Int) := by omega
      obtain ⟨x, hx⟩ : ∃ x, ss[k]? = some x := ⟨ss[k], by simp⟩
      obtain ⟨b1, o1, c1, e1, z1, x0, x1, -, -, -⟩ := ls_atC (HL.out.ls hx) hx
      simp only [Value.slice.injEq] at e1
      obtain ⟨rfl, -, rfl⟩ := e1
      have HX := hid hx
      have HN : Hid (¬ (x.inn = p ∧ x.out = q) → ∀ j y, j < k + 1 → ss[j]? = some y → ¬ (y.inn = p ∧ y.out = q)) := fun hn j y hj hy => by
        by_cases e : j = k
        · subst e
          rw [HX.out] at hy
          obtain rfl := Option.some.inj hy
          exact hn
        · exact HI.out j y (by omega) hy
      clear hx
      obtain ⟨xi, hxi⟩ : ∃ a, a = x.inn := ⟨_, rfl⟩
      obtain ⟨xo, hxo⟩ : ∃ a, a = x.out := ⟨_, rfl⟩
      rw [← hxi, ← hxo] at HN
      rw [← hxi] at x0
      rw [← hxo] at x1
      clear hxi hxo
      by_cases h1 : xi = p
      · subst h1
        by_cases h2 : xo = q
        · subst h2
          go_wp2_with fail
          go_ret
          exact ⟨by first | rfl | simp, rfl⟩
        · have FIN := hid (HN.out (fun e => h2 e.2))
          have h3 : (xo == q) = false := by simpa using h2
          go_wp2_with fail
          go_roundw
          case rel => exact ⟨k + 1, by omega, by go_num, trivial, FIN.out⟩
          case measure => simp [RowKit.intOf]; omega
      · have FIN := hid (HN.out (fun e => h1 e.1))
        have h3 : (xi == p) = false := by simpa using h1
        go_wp2_with fail
        go_roundw
        case rel => exact ⟨k + 1, by omega, by go_num, trivial, FIN.out⟩
        case measure => simp [RowKit.intOf]; omega
    · have hltz : ¬ (k : Int) < (ss.length : Int) := by omega
      obtain ⟨x, hx, h1⟩ := HM.out
      obtain ⟨j, hj⟩ := List.mem_iff_getElem?.1 hx
      exact absurd h1 (HI.out j x (by have := (List.getElem?_eq_some_iff.1 hj).1; omega) hj)
end Go.Proofs.YtngnfglnfkhheaaGreat.Df
