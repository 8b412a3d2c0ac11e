import Derived.Test.YtifjjnnpoleinaaRtTak
import Derived.Test.YtifjjnnpoleinaaEqs
namespace Go.Proofs.Ytifjjnnpoleinaa.Df
open Go.RowKit Go.Sort

theorem run_eqT2 (d : Nat) (a b c x y z : Int) (w : World) : Sem.run Try.prog (Op.equalIn (d + 2) 28 (.agg #[.int .u64 a, .int .u64 b, .int .u64 c]) (.agg #[.int .u64 x, .int .u64 y, .int .u64 z])) w = .ok (a == x && (b == y && c == z)) w := by
  have u3 := Try.underlying26
  have a3 := Try.isAgg26
  have z3 := Try.sizeOf26
  have hS : Try.prog.underlying 28 = some (.struct (Try.prog.fieldsOf 28)) := by kernel_rfl
  have hp : Try.prog.stoodInHeld 28 = false := by kernel_rfl
  rw [show (d + 2 : Nat) = (d + 1) + 1 from rfl, run_equalIn_agg w (d + 1) 28 _ _ hS hp]
  simp only [Program.fieldsOf, Try.underlying28]
  go_simp
  by_cases h1 : a = x <;> by_cases h2 : b = y <;> by_cases h3 : c = z <;> simp [h1, h2, h3]
theorem run_eqR2 (d : Nat) (a b x y : Int) (w : World) : Sem.run Try.prog (Op.equalIn (d + 2) 30 (.agg #[.int .u64 a, .int .u64 b]) (.agg #[.int .u64 x, .int .u64 y])) w = .ok (a == x && b == y) w := by
  have u3 := Try.underlying26
  have a3 := Try.isAgg26
  have z3 := Try.sizeOf26
  have hS : Try.prog.underlying 30 = some (.struct (Try.prog.fieldsOf 30)) := by kernel_rfl
  have hp : Try.prog.stoodInHeld 30 = false := by kernel_rfl
  rw [show (d + 2 : Nat) = (d + 1) + 1 from rfl, run_equalIn_agg w (d + 1) 30 _ _ hS hp]
  simp only [Program.fieldsOf, Try.underlying30]
  go_simp
  by_cases h1 : a = x <;> by_cases h2 : b = y <;> simp [h1, h2]
theorem run_eqM (d : Nat) (p q : Int) (s u : Rx) (w : World) : Sem.run Try.prog (Op.equalIn (d + 3) 49 (.agg #[.int .i64 p, .int .u64 s.a, .int .u64 s.b, .int .u64 s.c, .int .u64 (s.key : Nat), .int .u64 s.val]) (.agg #[.int .i64 q, .int .u64 u.a, .int .u64 u.b, .int .u64 u.c, .int .u64 (u.key : Nat), .int .u64 u.val])) w = .ok (decide (p = q ∧ s = u)) w := by
  have u4 := Try.underlying3
  have a4 := Try.isAgg3
  have z4 := Try.sizeOf3
  have a5 := Try.isAgg28
  have z5 := Try.sizeOf28
  have a6 := Try.isAgg30
  have z6 := Try.sizeOf30
  have hT := run_eqT2 d
  have hR := run_eqR2 d
  have hS : Try.prog.underlying 49 = some (.struct (Try.prog.fieldsOf 49)) := by kernel_rfl
  have hp : Try.prog.stoodInHeld 49 = false := by kernel_rfl
  have hnk : (((s.key : Nat) : Int) = ((u.key : Nat) : Int)) ↔ s.key = u.key := by omega
  have hE : (s = u) ↔ (s.a = u.a ∧ s.b = u.b ∧ s.c = u.c ∧ s.key = u.key ∧ s.val = u.val) := by
    constructor
    · rintro rfl
      exact ⟨rfl, rfl, rfl, rfl, rfl⟩
    · obtain ⟨a, b, c, e, f⟩ := s
      obtain ⟨a', b', c', e', f'⟩ := u
      rintro ⟨h1, h2, h3, h4, h5⟩
      simp only at h1 h2 h3 h4 h5
      subst h1 h2 h3 h4 h5
      rfl
  rw [show (d + 3 : Nat) = (d + 2) + 1 from rfl, run_equalIn_agg w (d + 2) 49 _ _ hS hp]
  simp only [Program.fieldsOf, Try.underlying49]
  go_simp
  by_cases h1 : p = q <;> by_cases h2 : s.a = u.a <;> by_cases h3 : s.b = u.b <;> by_cases h4 : s.c = u.c <;> by_cases h5 : s.key = u.key <;> by_cases h6 : s.val = u.val <;> simp [h1, h2, h3, h4, h5, h6]
/-- Messages of one time and record are compared. -/
theorem run_eqMx {p q : Int} {b : Bool} (s : Rx) (h : decide (p = q) = b) (w : World) : Sem.run Try.prog (Op.equalIn 10000 49 (.agg #[.int .i64 p, .int .u64 s.a, .int .u64 s.b, .int .u64 s.c, .int .u64 (s.key : Nat), .int .u64 s.val]) (.agg #[.int .i64 q, .int .u64 s.a, .int .u64 s.b, .int .u64 s.c, .int .u64 (s.key : Nat), .int .u64 s.val])) w = .ok b w := by
  rw [show (10000 : Nat) = 9997 + 3 from rfl, run_eqM, ← h]
  simp
end Go.Proofs.Ytifjjnnpoleinaa.Df
