import Derived.Test.YtghpekkncfckaaaRows
import Derived.Test.YtghpekkncfckaaaGr
import Derived.WalkKit
import Derived.WalkSpells
namespace Go.Proofs.Ytghpekkncfckaaa
open Go.RowKit Go.Sort

/-- '==' of two times. -/
def teq (a b c x y z : Int) : Bool := (a == x) && ((b == y) && (c == z))
theorem teq_iff (a b c x y z : Int) : teq a b c x y z = true ↔ a = x ∧ b = y ∧ c = z := by simp [teq]

theorem run_eqT (a b c x y z : Int) (w : World) : Sem.run Try.prog (Op.equalIn 10000 25 (.agg #[.int .u64 a, .int .u64 b, .int .u64 c]) (.agg #[.int .u64 x, .int .u64 y, .int .u64 z])) w = .ok (teq a b c x y z) w := by
  have u3 := Try.underlying23
  have a3 := Try.isAgg23
  have z3 := Try.sizeOf23
  have hS : Try.prog.underlying 25 = some (.struct (Try.prog.fieldsOf 25)) := by kernel_rfl
  have hp : Try.prog.stoodInHeld 25 = false := by kernel_rfl
  rw [show (10000 : Nat) = 9999 + 1 from rfl, run_equalIn_agg w 9999 25 _ _ hS hp]
  simp only [Program.fieldsOf, Try.underlying25]
  go_simp
  by_cases h1 : a = x <;> by_cases h2 : b = y <;> by_cases h3 : c = z <;> simp [teq, h1, h2, h3]

theorem run_eqB3' (d : Nat) (p q r p' q' r' : Bool) (w : World) : Sem.run Try.prog (Op.equalIn (d + 2) 77 (.agg #[.bool p, .bool q, .bool r]) (.agg #[.bool p', .bool q', .bool r'])) w = .ok (p == p' && (q == q' && r == r')) w := by
  have u3 := Try.underlying4
  have a3 := Try.isAgg4
  have z3 := Try.sizeOf4
  have hu : Try.prog.underlying 77 = some (.array 3 4) := by kernel_rfl
  have hb : ∀ x y W, Sem.run Try.prog (Op.equalIn (d + 1) 4 (.bool x) (.bool y)) W = .ok (x == y) W := fun x y W => run_equalIn_bool' W d 4 x y u3
  rw [Op.equalIn]
  simp only [Sem.run_bind, run_underlying hu, Result.andThen_ok, Std.Legacy.Range.forIn_eq_forIn_range', Std.Legacy.Range.size]
  go_simp
  simp only [show List.range' 0 3 = [0, 1, 2] from rfl, List.forIn_cons, List.forIn_nil]
  cases p <;> cases p' <;> cases q <;> cases q' <;> cases r <;> cases r' <;> go_simp
theorem run_eqB3 (p q r p' q' r' : Bool) (w : World) : Sem.run Try.prog (Op.equalIn 10000 77 (.agg #[.bool p, .bool q, .bool r]) (.agg #[.bool p', .bool q', .bool r'])) w = .ok (p == p' && (q == q' && r == r')) w := run_eqB3' 9998 p q r p' q' r' w
end Go.Proofs.Ytghpekkncfckaaa
