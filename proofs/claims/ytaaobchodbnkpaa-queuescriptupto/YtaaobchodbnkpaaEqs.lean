import Derived.Test.YtaaobchodbnkpaaRows
import Derived.Test.YtaaobchodbnkpaaGr
import Derived.WalkKit
import Derived.WalkSpells
namespace Go.Proofs.Ytaaobchodbnkpaa
open Go.RowKit Go.Sort

/-- '==' of two times. -/
def teq (a b c x y z : Int) : Bool := (a == x) && ((b == y) && (c == z))
theorem teq_iff (a b c x y z : Int) : teq a b c x y z = true ↔ a = x ∧ b = y ∧ c = z := by simp [teq]

theorem run_eqT (a b c x y z : Int) (w : World) : Sem.run Try.prog (Op.equalIn 10000 32 (.agg #[.int .u64 a, .int .u64 b, .int .u64 c]) (.agg #[.int .u64 x, .int .u64 y, .int .u64 z])) w = .ok (teq a b c x y z) w := by
  have u3 := Try.underlying30
  have a3 := Try.isAgg30
  have z3 := Try.sizeOf30
  have hS : Try.prog.underlying 32 = some (.struct (Try.prog.fieldsOf 32)) := by kernel_rfl
  have hp : Try.prog.stoodInHeld 32 = false := by kernel_rfl
  rw [show (10000 : Nat) = 9999 + 1 from rfl, run_equalIn_agg w 9999 32 _ _ hS hp]
  simp only [Program.fieldsOf, Try.underlying32]
  go_simp
  by_cases h1 : a = x <;> by_cases h2 : b = y <;> by_cases h3 : c = z <;> simp [teq, h1, h2, h3]

end Go.Proofs.Ytaaobchodbnkpaa
