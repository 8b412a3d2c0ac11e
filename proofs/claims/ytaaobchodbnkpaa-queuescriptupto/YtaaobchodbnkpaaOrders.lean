import Derived.Test.YtaaobchodbnkpaaRows
import Derived.Test.YtaaobchodbnkpaaGr
import Derived.Test.YtaaobchodbnkpaaEqs
import Derived.WalkKit
import Derived.WalkSpells
import Derived.Deep.RegionHeld3
import Derived.Deep.DrawnRows
import Derived.Deep.QuietTactic
import Derived.BigQuiet
import Derived.Sort.Grow
namespace Go.Proofs.Ytaaobchodbnkpaa
open Go.RowKit Go.Sort
attribute [local go_sem ↓] Go.wp_at_zero Go.wp_at_succ

/-- At or ahead, number by number. -/
def tle (a b c x y z : Int) : Bool := decide (a ≤ x) && (decide (b ≤ y) && decide (c ≤ z))
/-- cmp.Compare on two numbers. -/
def c64 (x y : Int) : Int := if x < y then -1 else if y < x then 1 else 0
/-- The first that is not 0. -/
def or3 (p q r : Int) : Int := if p = 0 then (if q = 0 then r else q) else p
/-- The order of telling. -/
def tcmp (a b c x y z : Int) : Int := or3 (c64 a x) (c64 b y) (c64 c z)

theorem ret_int {k : IntKind} {a b : Int} (h : a = b) : Ending.returned (.int k a) = .returned (.int k b) := by rw [h]
theorem ret_bool {a b : Bool} (h : a = b) : Ending.returned (.bool a) = .returned (.bool b) := by rw [h]

set_option maxHeartbeats 400000 in
theorem isNaN_any (x : Int) (w : World) :
    Calls Try.prog 58 #[.int .u64 x] w fun e w' => e = .returned (.bool false) ∧ w' = w := by
  go_enter Try.func58, Try.ntmps58
  go_wp2
  go_ret
  exact ⟨by simp, rfl⟩

set_option maxHeartbeats 1000000 in
theorem cmp64_any (x y : Int) (w : World) :
    Calls Try.prog 46 #[.int .u64 x, .int .u64 y] w fun e w' => e = .returned (.int .i64 (c64 x y)) ∧ w' = w := by
  have H := fun v W => isNaN_any v W
  go_enter Try.func46, Try.ntmps46
  go_wp2_with (go_at_call 58; refine (H _ _).mono ?_; rintro e w1 ⟨rfl, rfl⟩)
  all_goals go_ret
  all_goals refine ⟨?_, rfl⟩
  all_goals refine ret_int ?_
  all_goals unfold c64
  all_goals (repeat split) <;> omega

end Go.Proofs.Ytaaobchodbnkpaa
