import Derived.Test.YtifjjnnpoleinaaRows
import Derived.Test.YtifjjnnpoleinaaGr
import Derived.Test.YtifjjnnpoleinaaEqs
import Derived.WalkKit
import Derived.WalkSpells
import Derived.Deep.RegionHeld3
import Derived.Deep.DrawnRows
import Derived.Deep.QuietTactic
import Derived.BigQuiet
import Derived.Sort.Grow
namespace Go.Proofs.Ytifjjnnpoleinaa
open Go.RowKit Go.Sort
attribute [local go_sem ↓] Go.wp_at_zero Go.wp_at_succ

/-- At or ahead, number by number. -/
def tle (a b c x y z : Int) : Bool := decide (a ≤ x) && (decide (b ≤ y) && decide (c ≤ z))
/-- cmp.Compare on two numbers. -/
def c64 (x y : Int) : Int := if x < y then -1 else if y < x then 1 else 0
/-- The first that is not 0. -/
def or3 (p q r : Int) : Int := if p = 0 then (if q = 0 then r else q) else p
/-- The order of telling. -/
def tcmp (a b c x y z : Int) : Int := or3 (c64 a x) (c64 b y) (c64 c z)

theorem ret_int {k : IntKind} {a b : Int} (h : a = b) : Ending.returned (.int k a) = .returned (.int k b) := by rw [h]
theorem ret_bool {a b : Bool} (h : a = b) : Ending.returned (.bool a) = .returned (.bool b) := by rw [h]

end Go.Proofs.Ytifjjnnpoleinaa
