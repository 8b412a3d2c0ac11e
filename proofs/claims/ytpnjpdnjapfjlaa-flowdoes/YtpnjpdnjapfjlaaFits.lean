import Derived.Test.YtpnjpdnjapfjlaaOrders
import Derived.Deep.RegionLaw
namespace Go.Proofs.Ytpnjpdnjapfjlaa
open Go.RowKit Go.Sort
attribute [local go_sem ↓] Go.wp_at_zero Go.wp_at_succ

/-- Fits: 0, or 10. -/
def tfits (_a b c n : Int) : Int := if n < 1 ∨ 3 < n then 10 else if (n < 2 → b = 0) ∧ (n < 3 → c = 0) then 0 else 10

end Go.Proofs.Ytpnjpdnjapfjlaa
