import Derived.Test.YtifjjnnpoleinaaJ3
import Derived.BigQuiet
namespace Go.Proofs.Ytifjjnnpoleinaa.Df
open Go.RowKit Go.Sort
attribute [local go_sem ↓] Go.wp_at_zero Go.wp_at_succ

end Go.Proofs.Ytifjjnnpoleinaa.Df
