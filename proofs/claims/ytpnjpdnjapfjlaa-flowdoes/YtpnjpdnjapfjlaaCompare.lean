import Derived.Test.YtpnjpdnjapfjlaaOrders
namespace Go.Proofs.Ytpnjpdnjapfjlaa
open Go.RowKit Go.Sort
attribute [local go_sem ↓] Go.wp_at_zero Go.wp_at_succ

end Go.Proofs.Ytpnjpdnjapfjlaa
