import Derived.Test.YtjppkehnjnmbnaaGreatLRow
import Derived.Laws.AppendOwnNone
import Derived.Maps.AppendAt
namespace Go.Proofs.YtjppkehnjnmbnaaGreat
open Go.RowKit Go.Sort
end Go.Proofs.YtjppkehnjnmbnaaGreat
