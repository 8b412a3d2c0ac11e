import Derived.Test.YtdnnfgabdkkdjaaGreatLRow
import Derived.Laws.AppendOwnNone
import Derived.Maps.AppendAt
namespace Go.Proofs.YtdnnfgabdkkdjaaGreat
open Go.RowKit Go.Sort
end Go.Proofs.YtdnnfgabdkkdjaaGreat
