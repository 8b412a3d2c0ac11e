import Derived.Test.YtbbfddadnbjlhaaGreatLRow
import Derived.Laws.AppendOwnNone
import Derived.Maps.AppendAt
namespace Go.Proofs.YtbbfddadnbjlhaaGreat
open Go.RowKit Go.Sort
end Go.Proofs.YtbbfddadnbjlhaaGreat
