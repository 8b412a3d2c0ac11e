import Derived.Shelf.SortM.Plain
import Derived.Shelf.SortM.SortNone
import Derived.Ground.SlgmProg
import Derived.Test.YtjppkehnjnmbnaaGreatProg
namespace Go.Proofs
open Go.Shelf
end Go.Proofs
