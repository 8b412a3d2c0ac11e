import Derived.Test.YtdnnfgabdkkdjaaGreatGTy
import Derived.WalkKit
import Derived.WalkSpells
import Derived.Deep.DrawnRows
import Derived.Deep.DeepCutAuto
import Derived.Deep.LoopGhost
import Derived.Deep.QuietTactic
import Derived.BigQuiet
import Derived.Shelf.SlSortCmp.QuietGrown
import Derived.Deep.RegionLaw
import Derived.Deep.RegionWith
import Derived.Test.YtdnnfgabdkkdjaaGreatLHold2
import Derived.Test.YtdnnfgabdkkdjaaGreatLStep2
namespace Go.Proofs.YtdnnfgabdkkdjaaGreat.Df
open Go.RowKit Go.Sort
section
variable {α : Type} {E : El α} {T : TypeId} {W W' : World} {v : Value} {l : List α} {m : α}
end
section
variable {w W W' : World} {gv cv : Array Value} {u : Value} {xs : List NV}
end
end Go.Proofs.YtdnnfgabdkkdjaaGreat.Df
