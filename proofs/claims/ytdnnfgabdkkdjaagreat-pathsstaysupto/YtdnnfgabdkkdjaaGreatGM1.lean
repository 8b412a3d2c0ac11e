import Derived.Test.YtdnnfgabdkkdjaaGreatGM0
namespace Go.Proofs.YtdnnfgabdkkdjaaGreat.Df
open Go.RowKit Go.Sort
theorem append_none_cap {P : Program} (w : World) (t ty : TypeId) (v : Value) (c : Nat) : (Builtin.append_ #[t, t] ty #[v, .slice none 0 c]).run P w = (Builtin.append_ #[t, t] ty #[v, .slice none 0 0]).run P w := rfl
section
variable {w W W' : World} {gv cv : Array Value} {nv : Value} {ys : List NV}
end
end Go.Proofs.YtdnnfgabdkkdjaaGreat.Df
