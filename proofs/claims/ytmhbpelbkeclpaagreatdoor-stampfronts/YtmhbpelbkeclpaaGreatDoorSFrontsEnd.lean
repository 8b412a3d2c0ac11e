import Derived.Test.YtmhbpelbkeclpaaGreatDoorSApart
import Derived.Test.YtmhbpelbkeclpaaGreatDoorSFronts
namespace Go.Proofs.YtmhbpelbkeclpaaGreatDoor
open Go.RowKit Go.Shelf Go.Lib
open Go.Sort hiding Below

theorem fronts_any (v : Value) (ts : List T3) (a b c : Int) (w : World) (he : Env w) (hv : Lst w v ts) (hbig : ts.length * 24 ≤ 140737488351232) :
    Calls Tryz.prog 3 #[v, .agg #[.int .u64 a, .int .u64 b, .int .u64 c]] w fun e w' => e = .returned (.bool true) ∧ Below w.heap.size w w' :=
  fronts_at apart_any v ts a b c w he hv hbig
end Go.Proofs.YtmhbpelbkeclpaaGreatDoor
