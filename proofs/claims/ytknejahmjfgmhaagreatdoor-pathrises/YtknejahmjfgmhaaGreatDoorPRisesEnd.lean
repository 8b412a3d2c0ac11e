import Derived.Test.YtknejahmjfgmhaaGreatDoorPWalk2
namespace Go.Proofs.YtknejahmjfgmhaaGreatDoor
open Go.RowKit Go.Shelf Go.Lib
open Go.Sort hiding Below

theorem rises_any (a b c x y z p q r s t u s' t' u' : Nat) (n : Int) (w : World) (he : Env w)
    (ha : a < 18446744073709551616) (hb : b < 18446744073709551616) (hc : c < 18446744073709551616) (hx : x < 18446744073709551616) (hy : y < 18446744073709551616) (hz : z < 18446744073709551616)
    (hs : s < 18446744073709551616) (ht : t < 18446744073709551616) (hu : u < 18446744073709551616) (hs' : s' < 18446744073709551616) (ht' : t' < 18446744073709551616) (hu' : u' < 18446744073709551616) :
    Calls Tryz.prog 6 #[.agg #[.int .u64 a, .int .u64 b, .int .u64 c, .int .u64 x, .int .u64 y, .int .u64 z, .int .u64 p, .int .u64 q, .int .u64 r, .int .u64 s, .int .u64 t, .int .u64 u, .int .u64 s', .int .u64 t', .int .u64 u', .int .i64 n]] w fun e w' => e = .returned (.bool true) ∧ Below w.heap.size w w' :=
  rises_walk known_true a b c x y z p q r s t u s' t' u' _ _ _ _ _ _ _ _ n w he (fun W => On_any a b c s t u W ha hb hc hs ht hu) (fun W => On_any x y z s' t' u' W hx hy hz hs' ht' hu')
    (fun h => on_rise a b c s t u h) (fun h1 h2 h3 => on_mono a b c x y z s t u s' t' u' h1 h2 h3)
end Go.Proofs.YtknejahmjfgmhaaGreatDoor
