/-
  No cell of these rows narrows 'for every input' (looked for: loops, veiled, ifaces, maps, wideKeys, modest, calm, conditions, laid).
  DERIVED. THE GIVEN ROWS OF THIS SEAT. 3 by the template 'for every input the law returns true; each argument reads behind the call as it read before'; 0 by the template 'total and deterministic' (their statements: YtifjjnnpoleinaaTotals.lean).
  GIVEN WITH THE SEED: the statements are not yours to turn. If you find one false, say at which input.
  Laid BY PROGRAM, IN A SANDBOX (cutbox-rows.mjs): the forced cells as the released guide's own fill.sh prints them over the translation d60bf75437d4220d… (all of the seat's roots in one cut). By AI agents, Wed Nov 11 2026. No macro, syntax, notation, axiom, sorry.
-/
import Derived.Test.YtifjjnnpoleinaaChecked
import GoSem.Claim
import GoSem.ClaimJoined
import GoSem.ClaimMapViews
import Derived.JoinedTies
import Derived.KernelRfl
namespace Go.Proofs.Ytifjjnnpoleinaa
/- THE CELL 'sum', in the pinned program and in every row, IS THE sha256 OF THE DUMP (.gsa) THAT YtifjjnnpoleinaaProg.lean LOADS. Nothing in Lean hashes anything: it is a label: what it is worth is what the hold of that sum in a sandbox is worth. -/
noncomputable def Try.pinned : Pinned := { name := "ytifjjnnpoleinaa", sum := "d60bf75437d4220d8893d506a37e12e375079537e5c38b7d6efa38bc0bc7b708", checked := Try.checked }
namespace Rows
def none {H : Type} : Left H := { results := [], args := [] }

/-- 'sluicelaw18.RouteKeys': WHATEVER THE INPUT: true; the input reads as it did. -/
def routeKeysSpec : ChangeSpec := { name := "routeKeys", fn := fun _ => fun
  | [d1, d2] => { results := [.lit (.bool true)], args := [d1, d2] }
  | _ => none }
def routeKeysRow : OpenClaim := { program := "ytifjjnnpoleinaa", sum := "d60bf75437d4220d8893d506a37e12e375079537e5c38b7d6efa38bc0bc7b708", func := "sluice/sluicelaw18.RouteKeys", spec := "routeKeys", unfollowed := true, recurses := true, apart := false }
def RouteKeysSaid : Prop := routeKeysRow.holds Try.pinned (OpenSpec.ofChange routeKeysSpec)

/-- ITS FALSE NEIGHBOUR: 'it returns false'. Refute it at one input. -/
def routeKeysWrong : ChangeSpec := { name := "routeKeys", fn := fun _ => fun
  | [d1, d2] => { results := [.lit (.bool false)], args := [d1, d2] }
  | _ => none }
def RouteKeysWrongFalsely : Prop := routeKeysRow.holds Try.pinned (OpenSpec.ofChange routeKeysWrong)

/-- 'sluicelaw18.RouteHashes': WHATEVER THE INPUT: true; the input reads as it did. -/
def routeHashesSpec : ChangeSpec := { name := "routeHashes", fn := fun _ => fun
  | [d1, d2, d3] => { results := [.lit (.bool true)], args := [d1, d2, d3] }
  | _ => none }
def routeHashesRow : OpenClaim := { program := "ytifjjnnpoleinaa", sum := "d60bf75437d4220d8893d506a37e12e375079537e5c38b7d6efa38bc0bc7b708", func := "sluice/sluicelaw18.RouteHashes", spec := "routeHashes", unfollowed := true, recurses := true, apart := false }
def RouteHashesSaid : Prop := routeHashesRow.holds Try.pinned (OpenSpec.ofChange routeHashesSpec)

/-- ITS FALSE NEIGHBOUR: 'it returns false'. Refute it at one input. -/
def routeHashesWrong : ChangeSpec := { name := "routeHashes", fn := fun _ => fun
  | [d1, d2, d3] => { results := [.lit (.bool false)], args := [d1, d2, d3] }
  | _ => none }
def RouteHashesWrongFalsely : Prop := routeHashesRow.holds Try.pinned (OpenSpec.ofChange routeHashesWrong)

/-- 'sluicelaw18.RouteSends': WHATEVER THE INPUT: true; the input reads as it did. -/
def routeSendsSpec : ChangeSpec := { name := "routeSends", fn := fun _ => fun
  | [d1, d2] => { results := [.lit (.bool true)], args := [d1, d2] }
  | _ => none }
def routeSendsRow : OpenClaim := { program := "ytifjjnnpoleinaa", sum := "d60bf75437d4220d8893d506a37e12e375079537e5c38b7d6efa38bc0bc7b708", func := "sluice/sluicelaw18.RouteSends", spec := "routeSends", unfollowed := true, recurses := true, apart := false }
def RouteSendsSaid : Prop := routeSendsRow.holds Try.pinned (OpenSpec.ofChange routeSendsSpec)

/-- ITS FALSE NEIGHBOUR: 'it returns false'. Refute it at one input. -/
def routeSendsWrong : ChangeSpec := { name := "routeSends", fn := fun _ => fun
  | [d1, d2] => { results := [.lit (.bool false)], args := [d1, d2] }
  | _ => none }
def RouteSendsWrongFalsely : Prop := routeSendsRow.holds Try.pinned (OpenSpec.ofChange routeSendsWrong)

/- THE SECOND FORM. 'bulk': how many values and letters a reading holds, each counted each time it is reached (what is shared counts as often as it is met; a slice's spare places count too). A statement '..UptoSaid' is the law's where the arguments, and the package variables that the reading takes, are together of bulk at most 1048576: NARROWER than '..Said'. Prove '..Said' where nothing that the law and all that it calls make is longer than what came in: it says more and counts as full. Else prove '..UptoSaid'. A law counts once. -/
mutual
def uptoBulk {H : Type} : DataW H → Nat
  | .lit (.string bytes) => bytes.length + 1
  | .lit _ => 1
  | .nil => 1
  | .ptr d => uptoBulk d + 1
  | .slice elems spare => uptoBulkAll elems + uptoBulkAll spare + 1
  | .agg parts => uptoBulkAll parts + 1
  | .iface _ d => uptoBulk d + 1
  | .map entries => uptoBulkEntries entries + 1
  | .held _ => 1
def uptoBulkAll {H : Type} : List (DataW H) → Nat
  | [] => 0
  | d :: r => uptoBulk d + uptoBulkAll r
def uptoBulkEntries {H : Type} : List (Lit × DataW H) → Nat
  | [] => 0
  | x :: r => uptoBulkEntry x + uptoBulkEntries r
def uptoBulkEntry {H : Type} : Lit × DataW H → Nat
  | (.string bytes, d) => bytes.length + uptoBulk d + 1
  | (_, d) => uptoBulk d + 1
 end
def uptoSmall : (H : Type) → List (DataW H) → Bool := fun _ ds => decide (uptoBulkAll ds ≤ 1048576)
def OpenSpec.upto (s : _root_.Go.ChangeSpec) : _root_.Go.OpenSpec := { _root_.Go.OpenSpec.ofChange s with cond := some uptoSmall }

/-- 'sluicelaw18.RouteKeys', WHERE WHAT IT READS IS OF BULK AT MOST 1048576: true; the input reads as it did. -/
def routeKeysUptoRow : OpenClaim := { program := "ytifjjnnpoleinaa", sum := "d60bf75437d4220d8893d506a37e12e375079537e5c38b7d6efa38bc0bc7b708", func := "sluice/sluicelaw18.RouteKeys", spec := "routeKeys", unfollowed := true, recurses := true, apart := false, narrowed := true }
def RouteKeysUptoSaid : Prop := routeKeysUptoRow.holds Try.pinned (OpenSpec.upto routeKeysSpec)

/-- 'sluicelaw18.RouteHashes', WHERE WHAT IT READS IS OF BULK AT MOST 1048576: true; the input reads as it did. -/
def routeHashesUptoRow : OpenClaim := { program := "ytifjjnnpoleinaa", sum := "d60bf75437d4220d8893d506a37e12e375079537e5c38b7d6efa38bc0bc7b708", func := "sluice/sluicelaw18.RouteHashes", spec := "routeHashes", unfollowed := true, recurses := true, apart := false, narrowed := true }
def RouteHashesUptoSaid : Prop := routeHashesUptoRow.holds Try.pinned (OpenSpec.upto routeHashesSpec)

/-- 'sluicelaw18.RouteSends', WHERE WHAT IT READS IS OF BULK AT MOST 1048576: true; the input reads as it did. -/
def routeSendsUptoRow : OpenClaim := { program := "ytifjjnnpoleinaa", sum := "d60bf75437d4220d8893d506a37e12e375079537e5c38b7d6efa38bc0bc7b708", func := "sluice/sluicelaw18.RouteSends", spec := "routeSends", unfollowed := true, recurses := true, apart := false, narrowed := true }
def RouteSendsUptoSaid : Prop := routeSendsUptoRow.holds Try.pinned (OpenSpec.upto routeSendsSpec)

end Rows
end Go.Proofs.Ytifjjnnpoleinaa
