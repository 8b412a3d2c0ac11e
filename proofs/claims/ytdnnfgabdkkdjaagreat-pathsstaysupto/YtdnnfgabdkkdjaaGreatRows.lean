/-
  No cell of these rows narrows 'for every input' (looked for: loops, veiled, ifaces, maps, wideKeys, modest, calm, conditions, laid).
  DERIVED. THE GIVEN ROWS OF THIS SEAT. 6 by the template 'for every input the law returns true; each argument reads behind the call as it read before'; 0 by the template 'total and deterministic' (their statements: YtdnnfgabdkkdjaaGreatTotals.lean).
  GIVEN WITH THE SEED: the statements are not yours to turn. If you find one false, say at which input.
  Laid BY PROGRAM, IN A SANDBOX (cutbox-rows.mjs): the forced cells as the released guide's own fill.sh prints them over the translation 47831628643c9d7e… (all of the seat's roots in one cut). By AI agents, Wed Nov 11 2026. No macro, syntax, notation, axiom, sorry.
-/
import Derived.Test.YtdnnfgabdkkdjaaGreatChecked
import GoSem.Claim
import GoSem.ClaimJoined
import GoSem.ClaimMapViews
import Derived.JoinedTies
import Derived.KernelRfl
namespace Go.Proofs.YtdnnfgabdkkdjaaGreat
/- THE CELL 'sum', in the pinned program and in every row, IS THE sha256 OF THE DUMP (.gsa) THAT YtdnnfgabdkkdjaaGreatProg.lean LOADS. Nothing in Lean hashes anything: it is a label: what it is worth is what the hold of that sum in a sandbox is worth. -/
noncomputable def Tryz.pinned : Pinned := { name := "ytdnnfgabdkkdjaagreat", sum := "47831628643c9d7ec50f511159535de6aff329b27b131e2456e7926b004f7f21", checked := Tryz.checked }
namespace Rows
def none {H : Type} : Left H := { results := [], args := [] }

/-- 'sluicelaw11.PathsLocal': WHATEVER THE INPUT: true; the input reads as it did. -/
def pathsLocalSpec : ChangeSpec := { name := "pathsLocal", fn := fun _ => fun
  | [d1, d2] => { results := [.lit (.bool true)], args := [d1, d2] }
  | _ => none }
def pathsLocalRow : OpenClaim := { program := "ytdnnfgabdkkdjaagreat", sum := "47831628643c9d7ec50f511159535de6aff329b27b131e2456e7926b004f7f21", func := "sluice/sluicelaw11.PathsLocal", spec := "pathsLocal", unfollowed := true, recurses := true, apart := false }
def PathsLocalSaid : Prop := pathsLocalRow.holds Tryz.pinned (OpenSpec.ofChange pathsLocalSpec)

/-- ITS FALSE NEIGHBOUR: 'it returns false'. Refute it at one input. -/
def pathsLocalWrong : ChangeSpec := { name := "pathsLocal", fn := fun _ => fun
  | [d1, d2] => { results := [.lit (.bool false)], args := [d1, d2] }
  | _ => none }
def PathsLocalWrongFalsely : Prop := pathsLocalRow.holds Tryz.pinned (OpenSpec.ofChange pathsLocalWrong)

/-- 'sluicelaw11.PathsOrder': WHATEVER THE INPUT: true; the input reads as it did. -/
def pathsOrderSpec : ChangeSpec := { name := "pathsOrder", fn := fun _ => fun
  | [d1, d2] => { results := [.lit (.bool true)], args := [d1, d2] }
  | _ => none }
def pathsOrderRow : OpenClaim := { program := "ytdnnfgabdkkdjaagreat", sum := "47831628643c9d7ec50f511159535de6aff329b27b131e2456e7926b004f7f21", func := "sluice/sluicelaw11.PathsOrder", spec := "pathsOrder", unfollowed := true, recurses := true, apart := false }
def PathsOrderSaid : Prop := pathsOrderRow.holds Tryz.pinned (OpenSpec.ofChange pathsOrderSpec)

/-- ITS FALSE NEIGHBOUR: 'it returns false'. Refute it at one input. -/
def pathsOrderWrong : ChangeSpec := { name := "pathsOrder", fn := fun _ => fun
  | [d1, d2] => { results := [.lit (.bool false)], args := [d1, d2] }
  | _ => none }
def PathsOrderWrongFalsely : Prop := pathsOrderRow.holds Tryz.pinned (OpenSpec.ofChange pathsOrderWrong)

/-- 'sluicelaw11.PathsWays': WHATEVER THE INPUT: true; the input reads as it did. -/
def pathsWaysSpec : ChangeSpec := { name := "pathsWays", fn := fun _ => fun
  | [d1, d2, d3] => { results := [.lit (.bool true)], args := [d1, d2, d3] }
  | _ => none }
def pathsWaysRow : OpenClaim := { program := "ytdnnfgabdkkdjaagreat", sum := "47831628643c9d7ec50f511159535de6aff329b27b131e2456e7926b004f7f21", func := "sluice/sluicelaw11.PathsWays", spec := "pathsWays", unfollowed := true, recurses := true, apart := false }
def PathsWaysSaid : Prop := pathsWaysRow.holds Tryz.pinned (OpenSpec.ofChange pathsWaysSpec)

/-- ITS FALSE NEIGHBOUR: 'it returns false'. Refute it at one input. -/
def pathsWaysWrong : ChangeSpec := { name := "pathsWays", fn := fun _ => fun
  | [d1, d2, d3] => { results := [.lit (.bool false)], args := [d1, d2, d3] }
  | _ => none }
def PathsWaysWrongFalsely : Prop := pathsWaysRow.holds Tryz.pinned (OpenSpec.ofChange pathsWaysWrong)

/-- 'sluicelaw11.PathsFronts': WHATEVER THE INPUT: true; the input reads as it did. -/
def pathsFrontsSpec : ChangeSpec := { name := "pathsFronts", fn := fun _ => fun
  | [d1, d2, d3] => { results := [.lit (.bool true)], args := [d1, d2, d3] }
  | _ => none }
def pathsFrontsRow : OpenClaim := { program := "ytdnnfgabdkkdjaagreat", sum := "47831628643c9d7ec50f511159535de6aff329b27b131e2456e7926b004f7f21", func := "sluice/sluicelaw11.PathsFronts", spec := "pathsFronts", unfollowed := true, recurses := true, apart := false }
def PathsFrontsSaid : Prop := pathsFrontsRow.holds Tryz.pinned (OpenSpec.ofChange pathsFrontsSpec)

/-- ITS FALSE NEIGHBOUR: 'it returns false'. Refute it at one input. -/
def pathsFrontsWrong : ChangeSpec := { name := "pathsFronts", fn := fun _ => fun
  | [d1, d2, d3] => { results := [.lit (.bool false)], args := [d1, d2, d3] }
  | _ => none }
def PathsFrontsWrongFalsely : Prop := pathsFrontsRow.holds Tryz.pinned (OpenSpec.ofChange pathsFrontsWrong)

/-- 'sluicelaw11.PathsStays': WHATEVER THE INPUT: true; the input reads as it did. -/
def pathsStaysSpec : ChangeSpec := { name := "pathsStays", fn := fun _ => fun
  | [d] => { results := [.lit (.bool true)], args := [d] }
  | _ => none }
def pathsStaysRow : OpenClaim := { program := "ytdnnfgabdkkdjaagreat", sum := "47831628643c9d7ec50f511159535de6aff329b27b131e2456e7926b004f7f21", func := "sluice/sluicelaw11.PathsStays", spec := "pathsStays", unfollowed := true, recurses := true, apart := false }
def PathsStaysSaid : Prop := pathsStaysRow.holds Tryz.pinned (OpenSpec.ofChange pathsStaysSpec)

/-- ITS FALSE NEIGHBOUR: 'it returns false'. Refute it at one input. -/
def pathsStaysWrong : ChangeSpec := { name := "pathsStays", fn := fun _ => fun
  | [d] => { results := [.lit (.bool false)], args := [d] }
  | _ => none }
def PathsStaysWrongFalsely : Prop := pathsStaysRow.holds Tryz.pinned (OpenSpec.ofChange pathsStaysWrong)

/-- 'sluicelaw11.PathsExact': WHATEVER THE INPUT: true; the input reads as it did. -/
def pathsExactSpec : ChangeSpec := { name := "pathsExact", fn := fun _ => fun
  | [d] => { results := [.lit (.bool true)], args := [d] }
  | _ => none }
def pathsExactRow : OpenClaim := { program := "ytdnnfgabdkkdjaagreat", sum := "47831628643c9d7ec50f511159535de6aff329b27b131e2456e7926b004f7f21", func := "sluice/sluicelaw11.PathsExact", spec := "pathsExact", unfollowed := true, recurses := true, apart := false }
def PathsExactSaid : Prop := pathsExactRow.holds Tryz.pinned (OpenSpec.ofChange pathsExactSpec)

/-- ITS FALSE NEIGHBOUR: 'it returns false'. Refute it at one input. -/
def pathsExactWrong : ChangeSpec := { name := "pathsExact", fn := fun _ => fun
  | [d] => { results := [.lit (.bool false)], args := [d] }
  | _ => none }
def PathsExactWrongFalsely : Prop := pathsExactRow.holds Tryz.pinned (OpenSpec.ofChange pathsExactWrong)

/- THE SECOND FORM. 'bulk': how many values and letters a reading holds, each counted each time it is reached (what is shared counts as often as it is met; a slice's spare places count too). A statement '..UptoSaid' is the law's where the arguments, and the package variables that the reading takes, are together of bulk at most 1048576: NARROWER than '..Said'. Prove '..Said' where nothing that the law and all that it calls make is longer than what came in: it says more and counts as full. Else prove '..UptoSaid'. A law counts once. -/
mutual
def uptoBulk {H : Type} : DataW H → Nat
  | .lit (.string bytes) => bytes.length + 1
  | .lit _ => 1
  | .nil => 1
  | .ptr d => uptoBulk d + 1
  | .slice elems spare => uptoBulkAll elems + uptoBulkAll spare + 1
  | .agg parts => uptoBulkAll parts + 1
  | .iface _ d => uptoBulk d + 1
  | .map entries => uptoBulkEntries entries + 1
  | .held _ => 1
def uptoBulkAll {H : Type} : List (DataW H) → Nat
  | [] => 0
  | d :: r => uptoBulk d + uptoBulkAll r
def uptoBulkEntries {H : Type} : List (Lit × DataW H) → Nat
  | [] => 0
  | x :: r => uptoBulkEntry x + uptoBulkEntries r
def uptoBulkEntry {H : Type} : Lit × DataW H → Nat
  | (.string bytes, d) => bytes.length + uptoBulk d + 1
  | (_, d) => uptoBulk d + 1
 end
def uptoSmall : (H : Type) → List (DataW H) → Bool := fun _ ds => decide (uptoBulkAll ds ≤ 1048576)
def OpenSpec.upto (s : _root_.Go.ChangeSpec) : _root_.Go.OpenSpec := { _root_.Go.OpenSpec.ofChange s with cond := some uptoSmall }

/-- 'sluicelaw11.PathsLocal', WHERE WHAT IT READS IS OF BULK AT MOST 1048576: true; the input reads as it did. -/
def pathsLocalUptoRow : OpenClaim := { program := "ytdnnfgabdkkdjaagreat", sum := "47831628643c9d7ec50f511159535de6aff329b27b131e2456e7926b004f7f21", func := "sluice/sluicelaw11.PathsLocal", spec := "pathsLocal", unfollowed := true, recurses := true, apart := false, narrowed := true }
def PathsLocalUptoSaid : Prop := pathsLocalUptoRow.holds Tryz.pinned (OpenSpec.upto pathsLocalSpec)

/-- 'sluicelaw11.PathsOrder', WHERE WHAT IT READS IS OF BULK AT MOST 1048576: true; the input reads as it did. -/
def pathsOrderUptoRow : OpenClaim := { program := "ytdnnfgabdkkdjaagreat", sum := "47831628643c9d7ec50f511159535de6aff329b27b131e2456e7926b004f7f21", func := "sluice/sluicelaw11.PathsOrder", spec := "pathsOrder", unfollowed := true, recurses := true, apart := false, narrowed := true }
def PathsOrderUptoSaid : Prop := pathsOrderUptoRow.holds Tryz.pinned (OpenSpec.upto pathsOrderSpec)

/-- 'sluicelaw11.PathsWays', WHERE WHAT IT READS IS OF BULK AT MOST 1048576: true; the input reads as it did. -/
def pathsWaysUptoRow : OpenClaim := { program := "ytdnnfgabdkkdjaagreat", sum := "47831628643c9d7ec50f511159535de6aff329b27b131e2456e7926b004f7f21", func := "sluice/sluicelaw11.PathsWays", spec := "pathsWays", unfollowed := true, recurses := true, apart := false, narrowed := true }
def PathsWaysUptoSaid : Prop := pathsWaysUptoRow.holds Tryz.pinned (OpenSpec.upto pathsWaysSpec)

/-- 'sluicelaw11.PathsFronts', WHERE WHAT IT READS IS OF BULK AT MOST 1048576: true; the input reads as it did. -/
def pathsFrontsUptoRow : OpenClaim := { program := "ytdnnfgabdkkdjaagreat", sum := "47831628643c9d7ec50f511159535de6aff329b27b131e2456e7926b004f7f21", func := "sluice/sluicelaw11.PathsFronts", spec := "pathsFronts", unfollowed := true, recurses := true, apart := false, narrowed := true }
def PathsFrontsUptoSaid : Prop := pathsFrontsUptoRow.holds Tryz.pinned (OpenSpec.upto pathsFrontsSpec)

/-- 'sluicelaw11.PathsStays', WHERE WHAT IT READS IS OF BULK AT MOST 1048576: true; the input reads as it did. -/
def pathsStaysUptoRow : OpenClaim := { program := "ytdnnfgabdkkdjaagreat", sum := "47831628643c9d7ec50f511159535de6aff329b27b131e2456e7926b004f7f21", func := "sluice/sluicelaw11.PathsStays", spec := "pathsStays", unfollowed := true, recurses := true, apart := false, narrowed := true }
def PathsStaysUptoSaid : Prop := pathsStaysUptoRow.holds Tryz.pinned (OpenSpec.upto pathsStaysSpec)

/-- 'sluicelaw11.PathsExact', WHERE WHAT IT READS IS OF BULK AT MOST 1048576: true; the input reads as it did. -/
def pathsExactUptoRow : OpenClaim := { program := "ytdnnfgabdkkdjaagreat", sum := "47831628643c9d7ec50f511159535de6aff329b27b131e2456e7926b004f7f21", func := "sluice/sluicelaw11.PathsExact", spec := "pathsExact", unfollowed := true, recurses := true, apart := false, narrowed := true }
def PathsExactUptoSaid : Prop := pathsExactUptoRow.holds Tryz.pinned (OpenSpec.upto pathsExactSpec)

end Rows
end Go.Proofs.YtdnnfgabdkkdjaaGreat
