/-
  No cell of these rows narrows 'for every input' (looked for: loops, veiled, ifaces, maps, wideKeys, modest, calm, conditions, laid).
  DERIVED. THE GIVEN ROWS OF THIS SEAT. 4 by the template 'for every input the law returns true; each argument reads behind the call as it read before'; 0 by the template 'total and deterministic' (their statements: YtiiefcalkjeieaaGreatTotals.lean).
  GIVEN WITH THE SEED: the statements are not yours to turn. If you find one false, say at which input.
  Laid BY PROGRAM, IN A SANDBOX (cutbox-rows.mjs): the forced cells as the released guide's own fill.sh prints them over the translation cd77e44d2005e85a… (all of the seat's roots in one cut). By AI agents, Wed Nov 11 2026. No macro, syntax, notation, axiom, sorry.
-/
import Derived.Test.YtiiefcalkjeieaaGreatChecked
import GoSem.Claim
import GoSem.ClaimJoined
import GoSem.ClaimMapViews
import Derived.JoinedTies
import Derived.KernelRfl
namespace Go.Proofs.YtiiefcalkjeieaaGreat
/- THE CELL 'sum', in the pinned program and in every row, IS THE sha256 OF THE DUMP (.gsa) THAT YtiiefcalkjeieaaGreatProg.lean LOADS. Nothing in Lean hashes anything: it is a label: what it is worth is what the hold of that sum in a sandbox is worth. -/
noncomputable def Tryz.pinned : Pinned := { name := "ytiiefcalkjeieaagreat", sum := "cd77e44d2005e85adbc0d293182a72566701071e7fae7e12930c913f0478700d", checked := Tryz.checked }
namespace Rows
def none {H : Type} : Left H := { results := [], args := [] }

/-- 'sluicelaw12.ReachFronts': WHATEVER THE INPUT: true; the input reads as it did. -/
def reachFrontsSpec : ChangeSpec := { name := "reachFronts", fn := fun _ => fun
  | [d] => { results := [.lit (.bool true)], args := [d] }
  | _ => none }
def reachFrontsRow : OpenClaim := { program := "ytiiefcalkjeieaagreat", sum := "cd77e44d2005e85adbc0d293182a72566701071e7fae7e12930c913f0478700d", func := "sluice/sluicelaw12.ReachFronts", spec := "reachFronts", inPlace := ["maps.clone"], unfollowed := true, recurses := true, plainKeys := false, apart := false }
def ReachFrontsSaid : Prop := reachFrontsRow.holds Tryz.pinned (OpenSpec.ofChange reachFrontsSpec)

/-- ITS FALSE NEIGHBOUR: 'it returns false'. Refute it at one input. -/
def reachFrontsWrong : ChangeSpec := { name := "reachFronts", fn := fun _ => fun
  | [d] => { results := [.lit (.bool false)], args := [d] }
  | _ => none }
def ReachFrontsWrongFalsely : Prop := reachFrontsRow.holds Tryz.pinned (OpenSpec.ofChange reachFrontsWrong)

/-- 'sluicelaw12.ReachOrder': WHATEVER THE INPUT: true; the input reads as it did. -/
def reachOrderSpec : ChangeSpec := { name := "reachOrder", fn := fun _ => fun
  | [d] => { results := [.lit (.bool true)], args := [d] }
  | _ => none }
def reachOrderRow : OpenClaim := { program := "ytiiefcalkjeieaagreat", sum := "cd77e44d2005e85adbc0d293182a72566701071e7fae7e12930c913f0478700d", func := "sluice/sluicelaw12.ReachOrder", spec := "reachOrder", inPlace := ["maps.clone"], unfollowed := true, recurses := true, plainKeys := false, apart := false }
def ReachOrderSaid : Prop := reachOrderRow.holds Tryz.pinned (OpenSpec.ofChange reachOrderSpec)

/-- ITS FALSE NEIGHBOUR: 'it returns false'. Refute it at one input. -/
def reachOrderWrong : ChangeSpec := { name := "reachOrder", fn := fun _ => fun
  | [d] => { results := [.lit (.bool false)], args := [d] }
  | _ => none }
def ReachOrderWrongFalsely : Prop := reachOrderRow.holds Tryz.pinned (OpenSpec.ofChange reachOrderWrong)

/-- 'sluicelaw12.ReachKeeps': WHATEVER THE INPUT: true; the input reads as it did. -/
def reachKeepsSpec : ChangeSpec := { name := "reachKeeps", fn := fun _ => fun
  | [d] => { results := [.lit (.bool true)], args := [d] }
  | _ => none }
def reachKeepsRow : OpenClaim := { program := "ytiiefcalkjeieaagreat", sum := "cd77e44d2005e85adbc0d293182a72566701071e7fae7e12930c913f0478700d", func := "sluice/sluicelaw12.ReachKeeps", spec := "reachKeeps", inPlace := ["maps.clone"], unfollowed := true, recurses := true, plainKeys := false, apart := false }
def ReachKeepsSaid : Prop := reachKeepsRow.holds Tryz.pinned (OpenSpec.ofChange reachKeepsSpec)

/-- ITS FALSE NEIGHBOUR: 'it returns false'. Refute it at one input. -/
def reachKeepsWrong : ChangeSpec := { name := "reachKeeps", fn := fun _ => fun
  | [d] => { results := [.lit (.bool false)], args := [d] }
  | _ => none }
def ReachKeepsWrongFalsely : Prop := reachKeepsRow.holds Tryz.pinned (OpenSpec.ofChange reachKeepsWrong)

/-- 'sluicelaw12.ReachPlays': WHATEVER THE INPUT: true; the input reads as it did. -/
def reachPlaysSpec : ChangeSpec := { name := "reachPlays", fn := fun _ => fun
  | [d] => { results := [.lit (.bool true)], args := [d] }
  | _ => none }
def reachPlaysRow : OpenClaim := { program := "ytiiefcalkjeieaagreat", sum := "cd77e44d2005e85adbc0d293182a72566701071e7fae7e12930c913f0478700d", func := "sluice/sluicelaw12.ReachPlays", spec := "reachPlays", inPlace := ["maps.clone"], unfollowed := true, recurses := true, plainKeys := false, apart := false }
def ReachPlaysSaid : Prop := reachPlaysRow.holds Tryz.pinned (OpenSpec.ofChange reachPlaysSpec)

/-- ITS FALSE NEIGHBOUR: 'it returns false'. Refute it at one input. -/
def reachPlaysWrong : ChangeSpec := { name := "reachPlays", fn := fun _ => fun
  | [d] => { results := [.lit (.bool false)], args := [d] }
  | _ => none }
def ReachPlaysWrongFalsely : Prop := reachPlaysRow.holds Tryz.pinned (OpenSpec.ofChange reachPlaysWrong)

/- THE SECOND FORM. 'bulk': how many values and letters a reading holds, each counted each time it is reached (what is shared counts as often as it is met; a slice's spare places count too). A statement '..UptoSaid' is the law's where the arguments, and the package variables that the reading takes, are together of bulk at most 1048576: NARROWER than '..Said'. Prove '..Said' where nothing that the law and all that it calls make is longer than what came in: it says more and counts as full. Else prove '..UptoSaid'. A law counts once. -/
mutual
def uptoBulk {H : Type} : DataW H → Nat
  | .lit (.string bytes) => bytes.length + 1
  | .lit _ => 1
  | .nil => 1
  | .ptr d => uptoBulk d + 1
  | .slice elems spare => uptoBulkAll elems + uptoBulkAll spare + 1
  | .agg parts => uptoBulkAll parts + 1
  | .iface _ d => uptoBulk d + 1
  | .map entries => uptoBulkEntries entries + 1
  | .held _ => 1
def uptoBulkAll {H : Type} : List (DataW H) → Nat
  | [] => 0
  | d :: r => uptoBulk d + uptoBulkAll r
def uptoBulkEntries {H : Type} : List (Lit × DataW H) → Nat
  | [] => 0
  | x :: r => uptoBulkEntry x + uptoBulkEntries r
def uptoBulkEntry {H : Type} : Lit × DataW H → Nat
  | (.string bytes, d) => bytes.length + uptoBulk d + 1
  | (_, d) => uptoBulk d + 1
 end
def uptoSmall : (H : Type) → List (DataW H) → Bool := fun _ ds => decide (uptoBulkAll ds ≤ 1048576)
def OpenSpec.upto (s : _root_.Go.ChangeSpec) : _root_.Go.OpenSpec := { _root_.Go.OpenSpec.ofChange s with cond := some uptoSmall }

/-- 'sluicelaw12.ReachFronts', WHERE WHAT IT READS IS OF BULK AT MOST 1048576: true; the input reads as it did. -/
def reachFrontsUptoRow : OpenClaim := { program := "ytiiefcalkjeieaagreat", sum := "cd77e44d2005e85adbc0d293182a72566701071e7fae7e12930c913f0478700d", func := "sluice/sluicelaw12.ReachFronts", spec := "reachFronts", inPlace := ["maps.clone"], unfollowed := true, recurses := true, plainKeys := false, apart := false, narrowed := true }
def ReachFrontsUptoSaid : Prop := reachFrontsUptoRow.holds Tryz.pinned (OpenSpec.upto reachFrontsSpec)

/-- 'sluicelaw12.ReachOrder', WHERE WHAT IT READS IS OF BULK AT MOST 1048576: true; the input reads as it did. -/
def reachOrderUptoRow : OpenClaim := { program := "ytiiefcalkjeieaagreat", sum := "cd77e44d2005e85adbc0d293182a72566701071e7fae7e12930c913f0478700d", func := "sluice/sluicelaw12.ReachOrder", spec := "reachOrder", inPlace := ["maps.clone"], unfollowed := true, recurses := true, plainKeys := false, apart := false, narrowed := true }
def ReachOrderUptoSaid : Prop := reachOrderUptoRow.holds Tryz.pinned (OpenSpec.upto reachOrderSpec)

/-- 'sluicelaw12.ReachKeeps', WHERE WHAT IT READS IS OF BULK AT MOST 1048576: true; the input reads as it did. -/
def reachKeepsUptoRow : OpenClaim := { program := "ytiiefcalkjeieaagreat", sum := "cd77e44d2005e85adbc0d293182a72566701071e7fae7e12930c913f0478700d", func := "sluice/sluicelaw12.ReachKeeps", spec := "reachKeeps", inPlace := ["maps.clone"], unfollowed := true, recurses := true, plainKeys := false, apart := false, narrowed := true }
def ReachKeepsUptoSaid : Prop := reachKeepsUptoRow.holds Tryz.pinned (OpenSpec.upto reachKeepsSpec)

/-- 'sluicelaw12.ReachPlays', WHERE WHAT IT READS IS OF BULK AT MOST 1048576: true; the input reads as it did. -/
def reachPlaysUptoRow : OpenClaim := { program := "ytiiefcalkjeieaagreat", sum := "cd77e44d2005e85adbc0d293182a72566701071e7fae7e12930c913f0478700d", func := "sluice/sluicelaw12.ReachPlays", spec := "reachPlays", inPlace := ["maps.clone"], unfollowed := true, recurses := true, plainKeys := false, apart := false, narrowed := true }
def ReachPlaysUptoSaid : Prop := reachPlaysUptoRow.holds Tryz.pinned (OpenSpec.upto reachPlaysSpec)

end Rows
end Go.Proofs.YtiiefcalkjeieaaGreat
