/-
  No cell of these rows narrows 'for every input' (looked for: loops, veiled, ifaces, maps, wideKeys, modest, calm, conditions, laid).
  DERIVED. THE GIVEN ROWS OF THIS SEAT. 4 by the template 'for every input the law returns true; each argument reads behind the call as it read before'; 0 by the template 'total and deterministic' (their statements: YteffgkhpcdboaaaTotals.lean).
  GIVEN WITH THE SEED: the statements are not yours to turn. If you find one false, say at which input.
  Laid BY PROGRAM, IN A SANDBOX (cutbox-rows.mjs): the forced cells as the released guide's own fill.sh prints them over the translation 0bd1f6b4bde93751… (all of the seat's roots in one cut). By AI agents, Wed Nov 11 2026. No macro, syntax, notation, axiom, sorry.
-/
import Derived.Test.YteffgkhpcdboaaaChecked
import GoSem.Claim
import GoSem.ClaimJoined
import GoSem.ClaimMapViews
import Derived.JoinedTies
import Derived.KernelRfl
namespace Go.Proofs.Yteffgkhpcdboaaa
/- THE CELL 'sum', in the pinned program and in every row, IS THE sha256 OF THE DUMP (.gsa) THAT YteffgkhpcdboaaaProg.lean LOADS. Nothing in Lean hashes anything: it is a label: what it is worth is what the hold of that sum in a sandbox is worth. -/
noncomputable def Try.pinned : Pinned := { name := "yteffgkhpcdboaaa", sum := "0bd1f6b4bde93751c00de15ffd6d5ae9db1f97a92052893cb2865aee58c062bc", checked := Try.checked }
namespace Rows
def none {H : Type} : Left H := { results := [], args := [] }

/-- 'sluicelaw05.MultiRange': WHATEVER THE INPUT: true; the input reads as it did. -/
def multiRangeSpec : ChangeSpec := { name := "multiRange", fn := fun _ => fun
  | [d1, d2, d3] => { results := [.lit (.bool true)], args := [d1, d2, d3] }
  | _ => none }
def multiRangeRow : OpenClaim := { program := "yteffgkhpcdboaaa", sum := "0bd1f6b4bde93751c00de15ffd6d5ae9db1f97a92052893cb2865aee58c062bc", func := "sluice/sluicelaw05.MultiRange", spec := "multiRange", inPlace := ["maps.clone"], unfollowed := true, recurses := true, plainKeys := false, apart := false }
def MultiRangeSaid : Prop := multiRangeRow.holds Try.pinned (OpenSpec.ofChange multiRangeSpec)

/-- ITS FALSE NEIGHBOUR: 'it returns false'. Refute it at one input. -/
def multiRangeWrong : ChangeSpec := { name := "multiRange", fn := fun _ => fun
  | [d1, d2, d3] => { results := [.lit (.bool false)], args := [d1, d2, d3] }
  | _ => none }
def MultiRangeWrongFalsely : Prop := multiRangeRow.holds Try.pinned (OpenSpec.ofChange multiRangeWrong)

/-- 'sluicelaw05.MultiSplit': WHATEVER THE INPUT: true; the input reads as it did. -/
def multiSplitSpec : ChangeSpec := { name := "multiSplit", fn := fun _ => fun
  | [d] => { results := [.lit (.bool true)], args := [d] }
  | _ => none }
def multiSplitRow : OpenClaim := { program := "yteffgkhpcdboaaa", sum := "0bd1f6b4bde93751c00de15ffd6d5ae9db1f97a92052893cb2865aee58c062bc", func := "sluice/sluicelaw05.MultiSplit", spec := "multiSplit", inPlace := ["maps.clone"], unfollowed := true, recurses := true, plainKeys := false, apart := false }
def MultiSplitSaid : Prop := multiSplitRow.holds Try.pinned (OpenSpec.ofChange multiSplitSpec)

/-- ITS FALSE NEIGHBOUR: 'it returns false'. Refute it at one input. -/
def multiSplitWrong : ChangeSpec := { name := "multiSplit", fn := fun _ => fun
  | [d] => { results := [.lit (.bool false)], args := [d] }
  | _ => none }
def MultiSplitWrongFalsely : Prop := multiSplitRow.holds Try.pinned (OpenSpec.ofChange multiSplitWrong)

/-- 'sluicelaw05.MultiFronts': WHATEVER THE INPUT: true; the input reads as it did. -/
def multiFrontsSpec : ChangeSpec := { name := "multiFronts", fn := fun _ => fun
  | [d1, d2] => { results := [.lit (.bool true)], args := [d1, d2] }
  | _ => none }
def multiFrontsRow : OpenClaim := { program := "yteffgkhpcdboaaa", sum := "0bd1f6b4bde93751c00de15ffd6d5ae9db1f97a92052893cb2865aee58c062bc", func := "sluice/sluicelaw05.MultiFronts", spec := "multiFronts", inPlace := ["maps.clone"], unfollowed := true, recurses := true, plainKeys := false, apart := false }
def MultiFrontsSaid : Prop := multiFrontsRow.holds Try.pinned (OpenSpec.ofChange multiFrontsSpec)

/-- ITS FALSE NEIGHBOUR: 'it returns false'. Refute it at one input. -/
def multiFrontsWrong : ChangeSpec := { name := "multiFronts", fn := fun _ => fun
  | [d1, d2] => { results := [.lit (.bool false)], args := [d1, d2] }
  | _ => none }
def MultiFrontsWrongFalsely : Prop := multiFrontsRow.holds Try.pinned (OpenSpec.ofChange multiFrontsWrong)

/-- 'sluicelaw05.MultiTells': WHATEVER THE INPUT: true; the input reads as it did. -/
def multiTellsSpec : ChangeSpec := { name := "multiTells", fn := fun _ => fun
  | [d] => { results := [.lit (.bool true)], args := [d] }
  | _ => none }
def multiTellsRow : OpenClaim := { program := "yteffgkhpcdboaaa", sum := "0bd1f6b4bde93751c00de15ffd6d5ae9db1f97a92052893cb2865aee58c062bc", func := "sluice/sluicelaw05.MultiTells", spec := "multiTells", inPlace := ["maps.clone"], unfollowed := true, recurses := true, plainKeys := false, apart := false }
def MultiTellsSaid : Prop := multiTellsRow.holds Try.pinned (OpenSpec.ofChange multiTellsSpec)

/-- ITS FALSE NEIGHBOUR: 'it returns false'. Refute it at one input. -/
def multiTellsWrong : ChangeSpec := { name := "multiTells", fn := fun _ => fun
  | [d] => { results := [.lit (.bool false)], args := [d] }
  | _ => none }
def MultiTellsWrongFalsely : Prop := multiTellsRow.holds Try.pinned (OpenSpec.ofChange multiTellsWrong)

/- THE SECOND FORM. 'bulk': how many values and letters a reading holds, each counted each time it is reached (what is shared counts as often as it is met; a slice's spare places count too). A statement '..UptoSaid' is the law's where the arguments, and the package variables that the reading takes, are together of bulk at most 1048576: NARROWER than '..Said'. Prove '..Said' where nothing that the law and all that it calls make is longer than what came in: it says more and counts as full. Else prove '..UptoSaid'. A law counts once. -/
mutual
def uptoBulk {H : Type} : DataW H → Nat
  | .lit (.string bytes) => bytes.length + 1
  | .lit _ => 1
  | .nil => 1
  | .ptr d => uptoBulk d + 1
  | .slice elems spare => uptoBulkAll elems + uptoBulkAll spare + 1
  | .agg parts => uptoBulkAll parts + 1
  | .iface _ d => uptoBulk d + 1
  | .map entries => uptoBulkEntries entries + 1
  | .held _ => 1
def uptoBulkAll {H : Type} : List (DataW H) → Nat
  | [] => 0
  | d :: r => uptoBulk d + uptoBulkAll r
def uptoBulkEntries {H : Type} : List (Lit × DataW H) → Nat
  | [] => 0
  | x :: r => uptoBulkEntry x + uptoBulkEntries r
def uptoBulkEntry {H : Type} : Lit × DataW H → Nat
  | (.string bytes, d) => bytes.length + uptoBulk d + 1
  | (_, d) => uptoBulk d + 1
 end
def uptoSmall : (H : Type) → List (DataW H) → Bool := fun _ ds => decide (uptoBulkAll ds ≤ 1048576)
def OpenSpec.upto (s : _root_.Go.ChangeSpec) : _root_.Go.OpenSpec := { _root_.Go.OpenSpec.ofChange s with cond := some uptoSmall }

/-- 'sluicelaw05.MultiRange', WHERE WHAT IT READS IS OF BULK AT MOST 1048576: true; the input reads as it did. -/
def multiRangeUptoRow : OpenClaim := { program := "yteffgkhpcdboaaa", sum := "0bd1f6b4bde93751c00de15ffd6d5ae9db1f97a92052893cb2865aee58c062bc", func := "sluice/sluicelaw05.MultiRange", spec := "multiRange", inPlace := ["maps.clone"], unfollowed := true, recurses := true, plainKeys := false, apart := false, narrowed := true }
def MultiRangeUptoSaid : Prop := multiRangeUptoRow.holds Try.pinned (OpenSpec.upto multiRangeSpec)

/-- 'sluicelaw05.MultiSplit', WHERE WHAT IT READS IS OF BULK AT MOST 1048576: true; the input reads as it did. -/
def multiSplitUptoRow : OpenClaim := { program := "yteffgkhpcdboaaa", sum := "0bd1f6b4bde93751c00de15ffd6d5ae9db1f97a92052893cb2865aee58c062bc", func := "sluice/sluicelaw05.MultiSplit", spec := "multiSplit", inPlace := ["maps.clone"], unfollowed := true, recurses := true, plainKeys := false, apart := false, narrowed := true }
def MultiSplitUptoSaid : Prop := multiSplitUptoRow.holds Try.pinned (OpenSpec.upto multiSplitSpec)

/-- 'sluicelaw05.MultiFronts', WHERE WHAT IT READS IS OF BULK AT MOST 1048576: true; the input reads as it did. -/
def multiFrontsUptoRow : OpenClaim := { program := "yteffgkhpcdboaaa", sum := "0bd1f6b4bde93751c00de15ffd6d5ae9db1f97a92052893cb2865aee58c062bc", func := "sluice/sluicelaw05.MultiFronts", spec := "multiFronts", inPlace := ["maps.clone"], unfollowed := true, recurses := true, plainKeys := false, apart := false, narrowed := true }
def MultiFrontsUptoSaid : Prop := multiFrontsUptoRow.holds Try.pinned (OpenSpec.upto multiFrontsSpec)

/-- 'sluicelaw05.MultiTells', WHERE WHAT IT READS IS OF BULK AT MOST 1048576: true; the input reads as it did. -/
def multiTellsUptoRow : OpenClaim := { program := "yteffgkhpcdboaaa", sum := "0bd1f6b4bde93751c00de15ffd6d5ae9db1f97a92052893cb2865aee58c062bc", func := "sluice/sluicelaw05.MultiTells", spec := "multiTells", inPlace := ["maps.clone"], unfollowed := true, recurses := true, plainKeys := false, apart := false, narrowed := true }
def MultiTellsUptoSaid : Prop := multiTellsUptoRow.holds Try.pinned (OpenSpec.upto multiTellsSpec)

end Rows
end Go.Proofs.Yteffgkhpcdboaaa
