/-
  No cell of these rows narrows 'for every input' (looked for: loops, veiled, ifaces, maps, wideKeys, modest, calm, conditions, laid).
  DERIVED. THE GIVEN ROWS OF THIS SEAT. 3 by the template 'for every input the law returns true; each argument reads behind the call as it read before'; 0 by the template 'total and deterministic' (their statements: YtijbmchgajhkeaaTotals.lean).
  GIVEN WITH THE SEED: the statements are not yours to turn. If you find one false, say at which input.
  Laid BY PROGRAM, IN A SANDBOX (cutbox-rows.mjs): the forced cells as the released guide's own fill.sh prints them over the translation 6bacebbbc3697fca… (all of the seat's roots in one cut). By AI agents, Wed Nov 11 2026. No macro, syntax, notation, axiom, sorry.
-/
import Derived.Test.YtijbmchgajhkeaaChecked
import GoSem.Claim
import GoSem.ClaimJoined
import GoSem.ClaimMapViews
import Derived.JoinedTies
import Derived.KernelRfl
namespace Go.Proofs.Ytijbmchgajhkeaa
/- THE CELL 'sum', in the pinned program and in every row, IS THE sha256 OF THE DUMP (.gsa) THAT YtijbmchgajhkeaaProg.lean LOADS. Nothing in Lean hashes anything: it is a label: what it is worth is what the hold of that sum in a sandbox is worth. -/
noncomputable def Try.pinned : Pinned := { name := "ytijbmchgajhkeaa", sum := "6bacebbbc3697fca8baa7d8b1735717b7773a39b3971386223041144e796ada1", checked := Try.checked }
namespace Rows
def none {H : Type} : Left H := { results := [], args := [] }

/-- 'sluicelaw22.SumsLikes': WHATEVER THE INPUT: true; the input reads as it did. -/
def sumsLikesSpec : ChangeSpec := { name := "sumsLikes", fn := fun _ => fun
  | [d1, d2] => { results := [.lit (.bool true)], args := [d1, d2] }
  | _ => none }
def sumsLikesRow : OpenClaim := { program := "ytijbmchgajhkeaa", sum := "6bacebbbc3697fca8baa7d8b1735717b7773a39b3971386223041144e796ada1", func := "sluice/sluicelaw22.SumsLikes", spec := "sumsLikes", unfollowed := true, recurses := true, plainKeys := false, apart := false }
def SumsLikesSaid : Prop := sumsLikesRow.holds Try.pinned (OpenSpec.ofChange sumsLikesSpec)

/-- ITS FALSE NEIGHBOUR: 'it returns false'. Refute it at one input. -/
def sumsLikesWrong : ChangeSpec := { name := "sumsLikes", fn := fun _ => fun
  | [d1, d2] => { results := [.lit (.bool false)], args := [d1, d2] }
  | _ => none }
def SumsLikesWrongFalsely : Prop := sumsLikesRow.holds Try.pinned (OpenSpec.ofChange sumsLikesWrong)

/-- 'sluicelaw22.SumsKeeps': WHATEVER THE INPUT: true; the input reads as it did. -/
def sumsKeepsSpec : ChangeSpec := { name := "sumsKeeps", fn := fun _ => fun
  | [d1, d2] => { results := [.lit (.bool true)], args := [d1, d2] }
  | _ => none }
def sumsKeepsRow : OpenClaim := { program := "ytijbmchgajhkeaa", sum := "6bacebbbc3697fca8baa7d8b1735717b7773a39b3971386223041144e796ada1", func := "sluice/sluicelaw22.SumsKeeps", spec := "sumsKeeps", inPlace := ["maps.clone"], unfollowed := true, recurses := true, plainKeys := false, apart := false }
def SumsKeepsSaid : Prop := sumsKeepsRow.holds Try.pinned (OpenSpec.ofChange sumsKeepsSpec)

/-- ITS FALSE NEIGHBOUR: 'it returns false'. Refute it at one input. -/
def sumsKeepsWrong : ChangeSpec := { name := "sumsKeeps", fn := fun _ => fun
  | [d1, d2] => { results := [.lit (.bool false)], args := [d1, d2] }
  | _ => none }
def SumsKeepsWrongFalsely : Prop := sumsKeepsRow.holds Try.pinned (OpenSpec.ofChange sumsKeepsWrong)

/-- 'sluicelaw22.SumsPlays': WHATEVER THE INPUT: true; the input reads as it did. -/
def sumsPlaysSpec : ChangeSpec := { name := "sumsPlays", fn := fun _ => fun
  | [d] => { results := [.lit (.bool true)], args := [d] }
  | _ => none }
def sumsPlaysRow : OpenClaim := { program := "ytijbmchgajhkeaa", sum := "6bacebbbc3697fca8baa7d8b1735717b7773a39b3971386223041144e796ada1", func := "sluice/sluicelaw22.SumsPlays", spec := "sumsPlays", inPlace := ["maps.clone"], unfollowed := true, recurses := true, plainKeys := false, apart := false }
def SumsPlaysSaid : Prop := sumsPlaysRow.holds Try.pinned (OpenSpec.ofChange sumsPlaysSpec)

/-- ITS FALSE NEIGHBOUR: 'it returns false'. Refute it at one input. -/
def sumsPlaysWrong : ChangeSpec := { name := "sumsPlays", fn := fun _ => fun
  | [d] => { results := [.lit (.bool false)], args := [d] }
  | _ => none }
def SumsPlaysWrongFalsely : Prop := sumsPlaysRow.holds Try.pinned (OpenSpec.ofChange sumsPlaysWrong)

/- THE SECOND FORM. 'bulk': how many values and letters a reading holds, each counted each time it is reached (what is shared counts as often as it is met; a slice's spare places count too). A statement '..UptoSaid' is the law's where the arguments, and the package variables that the reading takes, are together of bulk at most 1048576: NARROWER than '..Said'. Prove '..Said' where nothing that the law and all that it calls make is longer than what came in: it says more and counts as full. Else prove '..UptoSaid'. A law counts once. -/
mutual
def uptoBulk {H : Type} : DataW H → Nat
  | .lit (.string bytes) => bytes.length + 1
  | .lit _ => 1
  | .nil => 1
  | .ptr d => uptoBulk d + 1
  | .slice elems spare => uptoBulkAll elems + uptoBulkAll spare + 1
  | .agg parts => uptoBulkAll parts + 1
  | .iface _ d => uptoBulk d + 1
  | .map entries => uptoBulkEntries entries + 1
  | .held _ => 1
def uptoBulkAll {H : Type} : List (DataW H) → Nat
  | [] => 0
  | d :: r => uptoBulk d + uptoBulkAll r
def uptoBulkEntries {H : Type} : List (Lit × DataW H) → Nat
  | [] => 0
  | x :: r => uptoBulkEntry x + uptoBulkEntries r
def uptoBulkEntry {H : Type} : Lit × DataW H → Nat
  | (.string bytes, d) => bytes.length + uptoBulk d + 1
  | (_, d) => uptoBulk d + 1
 end
def uptoSmall : (H : Type) → List (DataW H) → Bool := fun _ ds => decide (uptoBulkAll ds ≤ 1048576)
def OpenSpec.upto (s : _root_.Go.ChangeSpec) : _root_.Go.OpenSpec := { _root_.Go.OpenSpec.ofChange s with cond := some uptoSmall }

/-- 'sluicelaw22.SumsLikes', WHERE WHAT IT READS IS OF BULK AT MOST 1048576: true; the input reads as it did. -/
def sumsLikesUptoRow : OpenClaim := { program := "ytijbmchgajhkeaa", sum := "6bacebbbc3697fca8baa7d8b1735717b7773a39b3971386223041144e796ada1", func := "sluice/sluicelaw22.SumsLikes", spec := "sumsLikes", unfollowed := true, recurses := true, plainKeys := false, apart := false, narrowed := true }
def SumsLikesUptoSaid : Prop := sumsLikesUptoRow.holds Try.pinned (OpenSpec.upto sumsLikesSpec)

/-- 'sluicelaw22.SumsKeeps', WHERE WHAT IT READS IS OF BULK AT MOST 1048576: true; the input reads as it did. -/
def sumsKeepsUptoRow : OpenClaim := { program := "ytijbmchgajhkeaa", sum := "6bacebbbc3697fca8baa7d8b1735717b7773a39b3971386223041144e796ada1", func := "sluice/sluicelaw22.SumsKeeps", spec := "sumsKeeps", inPlace := ["maps.clone"], unfollowed := true, recurses := true, plainKeys := false, apart := false, narrowed := true }
def SumsKeepsUptoSaid : Prop := sumsKeepsUptoRow.holds Try.pinned (OpenSpec.upto sumsKeepsSpec)

/-- 'sluicelaw22.SumsPlays', WHERE WHAT IT READS IS OF BULK AT MOST 1048576: true; the input reads as it did. -/
def sumsPlaysUptoRow : OpenClaim := { program := "ytijbmchgajhkeaa", sum := "6bacebbbc3697fca8baa7d8b1735717b7773a39b3971386223041144e796ada1", func := "sluice/sluicelaw22.SumsPlays", spec := "sumsPlays", inPlace := ["maps.clone"], unfollowed := true, recurses := true, plainKeys := false, apart := false, narrowed := true }
def SumsPlaysUptoSaid : Prop := sumsPlaysUptoRow.holds Try.pinned (OpenSpec.upto sumsPlaysSpec)

end Rows
end Go.Proofs.Ytijbmchgajhkeaa
