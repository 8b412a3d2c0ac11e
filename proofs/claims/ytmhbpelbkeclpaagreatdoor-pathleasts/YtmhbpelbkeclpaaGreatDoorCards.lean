/-
  DERIVED. GIVEN WITH THE SEED: THE CARDS: each row of YtmhbpelbkeclpaaGreatDoorRows.lean that lists a variable, with what it lists TIED to the program's text (the seventh form; the later family's looks); each row that meets fmt, with fmt's text TOLD by the authors' own Lean function (tested against real Go, not proved from fmt's source: count such statements apart). THE CARD IS WHAT COUNTS. Prove the row's statement (the work); the ties are given (YtmhbpelbkeclpaaGreatDoorTie.lean); close each card by the builder's one call (the guide's Derived/Test/ToyasCard.lean, 'card_holds'). Laid BY PROGRAM, IN A SANDBOX (cutbox-door.mjs). By AI agents, Wed Nov 11 2026. No macro, syntax, notation, axiom, sorry.
-/
import Derived.Test.YtmhbpelbkeclpaaGreatDoorRows
import GoSem.ClaimSeven
namespace Go.Proofs.YtmhbpelbkeclpaaGreatDoor
namespace Rows

/-- THE TIED CARD OF 'sluicelaw01.StampFronts'. -/
def stampFrontsCard : Claim7 := { stood := { row := stampFrontsRow, standIns := [], harness := (true, "3afdd950259a3a95afcc7d2714e2e3e1ebd897d6653ef99745116be963d07134"), looks := true }, kinds := [], alts := [], laidByText := true, laidKinds := [.data, .data, .data, .data, .sentinel, .sentinel, .pinned], laidTests := true, laidLooks := .later }
def StampFrontsCardSaid : Prop := Claim7.holds Tryz.pinned (.plain (OpenSpec.ofChange stampFrontsSpec)) stampFrontsCard

/-- THE TIED CARD OF 'sluicelaw02.PathLeasts'. -/
def pathLeastsCard : Claim7 := { stood := { row := pathLeastsRow, standIns := [], harness := (true, "3afdd950259a3a95afcc7d2714e2e3e1ebd897d6653ef99745116be963d07134"), looks := true }, kinds := [], alts := [], laidByText := true, laidKinds := [.data, .data, .data, .data, .sentinel, .sentinel, .pinned], laidTests := true, laidLooks := .later }
def PathLeastsCardSaid : Prop := Claim7.holds Tryz.pinned (.plain (OpenSpec.ofChange pathLeastsSpec)) pathLeastsCard

/-- THE SECOND FORM's CARD OF 'sluicelaw01.StampFronts'. -/
def stampFrontsUptoCard : Claim7 := { stood := { row := stampFrontsUptoRow, standIns := [], harness := (true, "3afdd950259a3a95afcc7d2714e2e3e1ebd897d6653ef99745116be963d07134"), looks := true }, kinds := [], alts := [], laidByText := true, laidKinds := [.data, .data, .data, .data, .sentinel, .sentinel, .pinned], laidTests := true, laidLooks := .later }
def StampFrontsUptoCardSaid : Prop := Claim7.holds Tryz.pinned (.plain (OpenSpec.upto stampFrontsSpec)) stampFrontsUptoCard

/-- THE SECOND FORM's CARD OF 'sluicelaw02.PathLeasts'. -/
def pathLeastsUptoCard : Claim7 := { stood := { row := pathLeastsUptoRow, standIns := [], harness := (true, "3afdd950259a3a95afcc7d2714e2e3e1ebd897d6653ef99745116be963d07134"), looks := true }, kinds := [], alts := [], laidByText := true, laidKinds := [.data, .data, .data, .data, .sentinel, .sentinel, .pinned], laidTests := true, laidLooks := .later }
def PathLeastsUptoCardSaid : Prop := Claim7.holds Tryz.pinned (.plain (OpenSpec.upto pathLeastsSpec)) pathLeastsUptoCard
end Rows
end Go.Proofs.YtmhbpelbkeclpaaGreatDoor
