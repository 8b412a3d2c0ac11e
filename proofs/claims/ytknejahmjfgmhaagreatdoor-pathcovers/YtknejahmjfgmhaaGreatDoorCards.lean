/-
  DERIVED. GIVEN WITH THE SEED: THE CARDS: each row of YtknejahmjfgmhaaGreatDoorRows.lean that lists a variable, with what it lists TIED to the program's text (the seventh form; the later family's looks); each row that meets fmt, with fmt's text TOLD by the authors' own Lean function (tested against real Go, not proved from fmt's source: count such statements apart). THE CARD IS WHAT COUNTS. Prove the row's statement (the work); the ties are given (YtknejahmjfgmhaaGreatDoorTie.lean); close each card by the builder's one call (the guide's Derived/Test/ToyasCard.lean, 'card_holds'). Laid BY PROGRAM, IN A SANDBOX (cutbox-door.mjs). By AI agents, Wed Nov 11 2026. No macro, syntax, notation, axiom, sorry.
-/
import Derived.Test.YtknejahmjfgmhaaGreatDoorRows
import GoSem.ClaimSeven
namespace Go.Proofs.YtknejahmjfgmhaaGreatDoor
namespace Rows

/-- THE TIED CARD OF 'sluicelaw01.StampFronts'. -/
def stampFrontsCard : Claim7 := { stood := { row := stampFrontsRow, standIns := [], harness := (true, "af07090fa45e7ae85a8659bf70378fdc69fde693632a4b790aab8c16d0d9c486"), looks := true }, kinds := [], alts := [], laidByText := true, laidKinds := [.data, .data, .data, .data, .sentinel, .sentinel, .pinned], laidTests := true, laidLooks := .later }
def StampFrontsCardSaid : Prop := Claim7.holds Tryz.pinned (.plain (OpenSpec.ofChange stampFrontsSpec)) stampFrontsCard

/-- THE TIED CARD OF 'sluicelaw02.PathWays'. -/
def pathWaysCard : Claim7 := { stood := { row := pathWaysRow, standIns := [], harness := (true, "af07090fa45e7ae85a8659bf70378fdc69fde693632a4b790aab8c16d0d9c486"), looks := true }, kinds := [], alts := [], laidByText := true, laidKinds := [.data, .data, .data, .data, .sentinel, .sentinel, .pinned], laidTests := true, laidLooks := .later }
def PathWaysCardSaid : Prop := Claim7.holds Tryz.pinned (.plain (OpenSpec.ofChange pathWaysSpec)) pathWaysCard

/-- THE TIED CARD OF 'sluicelaw02.PathBack'. -/
def pathBackCard : Claim7 := { stood := { row := pathBackRow, standIns := [], harness := (true, "af07090fa45e7ae85a8659bf70378fdc69fde693632a4b790aab8c16d0d9c486"), looks := true }, kinds := [], alts := [], laidByText := true, laidKinds := [.data, .data, .data, .data, .sentinel, .sentinel, .pinned], laidTests := true, laidLooks := .later }
def PathBackCardSaid : Prop := Claim7.holds Tryz.pinned (.plain (OpenSpec.ofChange pathBackSpec)) pathBackCard

/-- THE TIED CARD OF 'sluicelaw02.PathRises'. -/
def pathRisesCard : Claim7 := { stood := { row := pathRisesRow, standIns := [], harness := (true, "af07090fa45e7ae85a8659bf70378fdc69fde693632a4b790aab8c16d0d9c486"), looks := true }, kinds := [], alts := [], laidByText := true, laidKinds := [.data, .data, .data, .data, .sentinel, .sentinel, .pinned], laidTests := true, laidLooks := .later }
def PathRisesCardSaid : Prop := Claim7.holds Tryz.pinned (.plain (OpenSpec.ofChange pathRisesSpec)) pathRisesCard

/-- THE TIED CARD OF 'sluicelaw02.PathCovers'. -/
def pathCoversCard : Claim7 := { stood := { row := pathCoversRow, standIns := [], harness := (true, "af07090fa45e7ae85a8659bf70378fdc69fde693632a4b790aab8c16d0d9c486"), looks := true }, kinds := [], alts := [], laidByText := true, laidKinds := [.data, .data, .data, .data, .sentinel, .sentinel, .pinned], laidTests := true, laidLooks := .later }
def PathCoversCardSaid : Prop := Claim7.holds Tryz.pinned (.plain (OpenSpec.ofChange pathCoversSpec)) pathCoversCard

/-- THE TIED CARD OF 'sluicelaw02.PathLeasts'. -/
def pathLeastsCard : Claim7 := { stood := { row := pathLeastsRow, standIns := [], harness := (true, "af07090fa45e7ae85a8659bf70378fdc69fde693632a4b790aab8c16d0d9c486"), looks := true }, kinds := [], alts := [], laidByText := true, laidKinds := [.data, .data, .data, .data, .sentinel, .sentinel, .pinned], laidTests := true, laidLooks := .later }
def PathLeastsCardSaid : Prop := Claim7.holds Tryz.pinned (.plain (OpenSpec.ofChange pathLeastsSpec)) pathLeastsCard

/-- THE SECOND FORM's CARD OF 'sluicelaw01.StampFronts'. -/
def stampFrontsUptoCard : Claim7 := { stood := { row := stampFrontsUptoRow, standIns := [], harness := (true, "af07090fa45e7ae85a8659bf70378fdc69fde693632a4b790aab8c16d0d9c486"), looks := true }, kinds := [], alts := [], laidByText := true, laidKinds := [.data, .data, .data, .data, .sentinel, .sentinel, .pinned], laidTests := true, laidLooks := .later }
def StampFrontsUptoCardSaid : Prop := Claim7.holds Tryz.pinned (.plain (OpenSpec.upto stampFrontsSpec)) stampFrontsUptoCard

/-- THE SECOND FORM's CARD OF 'sluicelaw02.PathWays'. -/
def pathWaysUptoCard : Claim7 := { stood := { row := pathWaysUptoRow, standIns := [], harness := (true, "af07090fa45e7ae85a8659bf70378fdc69fde693632a4b790aab8c16d0d9c486"), looks := true }, kinds := [], alts := [], laidByText := true, laidKinds := [.data, .data, .data, .data, .sentinel, .sentinel, .pinned], laidTests := true, laidLooks := .later }
def PathWaysUptoCardSaid : Prop := Claim7.holds Tryz.pinned (.plain (OpenSpec.upto pathWaysSpec)) pathWaysUptoCard

/-- THE SECOND FORM's CARD OF 'sluicelaw02.PathBack'. -/
def pathBackUptoCard : Claim7 := { stood := { row := pathBackUptoRow, standIns := [], harness := (true, "af07090fa45e7ae85a8659bf70378fdc69fde693632a4b790aab8c16d0d9c486"), looks := true }, kinds := [], alts := [], laidByText := true, laidKinds := [.data, .data, .data, .data, .sentinel, .sentinel, .pinned], laidTests := true, laidLooks := .later }
def PathBackUptoCardSaid : Prop := Claim7.holds Tryz.pinned (.plain (OpenSpec.upto pathBackSpec)) pathBackUptoCard

/-- THE SECOND FORM's CARD OF 'sluicelaw02.PathRises'. -/
def pathRisesUptoCard : Claim7 := { stood := { row := pathRisesUptoRow, standIns := [], harness := (true, "af07090fa45e7ae85a8659bf70378fdc69fde693632a4b790aab8c16d0d9c486"), looks := true }, kinds := [], alts := [], laidByText := true, laidKinds := [.data, .data, .data, .data, .sentinel, .sentinel, .pinned], laidTests := true, laidLooks := .later }
def PathRisesUptoCardSaid : Prop := Claim7.holds Tryz.pinned (.plain (OpenSpec.upto pathRisesSpec)) pathRisesUptoCard

/-- THE SECOND FORM's CARD OF 'sluicelaw02.PathCovers'. -/
def pathCoversUptoCard : Claim7 := { stood := { row := pathCoversUptoRow, standIns := [], harness := (true, "af07090fa45e7ae85a8659bf70378fdc69fde693632a4b790aab8c16d0d9c486"), looks := true }, kinds := [], alts := [], laidByText := true, laidKinds := [.data, .data, .data, .data, .sentinel, .sentinel, .pinned], laidTests := true, laidLooks := .later }
def PathCoversUptoCardSaid : Prop := Claim7.holds Tryz.pinned (.plain (OpenSpec.upto pathCoversSpec)) pathCoversUptoCard

/-- THE SECOND FORM's CARD OF 'sluicelaw02.PathLeasts'. -/
def pathLeastsUptoCard : Claim7 := { stood := { row := pathLeastsUptoRow, standIns := [], harness := (true, "af07090fa45e7ae85a8659bf70378fdc69fde693632a4b790aab8c16d0d9c486"), looks := true }, kinds := [], alts := [], laidByText := true, laidKinds := [.data, .data, .data, .data, .sentinel, .sentinel, .pinned], laidTests := true, laidLooks := .later }
def PathLeastsUptoCardSaid : Prop := Claim7.holds Tryz.pinned (.plain (OpenSpec.upto pathLeastsSpec)) pathLeastsUptoCard
end Rows
end Go.Proofs.YtknejahmjfgmhaaGreatDoor
