/-
  DERIVED. GIVEN WITH THE SEED: THE CARDS: each row of YtconceigfommeaaGreatDoorRows.lean that lists a variable, with what it lists TIED to the program's text (the seventh form; the later family's looks); each row that meets fmt, with fmt's text TOLD by the authors' own Lean function (tested against real Go, not proved from fmt's source: count such statements apart). THE CARD IS WHAT COUNTS. Prove the row's statement (the work); the ties are given (YtconceigfommeaaGreatDoorTie.lean); close each card by the builder's one call (the guide's Derived/Test/ToyasCard.lean, 'card_holds'). Laid BY PROGRAM, IN A SANDBOX (cutbox-door.mjs). By AI agents, Wed Nov 11 2026. No macro, syntax, notation, axiom, sorry.
-/
import Derived.Test.YtconceigfommeaaGreatDoorRows
import GoSem.ClaimSeven
namespace Go.Proofs.YtconceigfommeaaGreatDoor
namespace Rows

/-- THE TIED CARD OF 'sluicelaw01.StampOrders'. -/
def stampOrdersCard : Claim7 := { stood := { row := stampOrdersRow, standIns := [], harness := (true, "00933b1540778e0c35071b7f1adc5762ff7461cdfecd322447f4c9df635b77b1"), looks := true }, kinds := [], alts := [], laidByText := true, laidKinds := [.data, .data, .data, .data, .sentinel, .sentinel, .pinned], laidTests := true, laidLooks := .later }
def StampOrdersCardSaid : Prop := Claim7.holds Tryz.pinned (.plain (OpenSpec.ofChange stampOrdersSpec)) stampOrdersCard

/-- THE TIED CARD OF 'sluicelaw01.StampTexts'. -/
def stampTextsCard : Claim7 := { stood := { row := stampTextsRow, standIns := [], harness := (true, "00933b1540778e0c35071b7f1adc5762ff7461cdfecd322447f4c9df635b77b1"), looks := true }, kinds := [], alts := [], laidByText := true, laidKinds := [.data, .data, .data, .data, .sentinel, .sentinel, .pinned], laidTests := true, laidLooks := .later }
def StampTextsCardSaid : Prop := Claim7.holds Tryz.pinned (.plain (OpenSpec.ofChange stampTextsSpec)) stampTextsCard

/-- THE TIED CARD OF 'sluicelaw01.StampTwo'. -/
def stampTwoCard : Claim7 := { stood := { row := stampTwoRow, standIns := [], harness := (true, "00933b1540778e0c35071b7f1adc5762ff7461cdfecd322447f4c9df635b77b1"), looks := true }, kinds := [], alts := [], laidByText := true, laidKinds := [.data, .data, .data, .data, .sentinel, .sentinel, .pinned], laidTests := true, laidLooks := .later }
def StampTwoCardSaid : Prop := Claim7.holds Tryz.pinned (.plain (OpenSpec.ofChange stampTwoSpec)) stampTwoCard

/-- THE TIED CARD OF 'sluicelaw01.StampFronts'. -/
def stampFrontsCard : Claim7 := { stood := { row := stampFrontsRow, standIns := [], harness := (true, "00933b1540778e0c35071b7f1adc5762ff7461cdfecd322447f4c9df635b77b1"), looks := true }, kinds := [], alts := [], laidByText := true, laidKinds := [.data, .data, .data, .data, .sentinel, .sentinel, .pinned], laidTests := true, laidLooks := .later }
def StampFrontsCardSaid : Prop := Claim7.holds Tryz.pinned (.plain (OpenSpec.ofChange stampFrontsSpec)) stampFrontsCard

/-- THE SECOND FORM's CARD OF 'sluicelaw01.StampOrders'. -/
def stampOrdersUptoCard : Claim7 := { stood := { row := stampOrdersUptoRow, standIns := [], harness := (true, "00933b1540778e0c35071b7f1adc5762ff7461cdfecd322447f4c9df635b77b1"), looks := true }, kinds := [], alts := [], laidByText := true, laidKinds := [.data, .data, .data, .data, .sentinel, .sentinel, .pinned], laidTests := true, laidLooks := .later }
def StampOrdersUptoCardSaid : Prop := Claim7.holds Tryz.pinned (.plain (OpenSpec.upto stampOrdersSpec)) stampOrdersUptoCard

/-- THE SECOND FORM's CARD OF 'sluicelaw01.StampTexts'. -/
def stampTextsUptoCard : Claim7 := { stood := { row := stampTextsUptoRow, standIns := [], harness := (true, "00933b1540778e0c35071b7f1adc5762ff7461cdfecd322447f4c9df635b77b1"), looks := true }, kinds := [], alts := [], laidByText := true, laidKinds := [.data, .data, .data, .data, .sentinel, .sentinel, .pinned], laidTests := true, laidLooks := .later }
def StampTextsUptoCardSaid : Prop := Claim7.holds Tryz.pinned (.plain (OpenSpec.upto stampTextsSpec)) stampTextsUptoCard

/-- THE SECOND FORM's CARD OF 'sluicelaw01.StampTwo'. -/
def stampTwoUptoCard : Claim7 := { stood := { row := stampTwoUptoRow, standIns := [], harness := (true, "00933b1540778e0c35071b7f1adc5762ff7461cdfecd322447f4c9df635b77b1"), looks := true }, kinds := [], alts := [], laidByText := true, laidKinds := [.data, .data, .data, .data, .sentinel, .sentinel, .pinned], laidTests := true, laidLooks := .later }
def StampTwoUptoCardSaid : Prop := Claim7.holds Tryz.pinned (.plain (OpenSpec.upto stampTwoSpec)) stampTwoUptoCard

/-- THE SECOND FORM's CARD OF 'sluicelaw01.StampFronts'. -/
def stampFrontsUptoCard : Claim7 := { stood := { row := stampFrontsUptoRow, standIns := [], harness := (true, "00933b1540778e0c35071b7f1adc5762ff7461cdfecd322447f4c9df635b77b1"), looks := true }, kinds := [], alts := [], laidByText := true, laidKinds := [.data, .data, .data, .data, .sentinel, .sentinel, .pinned], laidTests := true, laidLooks := .later }
def StampFrontsUptoCardSaid : Prop := Claim7.holds Tryz.pinned (.plain (OpenSpec.upto stampFrontsSpec)) stampFrontsUptoCard
end Rows
end Go.Proofs.YtconceigfommeaaGreatDoor
