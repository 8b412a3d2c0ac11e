/-
  DERIVED. GIVEN WITH THE SEED: THE CARDS: each row of YtknejahmjfgmhabGreatDoorRows.lean that lists a variable, with what it lists TIED to the program's text (the seventh form; the later family's looks); each row that meets fmt, with fmt's text TOLD by the authors' own Lean function (tested against real Go, not proved from fmt's source: count such statements apart). THE CARD IS WHAT COUNTS. Prove the row's statement (the work); the ties are given (YtknejahmjfgmhabGreatDoorTie.lean); close each card by the builder's one call (the guide's Derived/Test/ToyasCard.lean, 'card_holds'). Laid BY PROGRAM, IN A SANDBOX (cutbox-door.mjs). By AI agents, Wed Nov 11 2026. No macro, syntax, notation, axiom, sorry.
-/
import Derived.Test.YtknejahmjfgmhabGreatDoorRows
import GoSem.ClaimSeven
namespace Go.Proofs.YtknejahmjfgmhabGreatDoor
namespace Rows

/-- THE TIED CARD OF 'sluicelaw02.PathTexts'. -/
def pathTextsCard : Claim7 := { stood := { row := pathTextsRow, standIns := [], harness := (true, "e6c39bd12425562409ac290b53b7a991399931275571b6ff29346c045b109972"), looks := true }, kinds := [], alts := [], laidByText := true, laidKinds := [.data, .data, .data, .data, .sentinel, .sentinel, .pinned], laidTests := true, laidLooks := .later }
def PathTextsCardSaid : Prop := Claim7.holds Tryz.pinned (.plain (OpenSpec.ofChange pathTextsSpec)) pathTextsCard

/-- THE TIED CARD OF 'sluicelaw02.PathPlays'. -/
def pathPlaysCard : Claim7 := { stood := { row := pathPlaysRow, standIns := [], harness := (true, "e6c39bd12425562409ac290b53b7a991399931275571b6ff29346c045b109972"), looks := true }, kinds := [], alts := [], laidByText := true, laidKinds := [.data, .data, .data, .data, .sentinel, .sentinel, .pinned], laidTests := true, laidLooks := .later }
def PathPlaysCardSaid : Prop := Claim7.holds Tryz.pinned (.plain (OpenSpec.ofChange pathPlaysSpec)) pathPlaysCard

/-- THE SECOND FORM's CARD OF 'sluicelaw02.PathTexts'. -/
def pathTextsUptoCard : Claim7 := { stood := { row := pathTextsUptoRow, standIns := [], harness := (true, "e6c39bd12425562409ac290b53b7a991399931275571b6ff29346c045b109972"), looks := true }, kinds := [], alts := [], laidByText := true, laidKinds := [.data, .data, .data, .data, .sentinel, .sentinel, .pinned], laidTests := true, laidLooks := .later }
def PathTextsUptoCardSaid : Prop := Claim7.holds Tryz.pinned (.plain (OpenSpec.upto pathTextsSpec)) pathTextsUptoCard

/-- THE SECOND FORM's CARD OF 'sluicelaw02.PathPlays'. -/
def pathPlaysUptoCard : Claim7 := { stood := { row := pathPlaysUptoRow, standIns := [], harness := (true, "e6c39bd12425562409ac290b53b7a991399931275571b6ff29346c045b109972"), looks := true }, kinds := [], alts := [], laidByText := true, laidKinds := [.data, .data, .data, .data, .sentinel, .sentinel, .pinned], laidTests := true, laidLooks := .later }
def PathPlaysUptoCardSaid : Prop := Claim7.holds Tryz.pinned (.plain (OpenSpec.upto pathPlaysSpec)) pathPlaysUptoCard
end Rows
end Go.Proofs.YtknejahmjfgmhabGreatDoor
