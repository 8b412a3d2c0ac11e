/-
  DERIVED. GIVEN WITH THE SEED: THE CARDS: each row of YtconceigfommeaaDoorRows.lean that lists a variable, with what it lists TIED to the program's text (the seventh form; the later family's looks); each row that meets fmt, with fmt's text TOLD by the authors' own Lean function (tested against real Go, not proved from fmt's source: count such statements apart). THE CARD IS WHAT COUNTS. Prove the row's statement (the work); the ties are given (YtconceigfommeaaDoorTie.lean); close each card by the builder's one call (the guide's Derived/Test/ToyasCard.lean, 'card_holds'). Laid BY PROGRAM, IN A SANDBOX (cutbox-door.mjs). By AI agents, Wed Nov 11 2026. No macro, syntax, notation, axiom, sorry.
-/
import Derived.Test.YtconceigfommeaaDoorRows
import GoSem.ClaimSeven
namespace Go.Proofs.YtconceigfommeaaDoor
namespace Rows

/-- THE TIED CARD OF 'sluicelaw01.StampBack'. -/
def stampBackCard : Claim7 := { stood := { row := stampBackRow, standIns := [], harness := (true, "d9fb4fa35decf985ad55bab08c2c3d09850a210304a4701fd25ea0a3d83e29b9"), looks := true }, kinds := [], alts := [], laidByText := true, laidKinds := [.data, .data, .data, .data, .sentinel, .sentinel, .pinned], laidTests := true, laidLooks := .later }
def StampBackCardSaid : Prop := Claim7.holds Tryd.pinned (.plain (OpenSpec.ofChange stampBackSpec)) stampBackCard

/-- THE TIED CARD OF 'sluicelaw01.StampLeast'. -/
def stampLeastCard : Claim7 := { stood := { row := stampLeastRow, standIns := [], harness := (true, "d9fb4fa35decf985ad55bab08c2c3d09850a210304a4701fd25ea0a3d83e29b9"), looks := true }, kinds := [], alts := [], laidByText := true, laidKinds := [.data, .data, .data, .data, .sentinel, .sentinel, .pinned], laidTests := true, laidLooks := .later }
def StampLeastCardSaid : Prop := Claim7.holds Tryd.pinned (.plain (OpenSpec.ofChange stampLeastSpec)) stampLeastCard

/-- THE SECOND FORM's CARD OF 'sluicelaw01.StampBack'. -/
def stampBackUptoCard : Claim7 := { stood := { row := stampBackUptoRow, standIns := [], harness := (true, "d9fb4fa35decf985ad55bab08c2c3d09850a210304a4701fd25ea0a3d83e29b9"), looks := true }, kinds := [], alts := [], laidByText := true, laidKinds := [.data, .data, .data, .data, .sentinel, .sentinel, .pinned], laidTests := true, laidLooks := .later }
def StampBackUptoCardSaid : Prop := Claim7.holds Tryd.pinned (.plain (OpenSpec.upto stampBackSpec)) stampBackUptoCard

/-- THE SECOND FORM's CARD OF 'sluicelaw01.StampLeast'. -/
def stampLeastUptoCard : Claim7 := { stood := { row := stampLeastUptoRow, standIns := [], harness := (true, "d9fb4fa35decf985ad55bab08c2c3d09850a210304a4701fd25ea0a3d83e29b9"), looks := true }, kinds := [], alts := [], laidByText := true, laidKinds := [.data, .data, .data, .data, .sentinel, .sentinel, .pinned], laidTests := true, laidLooks := .later }
def StampLeastUptoCardSaid : Prop := Claim7.holds Tryd.pinned (.plain (OpenSpec.upto stampLeastSpec)) stampLeastUptoCard
end Rows
end Go.Proofs.YtconceigfommeaaDoor
