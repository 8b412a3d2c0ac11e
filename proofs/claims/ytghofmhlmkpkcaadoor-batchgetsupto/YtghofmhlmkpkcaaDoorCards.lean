/-
  DERIVED. GIVEN WITH THE SEED: THE CARDS: each row of YtghofmhlmkpkcaaDoorRows.lean that lists a variable, with what it lists TIED to the program's text (the seventh form; the later family's looks); each row that meets fmt, with fmt's text TOLD by the authors' own Lean function (tested against real Go, not proved from fmt's source: count such statements apart). THE CARD IS WHAT COUNTS. Prove the row's statement (the work); the ties are given (YtghofmhlmkpkcaaDoorTie.lean); close each card by the builder's one call (the guide's Derived/Test/ToyasCard.lean, 'card_holds'). Laid BY PROGRAM, IN A SANDBOX (cutbox-door.mjs). By AI agents, Wed Nov 11 2026. No macro, syntax, notation, axiom, sorry.
-/
import Derived.Test.YtghofmhlmkpkcaaDoorRows
import GoSem.ClaimSeven
namespace Go.Proofs.YtghofmhlmkpkcaaDoor
namespace Rows

/-- THE TIED CARD OF 'sluicelaw15.BatchOne'. -/
def batchOneCard : Claim7 := { stood := { row := batchOneRow, standIns := [], harness := (true, "8f0dbbe0ff0117666404d96857c85808e403e4371ee38ae949066ba8c7ab9964"), looks := true }, kinds := [], alts := [], laidByText := true, laidKinds := [.data, .data, .data, .handle], laidTests := true, laidLooks := .later }
def BatchOneCardSaid : Prop := Claim7.holds Tryd.pinned (.plain (OpenSpec.ofChange batchOneSpec)) batchOneCard

/-- THE TIED CARD OF 'sluicelaw15.BatchBack'. -/
def batchBackCard : Claim7 := { stood := { row := batchBackRow, standIns := [], harness := (true, "8f0dbbe0ff0117666404d96857c85808e403e4371ee38ae949066ba8c7ab9964"), looks := true }, kinds := [], alts := [], laidByText := true, laidKinds := [.data, .data, .data, .handle], laidTests := true, laidLooks := .later }
def BatchBackCardSaid : Prop := Claim7.holds Tryd.pinned (.plain (OpenSpec.ofChange batchBackSpec)) batchBackCard

/-- THE TIED CARD OF 'sluicelaw15.BatchPuts'. -/
def batchPutsCard : Claim7 := { stood := { row := batchPutsRow, standIns := [], harness := (true, "8f0dbbe0ff0117666404d96857c85808e403e4371ee38ae949066ba8c7ab9964"), looks := true }, kinds := [], alts := [], laidByText := true, laidKinds := [.data, .data, .data, .handle], laidTests := true, laidLooks := .later }
def BatchPutsCardSaid : Prop := Claim7.holds Tryd.pinned (.plain (OpenSpec.ofChange batchPutsSpec)) batchPutsCard

/-- THE TIED CARD OF 'sluicelaw15.BatchGets'. -/
def batchGetsCard : Claim7 := { stood := { row := batchGetsRow, standIns := [], harness := (true, "8f0dbbe0ff0117666404d96857c85808e403e4371ee38ae949066ba8c7ab9964"), looks := true }, kinds := [], alts := [], laidByText := true, laidKinds := [.data, .data, .data, .handle], laidTests := true, laidLooks := .later }
def BatchGetsCardSaid : Prop := Claim7.holds Tryd.pinned (.plain (OpenSpec.ofChange batchGetsSpec)) batchGetsCard

/-- THE SECOND FORM's CARD OF 'sluicelaw15.BatchOne'. -/
def batchOneUptoCard : Claim7 := { stood := { row := batchOneUptoRow, standIns := [], harness := (true, "8f0dbbe0ff0117666404d96857c85808e403e4371ee38ae949066ba8c7ab9964"), looks := true }, kinds := [], alts := [], laidByText := true, laidKinds := [.data, .data, .data, .handle], laidTests := true, laidLooks := .later }
def BatchOneUptoCardSaid : Prop := Claim7.holds Tryd.pinned (.plain (OpenSpec.upto batchOneSpec)) batchOneUptoCard

/-- THE SECOND FORM's CARD OF 'sluicelaw15.BatchBack'. -/
def batchBackUptoCard : Claim7 := { stood := { row := batchBackUptoRow, standIns := [], harness := (true, "8f0dbbe0ff0117666404d96857c85808e403e4371ee38ae949066ba8c7ab9964"), looks := true }, kinds := [], alts := [], laidByText := true, laidKinds := [.data, .data, .data, .handle], laidTests := true, laidLooks := .later }
def BatchBackUptoCardSaid : Prop := Claim7.holds Tryd.pinned (.plain (OpenSpec.upto batchBackSpec)) batchBackUptoCard

/-- THE SECOND FORM's CARD OF 'sluicelaw15.BatchPuts'. -/
def batchPutsUptoCard : Claim7 := { stood := { row := batchPutsUptoRow, standIns := [], harness := (true, "8f0dbbe0ff0117666404d96857c85808e403e4371ee38ae949066ba8c7ab9964"), looks := true }, kinds := [], alts := [], laidByText := true, laidKinds := [.data, .data, .data, .handle], laidTests := true, laidLooks := .later }
def BatchPutsUptoCardSaid : Prop := Claim7.holds Tryd.pinned (.plain (OpenSpec.upto batchPutsSpec)) batchPutsUptoCard

/-- THE SECOND FORM's CARD OF 'sluicelaw15.BatchGets'. -/
def batchGetsUptoCard : Claim7 := { stood := { row := batchGetsUptoRow, standIns := [], harness := (true, "8f0dbbe0ff0117666404d96857c85808e403e4371ee38ae949066ba8c7ab9964"), looks := true }, kinds := [], alts := [], laidByText := true, laidKinds := [.data, .data, .data, .handle], laidTests := true, laidLooks := .later }
def BatchGetsUptoCardSaid : Prop := Claim7.holds Tryd.pinned (.plain (OpenSpec.upto batchGetsSpec)) batchGetsUptoCard
end Rows
end Go.Proofs.YtghofmhlmkpkcaaDoor
