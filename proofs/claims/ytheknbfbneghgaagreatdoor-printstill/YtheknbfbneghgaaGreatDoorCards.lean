/-
  DERIVED. GIVEN WITH THE SEED: THE CARDS: each row of YtheknbfbneghgaaGreatDoorRows.lean that lists a variable, with what it lists TIED to the program's text (the seventh form; the later family's looks); each row that meets fmt, with fmt's text TOLD by the authors' own Lean function (tested against real Go, not proved from fmt's source: count such statements apart). THE CARD IS WHAT COUNTS. Prove the row's statement (the work); the ties are given (YtheknbfbneghgaaGreatDoorTie.lean); close each card by the builder's one call (the guide's Derived/Test/ToyasCard.lean, 'card_holds'). Laid BY PROGRAM, IN A SANDBOX (cutbox-door.mjs). By AI agents, Wed Nov 11 2026. No macro, syntax, notation, axiom, sorry.
-/
import Derived.Test.YtheknbfbneghgaaGreatDoorRows
import GoSem.ClaimSeven
namespace Go.Proofs.YtheknbfbneghgaaGreatDoor
namespace Rows

/-- THE TIED CARD OF 'derricklaw03.PrintStill'. -/
def printStillCard : Claim7 := { stood := { row := printStillRow, standIns := [], harness := (true, "26dd7d8fce5e593c42e666a41dafce9ce5ddf082b7b17dae186dfd7545892319"), looks := true }, kinds := [], alts := [], laidByText := true, laidKinds := [.data, .data, .data, .handle, .data], laidTests := true, laidLooks := .later }
def PrintStillCardSaid : Prop := Claim7.holds Tryz.pinned (.plain (OpenSpec.ofChange printStillSpec)) printStillCard

/-- THE TIED CARD OF 'derricklaw03.PrintLines'. -/
def printLinesCard : Claim7 := { stood := { row := printLinesRow, standIns := [], harness := (true, "26dd7d8fce5e593c42e666a41dafce9ce5ddf082b7b17dae186dfd7545892319"), looks := true }, kinds := [], alts := [], laidByText := true, laidKinds := [.data, .data, .data, .handle, .data], laidTests := true, laidLooks := .later }
def PrintLinesCardSaid : Prop := Claim7.holds Tryz.pinned (.plain (OpenSpec.ofChange printLinesSpec)) printLinesCard

/-- THE SECOND FORM's CARD OF 'derricklaw03.PrintStill'. -/
def printStillUptoCard : Claim7 := { stood := { row := printStillUptoRow, standIns := [], harness := (true, "26dd7d8fce5e593c42e666a41dafce9ce5ddf082b7b17dae186dfd7545892319"), looks := true }, kinds := [], alts := [], laidByText := true, laidKinds := [.data, .data, .data, .handle, .data], laidTests := true, laidLooks := .later }
def PrintStillUptoCardSaid : Prop := Claim7.holds Tryz.pinned (.plain (OpenSpec.upto printStillSpec)) printStillUptoCard

/-- THE SECOND FORM's CARD OF 'derricklaw03.PrintLines'. -/
def printLinesUptoCard : Claim7 := { stood := { row := printLinesUptoRow, standIns := [], harness := (true, "26dd7d8fce5e593c42e666a41dafce9ce5ddf082b7b17dae186dfd7545892319"), looks := true }, kinds := [], alts := [], laidByText := true, laidKinds := [.data, .data, .data, .handle, .data], laidTests := true, laidLooks := .later }
def PrintLinesUptoCardSaid : Prop := Claim7.holds Tryz.pinned (.plain (OpenSpec.upto printLinesSpec)) printLinesUptoCard
end Rows
end Go.Proofs.YtheknbfbneghgaaGreatDoor
