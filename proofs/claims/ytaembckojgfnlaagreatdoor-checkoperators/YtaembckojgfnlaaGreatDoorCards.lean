/-
  DERIVED. GIVEN WITH THE SEED: THE CARDS: each row of YtaembckojgfnlaaGreatDoorRows.lean that lists a variable, with what it lists TIED to the program's text (the seventh form; the later family's looks); each row that meets fmt, with fmt's text TOLD by the authors' own Lean function (tested against real Go, not proved from fmt's source: count such statements apart). THE CARD IS WHAT COUNTS. Prove the row's statement (the work); the ties are given (YtaembckojgfnlaaGreatDoorTie.lean); close each card by the builder's one call (the guide's Derived/Test/ToyasCard.lean, 'card_holds'). Laid BY PROGRAM, IN A SANDBOX (cutbox-door.mjs). By AI agents, Wed Nov 11 2026. No macro, syntax, notation, axiom, sorry.
-/
import Derived.Test.YtaembckojgfnlaaGreatDoorRows
import GoSem.ClaimSeven
namespace Go.Proofs.YtaembckojgfnlaaGreatDoor
namespace Rows

/-- THE TIED CARD OF 'derricklaw05.CheckOperators'. -/
def checkOperatorsCard : Claim7 := { stood := { row := checkOperatorsRow, standIns := [], harness := (true, "3bc758b0eaf49cc0606a2e2c4a270f973e918c6e8ba5b58cdb5b5e9b0d9e91cf"), looks := true }, kinds := [], alts := [], laidByText := true, laidKinds := [.handle, .data, .sentinel, .sentinel, .sentinel, .sentinel, .sentinel, .sentinel], laidTests := true, laidLooks := .later }
def CheckOperatorsCardSaid : Prop := Claim7.holds Tryz.pinned (.plain (OpenSpec.ofChange checkOperatorsSpec)) checkOperatorsCard

/-- THE SECOND FORM's CARD OF 'derricklaw05.CheckOperators'. -/
def checkOperatorsUptoCard : Claim7 := { stood := { row := checkOperatorsUptoRow, standIns := [], harness := (true, "3bc758b0eaf49cc0606a2e2c4a270f973e918c6e8ba5b58cdb5b5e9b0d9e91cf"), looks := true }, kinds := [], alts := [], laidByText := true, laidKinds := [.handle, .data, .sentinel, .sentinel, .sentinel, .sentinel, .sentinel, .sentinel], laidTests := true, laidLooks := .later }
def CheckOperatorsUptoCardSaid : Prop := Claim7.holds Tryz.pinned (.plain (OpenSpec.upto checkOperatorsSpec)) checkOperatorsUptoCard
end Rows
end Go.Proofs.YtaembckojgfnlaaGreatDoor
