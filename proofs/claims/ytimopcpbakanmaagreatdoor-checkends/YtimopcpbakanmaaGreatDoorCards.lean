/-
  DERIVED. GIVEN WITH THE SEED: THE CARDS: each row of YtimopcpbakanmaaGreatDoorRows.lean that lists a variable, with what it lists TIED to the program's text (the seventh form; the later family's looks); each row that meets fmt, with fmt's text TOLD by the authors' own Lean function (tested against real Go, not proved from fmt's source: count such statements apart). THE CARD IS WHAT COUNTS. Prove the row's statement (the work); the ties are given (YtimopcpbakanmaaGreatDoorTie.lean); close each card by the builder's one call (the guide's Derived/Test/ToyasCard.lean, 'card_holds'). Laid BY PROGRAM, IN A SANDBOX (cutbox-door.mjs). By AI agents, Wed Nov 11 2026. No macro, syntax, notation, axiom, sorry.
-/
import Derived.Test.YtimopcpbakanmaaGreatDoorRows
import GoSem.ClaimSeven
namespace Go.Proofs.YtimopcpbakanmaaGreatDoor
namespace Rows

/-- THE TIED CARD OF 'derricklaw05.CheckNames'. -/
def checkNamesCard : Claim7 := { stood := { row := checkNamesRow, standIns := [], harness := (true, "b88714630581d2d20fe701dd066287fd240b2c3b8c12c494a78524e79650a6ba"), looks := true }, kinds := [], alts := [], laidByText := true, laidKinds := [.handle, .data, .sentinel, .sentinel, .sentinel, .sentinel, .sentinel, .sentinel], laidTests := true, laidLooks := .later }
def CheckNamesCardSaid : Prop := Claim7.holds Tryz.pinned (.plain (OpenSpec.ofChange checkNamesSpec)) checkNamesCard

/-- THE TIED CARD OF 'derricklaw05.CheckBuiltins'. -/
def checkBuiltinsCard : Claim7 := { stood := { row := checkBuiltinsRow, standIns := [], harness := (true, "b88714630581d2d20fe701dd066287fd240b2c3b8c12c494a78524e79650a6ba"), looks := true }, kinds := [], alts := [], laidByText := true, laidKinds := [.handle, .data, .sentinel, .sentinel, .sentinel, .sentinel, .sentinel, .sentinel], laidTests := true, laidLooks := .later }
def CheckBuiltinsCardSaid : Prop := Claim7.holds Tryz.pinned (.plain (OpenSpec.ofChange checkBuiltinsSpec)) checkBuiltinsCard

/-- THE TIED CARD OF 'derricklaw05.CheckFits'. -/
def checkFitsCard : Claim7 := { stood := { row := checkFitsRow, standIns := [], harness := (true, "b88714630581d2d20fe701dd066287fd240b2c3b8c12c494a78524e79650a6ba"), looks := true }, kinds := [], alts := [], laidByText := true, laidKinds := [.handle, .data, .sentinel, .sentinel, .sentinel, .sentinel, .sentinel, .sentinel], laidTests := true, laidLooks := .later }
def CheckFitsCardSaid : Prop := Claim7.holds Tryz.pinned (.plain (OpenSpec.ofChange checkFitsSpec)) checkFitsCard

/-- THE TIED CARD OF 'derricklaw05.CheckJumps'. -/
def checkJumpsCard : Claim7 := { stood := { row := checkJumpsRow, standIns := [], harness := (true, "b88714630581d2d20fe701dd066287fd240b2c3b8c12c494a78524e79650a6ba"), looks := true }, kinds := [], alts := [], laidByText := true, laidKinds := [.handle, .data, .sentinel, .sentinel, .sentinel, .sentinel, .sentinel, .sentinel], laidTests := true, laidLooks := .later }
def CheckJumpsCardSaid : Prop := Claim7.holds Tryz.pinned (.plain (OpenSpec.ofChange checkJumpsSpec)) checkJumpsCard

/-- THE TIED CARD OF 'derricklaw05.CheckEnds'. -/
def checkEndsCard : Claim7 := { stood := { row := checkEndsRow, standIns := [], harness := (true, "b88714630581d2d20fe701dd066287fd240b2c3b8c12c494a78524e79650a6ba"), looks := true }, kinds := [], alts := [], laidByText := true, laidKinds := [.handle, .data, .sentinel, .sentinel, .sentinel, .sentinel, .sentinel, .sentinel], laidTests := true, laidLooks := .later }
def CheckEndsCardSaid : Prop := Claim7.holds Tryz.pinned (.plain (OpenSpec.ofChange checkEndsSpec)) checkEndsCard

/-- THE SECOND FORM's CARD OF 'derricklaw05.CheckNames'. -/
def checkNamesUptoCard : Claim7 := { stood := { row := checkNamesUptoRow, standIns := [], harness := (true, "b88714630581d2d20fe701dd066287fd240b2c3b8c12c494a78524e79650a6ba"), looks := true }, kinds := [], alts := [], laidByText := true, laidKinds := [.handle, .data, .sentinel, .sentinel, .sentinel, .sentinel, .sentinel, .sentinel], laidTests := true, laidLooks := .later }
def CheckNamesUptoCardSaid : Prop := Claim7.holds Tryz.pinned (.plain (OpenSpec.upto checkNamesSpec)) checkNamesUptoCard

/-- THE SECOND FORM's CARD OF 'derricklaw05.CheckBuiltins'. -/
def checkBuiltinsUptoCard : Claim7 := { stood := { row := checkBuiltinsUptoRow, standIns := [], harness := (true, "b88714630581d2d20fe701dd066287fd240b2c3b8c12c494a78524e79650a6ba"), looks := true }, kinds := [], alts := [], laidByText := true, laidKinds := [.handle, .data, .sentinel, .sentinel, .sentinel, .sentinel, .sentinel, .sentinel], laidTests := true, laidLooks := .later }
def CheckBuiltinsUptoCardSaid : Prop := Claim7.holds Tryz.pinned (.plain (OpenSpec.upto checkBuiltinsSpec)) checkBuiltinsUptoCard

/-- THE SECOND FORM's CARD OF 'derricklaw05.CheckFits'. -/
def checkFitsUptoCard : Claim7 := { stood := { row := checkFitsUptoRow, standIns := [], harness := (true, "b88714630581d2d20fe701dd066287fd240b2c3b8c12c494a78524e79650a6ba"), looks := true }, kinds := [], alts := [], laidByText := true, laidKinds := [.handle, .data, .sentinel, .sentinel, .sentinel, .sentinel, .sentinel, .sentinel], laidTests := true, laidLooks := .later }
def CheckFitsUptoCardSaid : Prop := Claim7.holds Tryz.pinned (.plain (OpenSpec.upto checkFitsSpec)) checkFitsUptoCard

/-- THE SECOND FORM's CARD OF 'derricklaw05.CheckJumps'. -/
def checkJumpsUptoCard : Claim7 := { stood := { row := checkJumpsUptoRow, standIns := [], harness := (true, "b88714630581d2d20fe701dd066287fd240b2c3b8c12c494a78524e79650a6ba"), looks := true }, kinds := [], alts := [], laidByText := true, laidKinds := [.handle, .data, .sentinel, .sentinel, .sentinel, .sentinel, .sentinel, .sentinel], laidTests := true, laidLooks := .later }
def CheckJumpsUptoCardSaid : Prop := Claim7.holds Tryz.pinned (.plain (OpenSpec.upto checkJumpsSpec)) checkJumpsUptoCard

/-- THE SECOND FORM's CARD OF 'derricklaw05.CheckEnds'. -/
def checkEndsUptoCard : Claim7 := { stood := { row := checkEndsUptoRow, standIns := [], harness := (true, "b88714630581d2d20fe701dd066287fd240b2c3b8c12c494a78524e79650a6ba"), looks := true }, kinds := [], alts := [], laidByText := true, laidKinds := [.handle, .data, .sentinel, .sentinel, .sentinel, .sentinel, .sentinel, .sentinel], laidTests := true, laidLooks := .later }
def CheckEndsUptoCardSaid : Prop := Claim7.holds Tryz.pinned (.plain (OpenSpec.upto checkEndsSpec)) checkEndsUptoCard
end Rows
end Go.Proofs.YtimopcpbakanmaaGreatDoor
