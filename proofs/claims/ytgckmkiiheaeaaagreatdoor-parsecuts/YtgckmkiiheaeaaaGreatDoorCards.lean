/-
  DERIVED. GIVEN WITH THE SEED: THE CARDS: each row of YtgckmkiiheaeaaaGreatDoorRows.lean that lists a variable, with what it lists TIED to the program's text (the seventh form; the later family's looks); each row that meets fmt, with fmt's text TOLD by the authors' own Lean function (tested against real Go, not proved from fmt's source: count such statements apart). THE CARD IS WHAT COUNTS. Prove the row's statement (the work); the ties are given (YtgckmkiiheaeaaaGreatDoorTie.lean); close each card by the builder's one call (the guide's Derived/Test/ToyasCard.lean, 'card_holds'). Laid BY PROGRAM, IN A SANDBOX (cutbox-door.mjs). By AI agents, Wed Nov 11 2026. No macro, syntax, notation, axiom, sorry.
-/
import Derived.Test.YtgckmkiiheaeaaaGreatDoorRows
import GoSem.ClaimSeven
namespace Go.Proofs.YtgckmkiiheaeaaaGreatDoor
namespace Rows

/-- THE TIED CARD OF 'derricklaw02.ParseBares'. -/
def parseBaresCard : Claim7 := { stood := { row := parseBaresRow, standIns := [], harness := (true, "bc41080c95c1a42b8b4611e49d62f200253c4b107c815c3eb85bb2d52458e698"), looks := true }, kinds := [], alts := [], laidByText := true, laidKinds := [.handle, .data], laidTests := true, laidLooks := .later }
def ParseBaresCardSaid : Prop := Claim7.holds Tryz.pinned (.plain (OpenSpec.ofChange parseBaresSpec)) parseBaresCard

/-- THE TIED CARD OF 'derricklaw02.ParseSpaced'. -/
def parseSpacedCard : Claim7 := { stood := { row := parseSpacedRow, standIns := [], harness := (true, "bc41080c95c1a42b8b4611e49d62f200253c4b107c815c3eb85bb2d52458e698"), looks := true }, kinds := [], alts := [], laidByText := true, laidKinds := [.handle, .data], laidTests := true, laidLooks := .later }
def ParseSpacedCardSaid : Prop := Claim7.holds Tryz.pinned (.plain (OpenSpec.ofChange parseSpacedSpec)) parseSpacedCard

/-- THE TIED CARD OF 'derricklaw02.ParseCuts'. -/
def parseCutsCard : Claim7 := { stood := { row := parseCutsRow, standIns := [], harness := (true, "bc41080c95c1a42b8b4611e49d62f200253c4b107c815c3eb85bb2d52458e698"), looks := true }, kinds := [], alts := [], laidByText := true, laidKinds := [.handle, .data], laidTests := true, laidLooks := .later }
def ParseCutsCardSaid : Prop := Claim7.holds Tryz.pinned (.plain (OpenSpec.ofChange parseCutsSpec)) parseCutsCard

/-- THE TIED CARD OF 'derricklaw02.ParseBinds'. -/
def parseBindsCard : Claim7 := { stood := { row := parseBindsRow, standIns := [], harness := (true, "bc41080c95c1a42b8b4611e49d62f200253c4b107c815c3eb85bb2d52458e698"), looks := true }, kinds := [], alts := [], laidByText := true, laidKinds := [.handle, .data], laidTests := true, laidLooks := .later }
def ParseBindsCardSaid : Prop := Claim7.holds Tryz.pinned (.plain (OpenSpec.ofChange parseBindsSpec)) parseBindsCard

/-- THE SECOND FORM's CARD OF 'derricklaw02.ParseBares'. -/
def parseBaresUptoCard : Claim7 := { stood := { row := parseBaresUptoRow, standIns := [], harness := (true, "bc41080c95c1a42b8b4611e49d62f200253c4b107c815c3eb85bb2d52458e698"), looks := true }, kinds := [], alts := [], laidByText := true, laidKinds := [.handle, .data], laidTests := true, laidLooks := .later }
def ParseBaresUptoCardSaid : Prop := Claim7.holds Tryz.pinned (.plain (OpenSpec.upto parseBaresSpec)) parseBaresUptoCard

/-- THE SECOND FORM's CARD OF 'derricklaw02.ParseSpaced'. -/
def parseSpacedUptoCard : Claim7 := { stood := { row := parseSpacedUptoRow, standIns := [], harness := (true, "bc41080c95c1a42b8b4611e49d62f200253c4b107c815c3eb85bb2d52458e698"), looks := true }, kinds := [], alts := [], laidByText := true, laidKinds := [.handle, .data], laidTests := true, laidLooks := .later }
def ParseSpacedUptoCardSaid : Prop := Claim7.holds Tryz.pinned (.plain (OpenSpec.upto parseSpacedSpec)) parseSpacedUptoCard

/-- THE SECOND FORM's CARD OF 'derricklaw02.ParseCuts'. -/
def parseCutsUptoCard : Claim7 := { stood := { row := parseCutsUptoRow, standIns := [], harness := (true, "bc41080c95c1a42b8b4611e49d62f200253c4b107c815c3eb85bb2d52458e698"), looks := true }, kinds := [], alts := [], laidByText := true, laidKinds := [.handle, .data], laidTests := true, laidLooks := .later }
def ParseCutsUptoCardSaid : Prop := Claim7.holds Tryz.pinned (.plain (OpenSpec.upto parseCutsSpec)) parseCutsUptoCard

/-- THE SECOND FORM's CARD OF 'derricklaw02.ParseBinds'. -/
def parseBindsUptoCard : Claim7 := { stood := { row := parseBindsUptoRow, standIns := [], harness := (true, "bc41080c95c1a42b8b4611e49d62f200253c4b107c815c3eb85bb2d52458e698"), looks := true }, kinds := [], alts := [], laidByText := true, laidKinds := [.handle, .data], laidTests := true, laidLooks := .later }
def ParseBindsUptoCardSaid : Prop := Claim7.holds Tryz.pinned (.plain (OpenSpec.upto parseBindsSpec)) parseBindsUptoCard
end Rows
end Go.Proofs.YtgckmkiiheaeaaaGreatDoor
