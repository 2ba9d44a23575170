/-
  DERIVED. GIVEN WITH THE SEED: THE CARDS: each row of YthfccidjckbcbaaDoorRows.lean that lists a variable, with what it lists TIED to the program's text (the seventh form; the later family's looks); each row that meets fmt, with fmt's text TOLD by the authors' own Lean function (tested against real Go, not proved from fmt's source: count such statements apart). THE CARD IS WHAT COUNTS. Prove the row's statement (the work); the ties are given (YthfccidjckbcbaaDoorTie.lean); close each card by the builder's one call (the guide's Derived/Test/ToyasCard.lean, 'card_holds'). Laid BY PROGRAM, IN A SANDBOX (cutbox-door.mjs). By AI agents, Wed Nov 11 2026. No macro, syntax, notation, axiom, sorry.
-/
import Derived.Test.YthfccidjckbcbaaDoorRows
import GoSem.ClaimSeven
namespace Go.Proofs.YthfccidjckbcbaaDoor
namespace Rows

/-- THE TIED CARD OF 'derricklaw13.TextBack'. -/
def textBackCard : Claim7 := { stood := { row := textBackRow, standIns := [], harness := (true, "60c7fc6bcc0550291eb2a8e2e23f611c3a383df957dd6d326d9ed812f5e57d5a"), looks := false }, kinds := [], alts := [], laidByText := true, laidKinds := [.data, .data], laidTests := true, laidLooks := .later }
def TextBackCardSaid : Prop := Claim7.holds Tryd.pinned (.plain (OpenSpec.ofChange textBackSpec)) textBackCard

/-- THE TIED CARD OF 'derricklaw13.TextReads'. -/
def textReadsCard : Claim7 := { stood := { row := textReadsRow, standIns := [], harness := (true, "60c7fc6bcc0550291eb2a8e2e23f611c3a383df957dd6d326d9ed812f5e57d5a"), looks := false }, kinds := [], alts := [], laidByText := true, laidKinds := [.data, .data], laidTests := true, laidLooks := .later }
def TextReadsCardSaid : Prop := Claim7.holds Tryd.pinned (.plain (OpenSpec.ofChange textReadsSpec)) textReadsCard

/-- THE TIED CARD OF 'derricklaw13.TextFull'. -/
def textFullCard : Claim7 := { stood := { row := textFullRow, standIns := [], harness := (true, "60c7fc6bcc0550291eb2a8e2e23f611c3a383df957dd6d326d9ed812f5e57d5a"), looks := false }, kinds := [], alts := [], laidByText := true, laidKinds := [.data, .data], laidTests := true, laidLooks := .later }
def TextFullCardSaid : Prop := Claim7.holds Tryd.pinned (.plain (OpenSpec.ofChange textFullSpec)) textFullCard

/-- THE TIED CARD OF 'derricklaw13.TextJoins'. -/
def textJoinsCard : Claim7 := { stood := { row := textJoinsRow, standIns := [], harness := (true, "60c7fc6bcc0550291eb2a8e2e23f611c3a383df957dd6d326d9ed812f5e57d5a"), looks := false }, kinds := [], alts := [], laidByText := true, laidKinds := [.data, .data], laidTests := true, laidLooks := .later }
def TextJoinsCardSaid : Prop := Claim7.holds Tryd.pinned (.plain (OpenSpec.ofChange textJoinsSpec)) textJoinsCard

/-- THE TIED CARD OF 'derricklaw13.TextConstants'. -/
def textConstantsCard : Claim7 := { stood := { row := textConstantsRow, standIns := [], harness := (true, "60c7fc6bcc0550291eb2a8e2e23f611c3a383df957dd6d326d9ed812f5e57d5a"), looks := false }, kinds := [], alts := [], laidByText := true, laidKinds := [.data, .data], laidTests := true, laidLooks := .later }
def TextConstantsCardSaid : Prop := Claim7.holds Tryd.pinned (.plain (OpenSpec.ofChange textConstantsSpec)) textConstantsCard

/-- THE SECOND FORM's CARD OF 'derricklaw13.TextBack'. -/
def textBackUptoCard : Claim7 := { stood := { row := textBackUptoRow, standIns := [], harness := (true, "60c7fc6bcc0550291eb2a8e2e23f611c3a383df957dd6d326d9ed812f5e57d5a"), looks := false }, kinds := [], alts := [], laidByText := true, laidKinds := [.data, .data], laidTests := true, laidLooks := .later }
def TextBackUptoCardSaid : Prop := Claim7.holds Tryd.pinned (.plain (OpenSpec.upto textBackSpec)) textBackUptoCard

/-- THE SECOND FORM's CARD OF 'derricklaw13.TextReads'. -/
def textReadsUptoCard : Claim7 := { stood := { row := textReadsUptoRow, standIns := [], harness := (true, "60c7fc6bcc0550291eb2a8e2e23f611c3a383df957dd6d326d9ed812f5e57d5a"), looks := false }, kinds := [], alts := [], laidByText := true, laidKinds := [.data, .data], laidTests := true, laidLooks := .later }
def TextReadsUptoCardSaid : Prop := Claim7.holds Tryd.pinned (.plain (OpenSpec.upto textReadsSpec)) textReadsUptoCard

/-- THE SECOND FORM's CARD OF 'derricklaw13.TextFull'. -/
def textFullUptoCard : Claim7 := { stood := { row := textFullUptoRow, standIns := [], harness := (true, "60c7fc6bcc0550291eb2a8e2e23f611c3a383df957dd6d326d9ed812f5e57d5a"), looks := false }, kinds := [], alts := [], laidByText := true, laidKinds := [.data, .data], laidTests := true, laidLooks := .later }
def TextFullUptoCardSaid : Prop := Claim7.holds Tryd.pinned (.plain (OpenSpec.upto textFullSpec)) textFullUptoCard

/-- THE SECOND FORM's CARD OF 'derricklaw13.TextJoins'. -/
def textJoinsUptoCard : Claim7 := { stood := { row := textJoinsUptoRow, standIns := [], harness := (true, "60c7fc6bcc0550291eb2a8e2e23f611c3a383df957dd6d326d9ed812f5e57d5a"), looks := false }, kinds := [], alts := [], laidByText := true, laidKinds := [.data, .data], laidTests := true, laidLooks := .later }
def TextJoinsUptoCardSaid : Prop := Claim7.holds Tryd.pinned (.plain (OpenSpec.upto textJoinsSpec)) textJoinsUptoCard

/-- THE SECOND FORM's CARD OF 'derricklaw13.TextConstants'. -/
def textConstantsUptoCard : Claim7 := { stood := { row := textConstantsUptoRow, standIns := [], harness := (true, "60c7fc6bcc0550291eb2a8e2e23f611c3a383df957dd6d326d9ed812f5e57d5a"), looks := false }, kinds := [], alts := [], laidByText := true, laidKinds := [.data, .data], laidTests := true, laidLooks := .later }
def TextConstantsUptoCardSaid : Prop := Claim7.holds Tryd.pinned (.plain (OpenSpec.upto textConstantsSpec)) textConstantsUptoCard
end Rows
end Go.Proofs.YthfccidjckbcbaaDoor
