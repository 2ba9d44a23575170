/-
  DERIVED. GIVEN WITH THE SEED: THE CARDS: each row of YtkclpbbpcicpiaaDoorRows.lean that lists a variable, with what it lists TIED to the program's text (the seventh form; the later family's looks); each row that meets fmt, with fmt's text TOLD by the authors' own Lean function (tested against real Go, not proved from fmt's source: count such statements apart). THE CARD IS WHAT COUNTS. Prove the row's statement (the work); the ties are given (YtkclpbbpcicpiaaDoorTie.lean); close each card by the builder's one call (the guide's Derived/Test/ToyasCard.lean, 'card_holds'). Laid BY PROGRAM, IN A SANDBOX (cutbox-door.mjs). By AI agents, Wed Nov 11 2026. No macro, syntax, notation, axiom, sorry.
-/
import Derived.Test.YtkclpbbpcicpiaaDoorRows
import GoSem.ClaimSeven
namespace Go.Proofs.YtkclpbbpcicpiaaDoor
namespace Rows

/-- THE TIED CARD OF 'derricklaw14.ListKeeps'. -/
def listKeepsCard : Claim7 := { stood := { row := listKeepsRow, standIns := [], harness := (true, "06e9a0e89569c1aaf01ca2c24742f8e0179819801cdfe3fa5d2302311633deab"), looks := false }, kinds := [], alts := [], laidByText := true, laidKinds := [.data, .data], laidTests := true, laidLooks := .later }
def ListKeepsCardSaid : Prop := Claim7.holds Tryd.pinned (.plain (OpenSpec.ofChange listKeepsSpec)) listKeepsCard

/-- THE TIED CARD OF 'derricklaw14.ListFull'. -/
def listFullCard : Claim7 := { stood := { row := listFullRow, standIns := [], harness := (true, "06e9a0e89569c1aaf01ca2c24742f8e0179819801cdfe3fa5d2302311633deab"), looks := false }, kinds := [], alts := [], laidByText := true, laidKinds := [.data, .data], laidTests := true, laidLooks := .later }
def ListFullCardSaid : Prop := Claim7.holds Tryd.pinned (.plain (OpenSpec.ofChange listFullSpec)) listFullCard

/-- THE TIED CARD OF 'derricklaw14.ListAlias'. -/
def listAliasCard : Claim7 := { stood := { row := listAliasRow, standIns := [], harness := (true, "06e9a0e89569c1aaf01ca2c24742f8e0179819801cdfe3fa5d2302311633deab"), looks := false }, kinds := [], alts := [], laidByText := true, laidKinds := [.data, .data], laidTests := true, laidLooks := .later }
def ListAliasCardSaid : Prop := Claim7.holds Tryd.pinned (.plain (OpenSpec.ofChange listAliasSpec)) listAliasCard

/-- THE TIED CARD OF 'derricklaw14.ListGrows'. -/
def listGrowsCard : Claim7 := { stood := { row := listGrowsRow, standIns := [], harness := (true, "06e9a0e89569c1aaf01ca2c24742f8e0179819801cdfe3fa5d2302311633deab"), looks := false }, kinds := [], alts := [], laidByText := true, laidKinds := [.data, .data], laidTests := true, laidLooks := .later }
def ListGrowsCardSaid : Prop := Claim7.holds Tryd.pinned (.plain (OpenSpec.ofChange listGrowsSpec)) listGrowsCard

/-- THE SECOND FORM's CARD OF 'derricklaw14.ListKeeps'. -/
def listKeepsUptoCard : Claim7 := { stood := { row := listKeepsUptoRow, standIns := [], harness := (true, "06e9a0e89569c1aaf01ca2c24742f8e0179819801cdfe3fa5d2302311633deab"), looks := false }, kinds := [], alts := [], laidByText := true, laidKinds := [.data, .data], laidTests := true, laidLooks := .later }
def ListKeepsUptoCardSaid : Prop := Claim7.holds Tryd.pinned (.plain (OpenSpec.upto listKeepsSpec)) listKeepsUptoCard

/-- THE SECOND FORM's CARD OF 'derricklaw14.ListFull'. -/
def listFullUptoCard : Claim7 := { stood := { row := listFullUptoRow, standIns := [], harness := (true, "06e9a0e89569c1aaf01ca2c24742f8e0179819801cdfe3fa5d2302311633deab"), looks := false }, kinds := [], alts := [], laidByText := true, laidKinds := [.data, .data], laidTests := true, laidLooks := .later }
def ListFullUptoCardSaid : Prop := Claim7.holds Tryd.pinned (.plain (OpenSpec.upto listFullSpec)) listFullUptoCard

/-- THE SECOND FORM's CARD OF 'derricklaw14.ListAlias'. -/
def listAliasUptoCard : Claim7 := { stood := { row := listAliasUptoRow, standIns := [], harness := (true, "06e9a0e89569c1aaf01ca2c24742f8e0179819801cdfe3fa5d2302311633deab"), looks := false }, kinds := [], alts := [], laidByText := true, laidKinds := [.data, .data], laidTests := true, laidLooks := .later }
def ListAliasUptoCardSaid : Prop := Claim7.holds Tryd.pinned (.plain (OpenSpec.upto listAliasSpec)) listAliasUptoCard

/-- THE SECOND FORM's CARD OF 'derricklaw14.ListGrows'. -/
def listGrowsUptoCard : Claim7 := { stood := { row := listGrowsUptoRow, standIns := [], harness := (true, "06e9a0e89569c1aaf01ca2c24742f8e0179819801cdfe3fa5d2302311633deab"), looks := false }, kinds := [], alts := [], laidByText := true, laidKinds := [.data, .data], laidTests := true, laidLooks := .later }
def ListGrowsUptoCardSaid : Prop := Claim7.holds Tryd.pinned (.plain (OpenSpec.upto listGrowsSpec)) listGrowsUptoCard
end Rows
end Go.Proofs.YtkclpbbpcicpiaaDoor
