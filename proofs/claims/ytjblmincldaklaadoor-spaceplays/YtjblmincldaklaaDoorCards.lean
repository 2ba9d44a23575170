/-
  DERIVED. GIVEN WITH THE SEED: THE CARDS: each row of YtjblmincldaklaaDoorRows.lean that lists a variable, with what it lists TIED to the program's text (the seventh form; the later family's looks); each row that meets fmt, with fmt's text TOLD by the authors' own Lean function (tested against real Go, not proved from fmt's source: count such statements apart). THE CARD IS WHAT COUNTS. Prove the row's statement (the work); the ties are given (YtjblmincldaklaaDoorTie.lean); close each card by the builder's one call (the guide's Derived/Test/ToyasCard.lean, 'card_holds'). Laid BY PROGRAM, IN A SANDBOX (cutbox-door.mjs). By AI agents, Wed Nov 11 2026. No macro, syntax, notation, axiom, sorry.
-/
import Derived.Test.YtjblmincldaklaaDoorRows
import GoSem.ClaimSeven
namespace Go.Proofs.YtjblmincldaklaaDoor
namespace Rows

/-- THE TIED CARD OF 'derricklaw12.SpacePlays'. -/
def spacePlaysCard : Claim7 := { stood := { row := spacePlaysRow, standIns := [], harness := (true, "6d1898eee787562c21047912179bf80e17b817c82d88107994b28e977a79f087"), looks := false }, kinds := [], alts := [], laidByText := true, laidKinds := [.data, .data], laidTests := true, laidLooks := .later }
def SpacePlaysCardSaid : Prop := Claim7.holds Tryd.pinned (.plain (OpenSpec.ofChange spacePlaysSpec)) spacePlaysCard

/-- THE TIED CARD OF 'derricklaw12.SpaceKeeps'. -/
def spaceKeepsCard : Claim7 := { stood := { row := spaceKeepsRow, standIns := [], harness := (true, "6d1898eee787562c21047912179bf80e17b817c82d88107994b28e977a79f087"), looks := false }, kinds := [], alts := [], laidByText := true, laidKinds := [.data, .data], laidTests := true, laidLooks := .later }
def SpaceKeepsCardSaid : Prop := Claim7.holds Tryd.pinned (.plain (OpenSpec.ofChange spaceKeepsSpec)) spaceKeepsCard

/-- THE TIED CARD OF 'derricklaw12.SpaceHeads'. -/
def spaceHeadsCard : Claim7 := { stood := { row := spaceHeadsRow, standIns := [], harness := (true, "6d1898eee787562c21047912179bf80e17b817c82d88107994b28e977a79f087"), looks := false }, kinds := [], alts := [], laidByText := true, laidKinds := [.data, .data], laidTests := true, laidLooks := .later }
def SpaceHeadsCardSaid : Prop := Claim7.holds Tryd.pinned (.plain (OpenSpec.ofChange spaceHeadsSpec)) spaceHeadsCard

/-- THE TIED CARD OF 'derricklaw12.SpaceDrops'. -/
def spaceDropsCard : Claim7 := { stood := { row := spaceDropsRow, standIns := [], harness := (true, "6d1898eee787562c21047912179bf80e17b817c82d88107994b28e977a79f087"), looks := false }, kinds := [], alts := [], laidByText := true, laidKinds := [.data, .data], laidTests := true, laidLooks := .later }
def SpaceDropsCardSaid : Prop := Claim7.holds Tryd.pinned (.plain (OpenSpec.ofChange spaceDropsSpec)) spaceDropsCard

/-- THE SECOND FORM's CARD OF 'derricklaw12.SpacePlays'. -/
def spacePlaysUptoCard : Claim7 := { stood := { row := spacePlaysUptoRow, standIns := [], harness := (true, "6d1898eee787562c21047912179bf80e17b817c82d88107994b28e977a79f087"), looks := false }, kinds := [], alts := [], laidByText := true, laidKinds := [.data, .data], laidTests := true, laidLooks := .later }
def SpacePlaysUptoCardSaid : Prop := Claim7.holds Tryd.pinned (.plain (OpenSpec.upto spacePlaysSpec)) spacePlaysUptoCard

/-- THE SECOND FORM's CARD OF 'derricklaw12.SpaceKeeps'. -/
def spaceKeepsUptoCard : Claim7 := { stood := { row := spaceKeepsUptoRow, standIns := [], harness := (true, "6d1898eee787562c21047912179bf80e17b817c82d88107994b28e977a79f087"), looks := false }, kinds := [], alts := [], laidByText := true, laidKinds := [.data, .data], laidTests := true, laidLooks := .later }
def SpaceKeepsUptoCardSaid : Prop := Claim7.holds Tryd.pinned (.plain (OpenSpec.upto spaceKeepsSpec)) spaceKeepsUptoCard

/-- THE SECOND FORM's CARD OF 'derricklaw12.SpaceHeads'. -/
def spaceHeadsUptoCard : Claim7 := { stood := { row := spaceHeadsUptoRow, standIns := [], harness := (true, "6d1898eee787562c21047912179bf80e17b817c82d88107994b28e977a79f087"), looks := false }, kinds := [], alts := [], laidByText := true, laidKinds := [.data, .data], laidTests := true, laidLooks := .later }
def SpaceHeadsUptoCardSaid : Prop := Claim7.holds Tryd.pinned (.plain (OpenSpec.upto spaceHeadsSpec)) spaceHeadsUptoCard

/-- THE SECOND FORM's CARD OF 'derricklaw12.SpaceDrops'. -/
def spaceDropsUptoCard : Claim7 := { stood := { row := spaceDropsUptoRow, standIns := [], harness := (true, "6d1898eee787562c21047912179bf80e17b817c82d88107994b28e977a79f087"), looks := false }, kinds := [], alts := [], laidByText := true, laidKinds := [.data, .data], laidTests := true, laidLooks := .later }
def SpaceDropsUptoCardSaid : Prop := Claim7.holds Tryd.pinned (.plain (OpenSpec.upto spaceDropsSpec)) spaceDropsUptoCard
end Rows
end Go.Proofs.YtjblmincldaklaaDoor
