/-
  DERIVED. GIVEN WITH THE SEED: THE CARDS: each row of YtpmpjbnnjdpbnaaDoorRows.lean that lists a variable, with what it lists TIED to the program's text (the seventh form; the later family's looks); each row that meets fmt, with fmt's text TOLD by the authors' own Lean function (tested against real Go, not proved from fmt's source: count such statements apart). THE CARD IS WHAT COUNTS. Prove the row's statement (the work); the ties are given (YtpmpjbnnjdpbnaaDoorTie.lean); close each card by the builder's one call (the guide's Derived/Test/ToyasCard.lean, 'card_holds'). Laid BY PROGRAM, IN A SANDBOX (cutbox-door.mjs). By AI agents, Wed Nov 11 2026. No macro, syntax, notation, axiom, sorry.
-/
import Derived.Test.YtpmpjbnnjdpbnaaDoorRows
import GoSem.ClaimSeven
namespace Go.Proofs.YtpmpjbnnjdpbnaaDoor
namespace Rows

/-- THE TIED CARD OF 'derricklaw04.TypesReads'. -/
def typesReadsCard : Claim7 := { stood := { row := typesReadsRow, standIns := [], harness := (true, "e9fec765ee7198c56313cd91bd8ccee86b362b0bed0fd87f59ccb5f0036f88c9"), looks := true }, kinds := [], alts := [], laidByText := true, laidKinds := [.handle, .data], laidTests := true, laidLooks := .later }
def TypesReadsCardSaid : Prop := Claim7.holds Tryd.pinned (.plain (OpenSpec.ofChange typesReadsSpec)) typesReadsCard

/-- THE TIED CARD OF 'derricklaw04.TypesPairs'. -/
def typesPairsCard : Claim7 := { stood := { row := typesPairsRow, standIns := [], harness := (true, "e9fec765ee7198c56313cd91bd8ccee86b362b0bed0fd87f59ccb5f0036f88c9"), looks := true }, kinds := [], alts := [], laidByText := true, laidKinds := [.handle, .data], laidTests := true, laidLooks := .later }
def TypesPairsCardSaid : Prop := Claim7.holds Tryd.pinned (.plain (OpenSpec.ofChange typesPairsSpec)) typesPairsCard

/-- THE TIED CARD OF 'derricklaw04.TypesOf'. -/
def typesOfCard : Claim7 := { stood := { row := typesOfRow, standIns := [], harness := (true, "e9fec765ee7198c56313cd91bd8ccee86b362b0bed0fd87f59ccb5f0036f88c9"), looks := true }, kinds := [], alts := [], laidByText := true, laidKinds := [.handle, .data], laidTests := true, laidLooks := .later }
def TypesOfCardSaid : Prop := Claim7.holds Tryd.pinned (.plain (OpenSpec.ofChange typesOfSpec)) typesOfCard

/-- THE TIED CARD OF 'derricklaw04.TypesMakes'. -/
def typesMakesCard : Claim7 := { stood := { row := typesMakesRow, standIns := [], harness := (true, "e9fec765ee7198c56313cd91bd8ccee86b362b0bed0fd87f59ccb5f0036f88c9"), looks := true }, kinds := [], alts := [], laidByText := true, laidKinds := [.handle, .data], laidTests := true, laidLooks := .later }
def TypesMakesCardSaid : Prop := Claim7.holds Tryd.pinned (.plain (OpenSpec.ofChange typesMakesSpec)) typesMakesCard

/-- THE TIED CARD OF 'derricklaw04.TypesLong'. -/
def typesLongCard : Claim7 := { stood := { row := typesLongRow, standIns := [], harness := (true, "e9fec765ee7198c56313cd91bd8ccee86b362b0bed0fd87f59ccb5f0036f88c9"), looks := true }, kinds := [], alts := [], laidByText := true, laidKinds := [.handle, .data], laidTests := true, laidLooks := .later }
def TypesLongCardSaid : Prop := Claim7.holds Tryd.pinned (.plain (OpenSpec.ofChange typesLongSpec)) typesLongCard

/-- THE SECOND FORM's CARD OF 'derricklaw04.TypesReads'. -/
def typesReadsUptoCard : Claim7 := { stood := { row := typesReadsUptoRow, standIns := [], harness := (true, "e9fec765ee7198c56313cd91bd8ccee86b362b0bed0fd87f59ccb5f0036f88c9"), looks := true }, kinds := [], alts := [], laidByText := true, laidKinds := [.handle, .data], laidTests := true, laidLooks := .later }
def TypesReadsUptoCardSaid : Prop := Claim7.holds Tryd.pinned (.plain (OpenSpec.upto typesReadsSpec)) typesReadsUptoCard

/-- THE SECOND FORM's CARD OF 'derricklaw04.TypesPairs'. -/
def typesPairsUptoCard : Claim7 := { stood := { row := typesPairsUptoRow, standIns := [], harness := (true, "e9fec765ee7198c56313cd91bd8ccee86b362b0bed0fd87f59ccb5f0036f88c9"), looks := true }, kinds := [], alts := [], laidByText := true, laidKinds := [.handle, .data], laidTests := true, laidLooks := .later }
def TypesPairsUptoCardSaid : Prop := Claim7.holds Tryd.pinned (.plain (OpenSpec.upto typesPairsSpec)) typesPairsUptoCard

/-- THE SECOND FORM's CARD OF 'derricklaw04.TypesOf'. -/
def typesOfUptoCard : Claim7 := { stood := { row := typesOfUptoRow, standIns := [], harness := (true, "e9fec765ee7198c56313cd91bd8ccee86b362b0bed0fd87f59ccb5f0036f88c9"), looks := true }, kinds := [], alts := [], laidByText := true, laidKinds := [.handle, .data], laidTests := true, laidLooks := .later }
def TypesOfUptoCardSaid : Prop := Claim7.holds Tryd.pinned (.plain (OpenSpec.upto typesOfSpec)) typesOfUptoCard

/-- THE SECOND FORM's CARD OF 'derricklaw04.TypesMakes'. -/
def typesMakesUptoCard : Claim7 := { stood := { row := typesMakesUptoRow, standIns := [], harness := (true, "e9fec765ee7198c56313cd91bd8ccee86b362b0bed0fd87f59ccb5f0036f88c9"), looks := true }, kinds := [], alts := [], laidByText := true, laidKinds := [.handle, .data], laidTests := true, laidLooks := .later }
def TypesMakesUptoCardSaid : Prop := Claim7.holds Tryd.pinned (.plain (OpenSpec.upto typesMakesSpec)) typesMakesUptoCard

/-- THE SECOND FORM's CARD OF 'derricklaw04.TypesLong'. -/
def typesLongUptoCard : Claim7 := { stood := { row := typesLongUptoRow, standIns := [], harness := (true, "e9fec765ee7198c56313cd91bd8ccee86b362b0bed0fd87f59ccb5f0036f88c9"), looks := true }, kinds := [], alts := [], laidByText := true, laidKinds := [.handle, .data], laidTests := true, laidLooks := .later }
def TypesLongUptoCardSaid : Prop := Claim7.holds Tryd.pinned (.plain (OpenSpec.upto typesLongSpec)) typesLongUptoCard
end Rows
end Go.Proofs.YtpmpjbnnjdpbnaaDoor
