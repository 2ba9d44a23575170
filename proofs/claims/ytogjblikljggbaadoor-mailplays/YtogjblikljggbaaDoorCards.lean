/-
  DERIVED. GIVEN WITH THE SEED: THE CARDS: each row of YtogjblikljggbaaDoorRows.lean that lists a variable, with what it lists TIED to the program's text (the seventh form; the later family's looks); each row that meets fmt, with fmt's text TOLD by the authors' own Lean function (tested against real Go, not proved from fmt's source: count such statements apart). THE CARD IS WHAT COUNTS. Prove the row's statement (the work); the ties are given (YtogjblikljggbaaDoorTie.lean); close each card by the builder's one call (the guide's Derived/Test/ToyasCard.lean, 'card_holds'). Laid BY PROGRAM, IN A SANDBOX (cutbox-door.mjs). By AI agents, Wed Nov 11 2026. No macro, syntax, notation, axiom, sorry.
-/
import Derived.Test.YtogjblikljggbaaDoorRows
import GoSem.ClaimSeven
namespace Go.Proofs.YtogjblikljggbaaDoor
namespace Rows

/-- THE TIED CARD OF 'derricklaw15.MailPlays'. -/
def mailPlaysCard : Claim7 := { stood := { row := mailPlaysRow, standIns := [], harness := (true, "a06834d129bde81d5accf77727af0068d9478ab444276fa791fea2f45882750a"), looks := false }, kinds := [], alts := [], laidByText := true, laidKinds := [.data, .data], laidTests := true, laidLooks := .later }
def MailPlaysCardSaid : Prop := Claim7.holds Tryd.pinned (.plain (OpenSpec.ofChange mailPlaysSpec)) mailPlaysCard

/-- THE TIED CARD OF 'derricklaw15.MailKeeps'. -/
def mailKeepsCard : Claim7 := { stood := { row := mailKeepsRow, standIns := [], harness := (true, "a06834d129bde81d5accf77727af0068d9478ab444276fa791fea2f45882750a"), looks := false }, kinds := [], alts := [], laidByText := true, laidKinds := [.data, .data], laidTests := true, laidLooks := .later }
def MailKeepsCardSaid : Prop := Claim7.holds Tryd.pinned (.plain (OpenSpec.ofChange mailKeepsSpec)) mailKeepsCard

/-- THE TIED CARD OF 'derricklaw15.MailNil'. -/
def mailNilCard : Claim7 := { stood := { row := mailNilRow, standIns := [], harness := (true, "a06834d129bde81d5accf77727af0068d9478ab444276fa791fea2f45882750a"), looks := false }, kinds := [], alts := [], laidByText := true, laidKinds := [.data, .data], laidTests := true, laidLooks := .later }
def MailNilCardSaid : Prop := Claim7.holds Tryd.pinned (.plain (OpenSpec.ofChange mailNilSpec)) mailNilCard

/-- THE TIED CARD OF 'derricklaw15.MailTwo'. -/
def mailTwoCard : Claim7 := { stood := { row := mailTwoRow, standIns := [], harness := (true, "a06834d129bde81d5accf77727af0068d9478ab444276fa791fea2f45882750a"), looks := false }, kinds := [], alts := [], laidByText := true, laidKinds := [.data, .data], laidTests := true, laidLooks := .later }
def MailTwoCardSaid : Prop := Claim7.holds Tryd.pinned (.plain (OpenSpec.ofChange mailTwoSpec)) mailTwoCard

/-- THE TIED CARD OF 'derricklaw15.MailTurns'. -/
def mailTurnsCard : Claim7 := { stood := { row := mailTurnsRow, standIns := [], harness := (true, "a06834d129bde81d5accf77727af0068d9478ab444276fa791fea2f45882750a"), looks := false }, kinds := [], alts := [], laidByText := true, laidKinds := [.data, .data], laidTests := true, laidLooks := .later }
def MailTurnsCardSaid : Prop := Claim7.holds Tryd.pinned (.plain (OpenSpec.ofChange mailTurnsSpec)) mailTurnsCard

/-- THE SECOND FORM's CARD OF 'derricklaw15.MailPlays'. -/
def mailPlaysUptoCard : Claim7 := { stood := { row := mailPlaysUptoRow, standIns := [], harness := (true, "a06834d129bde81d5accf77727af0068d9478ab444276fa791fea2f45882750a"), looks := false }, kinds := [], alts := [], laidByText := true, laidKinds := [.data, .data], laidTests := true, laidLooks := .later }
def MailPlaysUptoCardSaid : Prop := Claim7.holds Tryd.pinned (.plain (OpenSpec.upto mailPlaysSpec)) mailPlaysUptoCard

/-- THE SECOND FORM's CARD OF 'derricklaw15.MailKeeps'. -/
def mailKeepsUptoCard : Claim7 := { stood := { row := mailKeepsUptoRow, standIns := [], harness := (true, "a06834d129bde81d5accf77727af0068d9478ab444276fa791fea2f45882750a"), looks := false }, kinds := [], alts := [], laidByText := true, laidKinds := [.data, .data], laidTests := true, laidLooks := .later }
def MailKeepsUptoCardSaid : Prop := Claim7.holds Tryd.pinned (.plain (OpenSpec.upto mailKeepsSpec)) mailKeepsUptoCard

/-- THE SECOND FORM's CARD OF 'derricklaw15.MailNil'. -/
def mailNilUptoCard : Claim7 := { stood := { row := mailNilUptoRow, standIns := [], harness := (true, "a06834d129bde81d5accf77727af0068d9478ab444276fa791fea2f45882750a"), looks := false }, kinds := [], alts := [], laidByText := true, laidKinds := [.data, .data], laidTests := true, laidLooks := .later }
def MailNilUptoCardSaid : Prop := Claim7.holds Tryd.pinned (.plain (OpenSpec.upto mailNilSpec)) mailNilUptoCard

/-- THE SECOND FORM's CARD OF 'derricklaw15.MailTwo'. -/
def mailTwoUptoCard : Claim7 := { stood := { row := mailTwoUptoRow, standIns := [], harness := (true, "a06834d129bde81d5accf77727af0068d9478ab444276fa791fea2f45882750a"), looks := false }, kinds := [], alts := [], laidByText := true, laidKinds := [.data, .data], laidTests := true, laidLooks := .later }
def MailTwoUptoCardSaid : Prop := Claim7.holds Tryd.pinned (.plain (OpenSpec.upto mailTwoSpec)) mailTwoUptoCard

/-- THE SECOND FORM's CARD OF 'derricklaw15.MailTurns'. -/
def mailTurnsUptoCard : Claim7 := { stood := { row := mailTurnsUptoRow, standIns := [], harness := (true, "a06834d129bde81d5accf77727af0068d9478ab444276fa791fea2f45882750a"), looks := false }, kinds := [], alts := [], laidByText := true, laidKinds := [.data, .data], laidTests := true, laidLooks := .later }
def MailTurnsUptoCardSaid : Prop := Claim7.holds Tryd.pinned (.plain (OpenSpec.upto mailTurnsSpec)) mailTurnsUptoCard
end Rows
end Go.Proofs.YtogjblikljggbaaDoor
