/-
  DERIVED. GIVEN WITH THE SEED: THE CARDS: each row of YtinmaogbfcmagaaDoorRows.lean that lists a variable, with what it lists TIED to the program's text (the seventh form; the later family's looks); each row that meets fmt, with fmt's text TOLD by the authors' own Lean function (tested against real Go, not proved from fmt's source: count such statements apart). THE CARD IS WHAT COUNTS. Prove the row's statement (the work); the ties are given (YtinmaogbfcmagaaDoorTie.lean); close each card by the builder's one call (the guide's Derived/Test/ToyasCard.lean, 'card_holds'). Laid BY PROGRAM, IN A SANDBOX (cutbox-door.mjs). By AI agents, Wed Nov 11 2026. No macro, syntax, notation, axiom, sorry.
-/
import Derived.Test.YtinmaogbfcmagaaDoorRows
import GoSem.ClaimSeven
namespace Go.Proofs.YtinmaogbfcmagaaDoor
namespace Rows

/-- THE TIED CARD OF 'derricklaw07.SweepHeads'. -/
def sweepHeadsCard : Claim7 := { stood := { row := sweepHeadsRow, standIns := [], harness := (true, "9ea9baf6d1ed81b860d9e7e8bed8cd106a1fdb2ecc45c4cd5f9163dcb80c81d0"), looks := false }, kinds := [], alts := [], laidByText := true, laidKinds := [.data, .data], laidTests := true, laidLooks := .later }
def SweepHeadsCardSaid : Prop := Claim7.holds Tryd.pinned (.plain (OpenSpec.ofChange sweepHeadsSpec)) sweepHeadsCard

/-- THE TIED CARD OF 'derricklaw07.SweepFinds'. -/
def sweepFindsCard : Claim7 := { stood := { row := sweepFindsRow, standIns := [], harness := (true, "9ea9baf6d1ed81b860d9e7e8bed8cd106a1fdb2ecc45c4cd5f9163dcb80c81d0"), looks := false }, kinds := [], alts := [], laidByText := true, laidKinds := [.data, .data], laidTests := true, laidLooks := .later }
def SweepFindsCardSaid : Prop := Claim7.holds Tryd.pinned (.plain (OpenSpec.ofChange sweepFindsSpec)) sweepFindsCard

/-- THE TIED CARD OF 'derricklaw07.SweepFrees'. -/
def sweepFreesCard : Claim7 := { stood := { row := sweepFreesRow, standIns := [], harness := (true, "9ea9baf6d1ed81b860d9e7e8bed8cd106a1fdb2ecc45c4cd5f9163dcb80c81d0"), looks := false }, kinds := [], alts := [], laidByText := true, laidKinds := [.data, .data], laidTests := true, laidLooks := .later }
def SweepFreesCardSaid : Prop := Claim7.holds Tryd.pinned (.plain (OpenSpec.ofChange sweepFreesSpec)) sweepFreesCard

/-- THE TIED CARD OF 'derricklaw07.SweepRings'. -/
def sweepRingsCard : Claim7 := { stood := { row := sweepRingsRow, standIns := [], harness := (true, "9ea9baf6d1ed81b860d9e7e8bed8cd106a1fdb2ecc45c4cd5f9163dcb80c81d0"), looks := false }, kinds := [], alts := [], laidByText := true, laidKinds := [.data, .data], laidTests := true, laidLooks := .later }
def SweepRingsCardSaid : Prop := Claim7.holds Tryd.pinned (.plain (OpenSpec.ofChange sweepRingsSpec)) sweepRingsCard

/-- THE TIED CARD OF 'derricklaw07.SweepDeep'. -/
def sweepDeepCard : Claim7 := { stood := { row := sweepDeepRow, standIns := [], harness := (true, "9ea9baf6d1ed81b860d9e7e8bed8cd106a1fdb2ecc45c4cd5f9163dcb80c81d0"), looks := false }, kinds := [], alts := [], laidByText := true, laidKinds := [.data, .data], laidTests := true, laidLooks := .later }
def SweepDeepCardSaid : Prop := Claim7.holds Tryd.pinned (.plain (OpenSpec.ofChange sweepDeepSpec)) sweepDeepCard

/-- THE SECOND FORM's CARD OF 'derricklaw07.SweepHeads'. -/
def sweepHeadsUptoCard : Claim7 := { stood := { row := sweepHeadsUptoRow, standIns := [], harness := (true, "9ea9baf6d1ed81b860d9e7e8bed8cd106a1fdb2ecc45c4cd5f9163dcb80c81d0"), looks := false }, kinds := [], alts := [], laidByText := true, laidKinds := [.data, .data], laidTests := true, laidLooks := .later }
def SweepHeadsUptoCardSaid : Prop := Claim7.holds Tryd.pinned (.plain (OpenSpec.upto sweepHeadsSpec)) sweepHeadsUptoCard

/-- THE SECOND FORM's CARD OF 'derricklaw07.SweepFinds'. -/
def sweepFindsUptoCard : Claim7 := { stood := { row := sweepFindsUptoRow, standIns := [], harness := (true, "9ea9baf6d1ed81b860d9e7e8bed8cd106a1fdb2ecc45c4cd5f9163dcb80c81d0"), looks := false }, kinds := [], alts := [], laidByText := true, laidKinds := [.data, .data], laidTests := true, laidLooks := .later }
def SweepFindsUptoCardSaid : Prop := Claim7.holds Tryd.pinned (.plain (OpenSpec.upto sweepFindsSpec)) sweepFindsUptoCard

/-- THE SECOND FORM's CARD OF 'derricklaw07.SweepFrees'. -/
def sweepFreesUptoCard : Claim7 := { stood := { row := sweepFreesUptoRow, standIns := [], harness := (true, "9ea9baf6d1ed81b860d9e7e8bed8cd106a1fdb2ecc45c4cd5f9163dcb80c81d0"), looks := false }, kinds := [], alts := [], laidByText := true, laidKinds := [.data, .data], laidTests := true, laidLooks := .later }
def SweepFreesUptoCardSaid : Prop := Claim7.holds Tryd.pinned (.plain (OpenSpec.upto sweepFreesSpec)) sweepFreesUptoCard

/-- THE SECOND FORM's CARD OF 'derricklaw07.SweepRings'. -/
def sweepRingsUptoCard : Claim7 := { stood := { row := sweepRingsUptoRow, standIns := [], harness := (true, "9ea9baf6d1ed81b860d9e7e8bed8cd106a1fdb2ecc45c4cd5f9163dcb80c81d0"), looks := false }, kinds := [], alts := [], laidByText := true, laidKinds := [.data, .data], laidTests := true, laidLooks := .later }
def SweepRingsUptoCardSaid : Prop := Claim7.holds Tryd.pinned (.plain (OpenSpec.upto sweepRingsSpec)) sweepRingsUptoCard

/-- THE SECOND FORM's CARD OF 'derricklaw07.SweepDeep'. -/
def sweepDeepUptoCard : Claim7 := { stood := { row := sweepDeepUptoRow, standIns := [], harness := (true, "9ea9baf6d1ed81b860d9e7e8bed8cd106a1fdb2ecc45c4cd5f9163dcb80c81d0"), looks := false }, kinds := [], alts := [], laidByText := true, laidKinds := [.data, .data], laidTests := true, laidLooks := .later }
def SweepDeepUptoCardSaid : Prop := Claim7.holds Tryd.pinned (.plain (OpenSpec.upto sweepDeepSpec)) sweepDeepUptoCard
end Rows
end Go.Proofs.YtinmaogbfcmagaaDoor
