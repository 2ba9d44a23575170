/-
  DERIVED. GIVEN WITH THE SEED: THE CARDS: each row of YtkhegceikdegbaaDoorRows.lean that lists a variable, with what it lists TIED to the program's text (the seventh form; the later family's looks); each row that meets fmt, with fmt's text TOLD by the authors' own Lean function (tested against real Go, not proved from fmt's source: count such statements apart). THE CARD IS WHAT COUNTS. Prove the row's statement (the work); the ties are given (YtkhegceikdegbaaDoorTie.lean); close each card by the builder's one call (the guide's Derived/Test/ToyasCard.lean, 'card_holds'). Laid BY PROGRAM, IN A SANDBOX (cutbox-door.mjs). By AI agents, Wed Nov 11 2026. No macro, syntax, notation, axiom, sorry.
-/
import Derived.Test.YtkhegceikdegbaaDoorRows
import GoSem.ClaimSeven
namespace Go.Proofs.YtkhegceikdegbaaDoor
namespace Rows

/-- THE TIED CARD OF 'derricklaw06.HeapPlays'. -/
def heapPlaysCard : Claim7 := { stood := { row := heapPlaysRow, standIns := [], harness := (true, "6257bb2d0e88e0036ae0c790e7c35315c9c5dc584f586da86f7f94674551641d"), looks := false }, kinds := [], alts := [], laidByText := true, laidKinds := [.data, .data], laidTests := true, laidLooks := .later }
def HeapPlaysCardSaid : Prop := Claim7.holds Tryd.pinned (.plain (OpenSpec.ofChange heapPlaysSpec)) heapPlaysCard

/-- THE TIED CARD OF 'derricklaw06.HeapApart'. -/
def heapApartCard : Claim7 := { stood := { row := heapApartRow, standIns := [], harness := (true, "6257bb2d0e88e0036ae0c790e7c35315c9c5dc584f586da86f7f94674551641d"), looks := false }, kinds := [], alts := [], laidByText := true, laidKinds := [.data, .data], laidTests := true, laidLooks := .later }
def HeapApartCardSaid : Prop := Claim7.holds Tryd.pinned (.plain (OpenSpec.ofChange heapApartSpec)) heapApartCard

/-- THE TIED CARD OF 'derricklaw06.HeapFills'. -/
def heapFillsCard : Claim7 := { stood := { row := heapFillsRow, standIns := [], harness := (true, "6257bb2d0e88e0036ae0c790e7c35315c9c5dc584f586da86f7f94674551641d"), looks := false }, kinds := [], alts := [], laidByText := true, laidKinds := [.data, .data], laidTests := true, laidLooks := .later }
def HeapFillsCardSaid : Prop := Claim7.holds Tryd.pinned (.plain (OpenSpec.ofChange heapFillsSpec)) heapFillsCard

/-- THE TIED CARD OF 'derricklaw06.HeapReuses'. -/
def heapReusesCard : Claim7 := { stood := { row := heapReusesRow, standIns := [], harness := (true, "6257bb2d0e88e0036ae0c790e7c35315c9c5dc584f586da86f7f94674551641d"), looks := false }, kinds := [], alts := [], laidByText := true, laidKinds := [.data, .data], laidTests := true, laidLooks := .later }
def HeapReusesCardSaid : Prop := Claim7.holds Tryd.pinned (.plain (OpenSpec.ofChange heapReusesSpec)) heapReusesCard

/-- THE TIED CARD OF 'derricklaw06.HeapWords'. -/
def heapWordsCard : Claim7 := { stood := { row := heapWordsRow, standIns := [], harness := (true, "6257bb2d0e88e0036ae0c790e7c35315c9c5dc584f586da86f7f94674551641d"), looks := false }, kinds := [], alts := [], laidByText := true, laidKinds := [.data, .data], laidTests := true, laidLooks := .later }
def HeapWordsCardSaid : Prop := Claim7.holds Tryd.pinned (.plain (OpenSpec.ofChange heapWordsSpec)) heapWordsCard

/-- THE SECOND FORM's CARD OF 'derricklaw06.HeapPlays'. -/
def heapPlaysUptoCard : Claim7 := { stood := { row := heapPlaysUptoRow, standIns := [], harness := (true, "6257bb2d0e88e0036ae0c790e7c35315c9c5dc584f586da86f7f94674551641d"), looks := false }, kinds := [], alts := [], laidByText := true, laidKinds := [.data, .data], laidTests := true, laidLooks := .later }
def HeapPlaysUptoCardSaid : Prop := Claim7.holds Tryd.pinned (.plain (OpenSpec.upto heapPlaysSpec)) heapPlaysUptoCard

/-- THE SECOND FORM's CARD OF 'derricklaw06.HeapApart'. -/
def heapApartUptoCard : Claim7 := { stood := { row := heapApartUptoRow, standIns := [], harness := (true, "6257bb2d0e88e0036ae0c790e7c35315c9c5dc584f586da86f7f94674551641d"), looks := false }, kinds := [], alts := [], laidByText := true, laidKinds := [.data, .data], laidTests := true, laidLooks := .later }
def HeapApartUptoCardSaid : Prop := Claim7.holds Tryd.pinned (.plain (OpenSpec.upto heapApartSpec)) heapApartUptoCard

/-- THE SECOND FORM's CARD OF 'derricklaw06.HeapFills'. -/
def heapFillsUptoCard : Claim7 := { stood := { row := heapFillsUptoRow, standIns := [], harness := (true, "6257bb2d0e88e0036ae0c790e7c35315c9c5dc584f586da86f7f94674551641d"), looks := false }, kinds := [], alts := [], laidByText := true, laidKinds := [.data, .data], laidTests := true, laidLooks := .later }
def HeapFillsUptoCardSaid : Prop := Claim7.holds Tryd.pinned (.plain (OpenSpec.upto heapFillsSpec)) heapFillsUptoCard

/-- THE SECOND FORM's CARD OF 'derricklaw06.HeapReuses'. -/
def heapReusesUptoCard : Claim7 := { stood := { row := heapReusesUptoRow, standIns := [], harness := (true, "6257bb2d0e88e0036ae0c790e7c35315c9c5dc584f586da86f7f94674551641d"), looks := false }, kinds := [], alts := [], laidByText := true, laidKinds := [.data, .data], laidTests := true, laidLooks := .later }
def HeapReusesUptoCardSaid : Prop := Claim7.holds Tryd.pinned (.plain (OpenSpec.upto heapReusesSpec)) heapReusesUptoCard

/-- THE SECOND FORM's CARD OF 'derricklaw06.HeapWords'. -/
def heapWordsUptoCard : Claim7 := { stood := { row := heapWordsUptoRow, standIns := [], harness := (true, "6257bb2d0e88e0036ae0c790e7c35315c9c5dc584f586da86f7f94674551641d"), looks := false }, kinds := [], alts := [], laidByText := true, laidKinds := [.data, .data], laidTests := true, laidLooks := .later }
def HeapWordsUptoCardSaid : Prop := Claim7.holds Tryd.pinned (.plain (OpenSpec.upto heapWordsSpec)) heapWordsUptoCard
end Rows
end Go.Proofs.YtkhegceikdegbaaDoor
