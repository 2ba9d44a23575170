/- The law WalkRecovers is true for every input: a recover takes the message where it stands in a deferred call of the function that panics, once, and nowhere else: so the machine that walks the lowered program says of each of the programs that the law makes. Its conditions: the package-level variables that the row lists (two tables of math/bits, one of internal/strconv, errors.errorType, derrick/lex.longestMark) hold, when the call begins, what the program's own text lays in them (the card ties that; the proof makes no use of it); each string, slice and map that is read takes at most 2^47 - 4096 bytes. The card speaks of the packages that the law loads alone. -/
import Derived.Test.YtfkfccpjfagamaaGreatDoorXc1
import Derived.Test.YtfkfccpjfagamaaGreatDoorXc3
import Derived.Test.YtfkfccpjfagamaaGreatDoorXh0
import Derived.Test.YtfkfccpjfagamaaGreatDoorRows
import Derived.ProofKit
import Derived.LaidMore
import Derived.LaidHandle
import Derived.LaidLaws
import Derived.OpenShut
import Derived.Test.YtfkfccpjfagamaaGreatDoorTie
import Derived.Test.YtfkfccpjfagamaaGreatDoorCards
import Derived.SevenTiedAt
import Derived.ShutString
import Derived.SizedLaws
import Derived.Deep.Grids
set_option linter.all false
namespace Go.Proofs.YtfkfccpjfagamaaGreatDoor
open Go Go.ChangeShapes Go.WideShapes Go.ChangeAt Go.WideMaps Go.WideElems Go.RowKit
open Go.ChangeMaps (open_string shut_string)
theorem walkRecovers_card : Rows.WalkRecoversCardSaid :=
  Claim7.holds_tied_plain_at .later [] [.data, .data, .data, .handle, .data] true (true, "ca4f7fb8d03de7c5f1ac35546ac6014dcfc489052ca9e3b293bc2cb8ff51b90d") true
    walkRecovers_holds (fun _ h => by cases h) (by kernel_rfl) (fun _ h => by cases h) walkRecovers_row_tie rfl ⟨rfl, rfl⟩ (by kernel_rfl) rfl
    (fun f fn hf hfn => by
      obtain rfl : f = 3 := Option.some.inj ((show Tryz.prog.funcNamed "derrick/derricklaw11.WalkRecovers" = some 3 by kernel_rfl).symm.trans hf) |>.symm
      obtain rfl : fn = Tryz.f3 := (Option.some.inj (Tryz.func3.symm.trans hfn)).symm
      exact ⟨walkRecovers_looks, fun j t ht => by
        rw [Tryz.params3] at ht
        have hm : t ∈ [4, 4, 4] := by simpa using Array.mem_of_getElem? ht
        have hall : ([4, 4, 4].all fun u => !Tryz.prog.wantsStandIn u) = true := by kernel_rfl
        exact (show Tryz.prog.wantsStandIn t = false by simpa using List.all_eq_true.1 hall t hm)⟩)
    walkRecovers_goes
#print axioms walkRecovers_card
end Go.Proofs.YtfkfccpjfagamaaGreatDoor
