/- What the row's condition on the two tables gives the walks; a start that meets it. -/
import Derived.Test.YtogjblikljggbaaDoorRows
import Derived.Test.YtogjblikljggbaaDoorBt
import Derived.ProofKit
import Derived.LaidMore
import Derived.LaidHandle
import Derived.LaidSub
import Derived.Lib.LaidTab
import Derived.OpenShut
import Derived.Stop.Joined
namespace Go.Proofs.YtogjblikljggbaaDoor
open Go.ChangeShapes Go.WideShapes Go.ChangeAt Go.WideMaps Go.WideElems Go.RowKit

def laid2 : List (String × DataW Unit) := [("math/bits.deBruijn32tab", Rows.laid_math_bits_deBruijn32tab), ("math/bits.deBruijn64tab", Rows.laid_math_bits_deBruijn64tab)]
theorem Tryd.own : ownKnob Tryd.prog.godebug = none := by kernel_rfl
theorem Tryd.g32 : Tryd.prog.globalNamed "math/bits.deBruijn32tab" = some 0 := by kernel_rfl
theorem Tryd.g64 : Tryd.prog.globalNamed "math/bits.deBruijn64tab" = some 1 := by kernel_rfl
theorem Tryd.g32T : (Tryd.prog.globals[0]?).map (·.type) = some 88 := by kernel_rfl
theorem Tryd.g64T : (Tryd.prog.globals[1]?).map (·.type) = some 93 := by kernel_rfl
theorem tab32 : (Rows.laid_math_bits_deBruijn32tab : DataW Unit) = Lib.tabData .u8 (Lib.deBruijn32tab.map Int.ofNat) := by kernel_rfl
theorem tab64 : (Rows.laid_math_bits_deBruijn64tab : DataW Unit) = Lib.tabData .u8 (Lib.deBruijn64tab.map Int.ofNat) := by kernel_rfl
set_option maxRecDepth 100000 in
theorem vars_of_laid {W : World} (h : laidMetH Tryd.prog laid2 W) : Vars W := by
  have h' : laidMet Tryd.prog laid2 W := h
  have h1 : laidMet Tryd.prog (("math/bits.deBruijn32tab", Lib.tabData .u8 (Lib.deBruijn32tab.map Int.ofNat)) :: [("math/bits.deBruijn64tab", Rows.laid_math_bits_deBruijn64tab)]) W := by rw [← tab32]; exact h'
  have h2 : laidMet Tryd.prog (("math/bits.deBruijn64tab", Lib.tabData .u8 (Lib.deBruijn64tab.map Int.ofNat)) :: []) W := by
    have := h'.filter (fun x => x.1 == "math/bits.deBruijn64tab")
    rw [← tab64]
    exact this
  have t1 := Lib.tabIs_of_head Tryd.g32 Tryd.g32T Tryd.underlying88 Tryd.underlying5 (by kernel_rfl) (by kernel_rfl) h1
  have t2 := Lib.tabIs_of_head Tryd.g64 Tryd.g64T Tryd.underlying93 Tryd.underlying5 (by kernel_rfl) (by kernel_rfl) h2
  constructor
  · intro j hj
    rw [t1.cell Tryd.g32 j (by rw [List.length_map, show Lib.deBruijn32tab.length = 32 from rfl]; exact hj)]
    simp [List.getD, List.getElem?_map]
    cases Lib.deBruijn32tab[j]? <;> rfl
  · intro j hj
    rw [t2.cell Tryd.g64 j (by rw [List.length_map, show Lib.deBruijn64tab.length = 64 from rfl]; exact hj)]
    simp [List.getD, List.getElem?_map]
    cases Lib.deBruijn64tab[j]? <;> rfl
/-- The heap that the variables' own initialisers leave meets the condition. -/
theorem door_met (os : Os) (args : Array Value) : laidMetH Tryd.prog laid2 ((World.doorLaid Tryd.prog 400 os).forCall (fun _ _ => 0) ⟨#[], args, []⟩).memory :=
  laidMetH_of_parts3 (fuel := 8) (laidMet_of_run' 8 (by kernel_rfl) (by kernel_rfl)) (by kernel_rfl) (by kernel_rfl)
end Go.Proofs.YtogjblikljggbaaDoor
