/- What the row's condition on the two errors gives the walks; a start that meets it. -/
import Derived.Test.YtfkjjljhabjcjaaDoorRows
import Derived.Test.YtfkjjljhabjcjaaDoorCr0
import Derived.ProofKit
import Derived.LaidMore
import Derived.LaidHandle
import Derived.LaidLaws
import Derived.Stop.LaidTwo
import Derived.OpenShut
import Derived.Stop.Joined
namespace Go.Proofs.YtfkjjljhabjcjaaDoor
open Go.ChangeShapes Go.WideShapes Go.ChangeAt Go.WideMaps Go.WideElems Go.RowKit

def laid2 : List (String × DataW Unit) := [("derrick/code.errEnd", Rows.laid_derrick_code_errEnd), ("derrick/code.errForm", Rows.laid_derrick_code_errForm)]
theorem Tryd.own : ownKnob Tryd.prog.godebug = none := by kernel_rfl
theorem Tryd.g0 : Tryd.prog.globalNamed "derrick/code.errEnd" = some 0 := by kernel_rfl
theorem Tryd.g1 : Tryd.prog.globalNamed "derrick/code.errForm" = some 1 := by kernel_rfl
theorem Tryd.g0T : (Tryd.prog.globals[0]?).map (·.type) = some 48 := by kernel_rfl
theorem Tryd.g1T : (Tryd.prog.globals[1]?).map (·.type) = some 48 := by kernel_rfl
theorem star : "*" ++ "errors.errorString" = "*errors.errorString" := by decide
theorem row107 (u : TypeId) (h : Tryd.prog.typeName? 3 u = some "*errors.errorString") : u = 107 :=
  typeName_ptr_named (nm := "errors.errorString") (by rw [star]; kernel_rfl) (by kernel_rfl) (by decide) u (by rw [star]; exact h)
set_option maxRecDepth 100000 in
theorem vars_of_laid {W : World} (h : laidMetH Tryd.prog laid2 W) : ∃ pe pf, Vars W pe pf := by
  have h' : laidMet Tryd.prog laid2 W := h
  obtain ⟨a0, a1, s0, s1, c0, c1, t0, t1, hv0, hv1, _⟩ := laid_sentinels2 h' Tryd.g0 Tryd.g0T Tryd.g1 Tryd.g1T Tryd.underlying48 row107 Tryd.underlying107 Tryd.underlying131 rfl rfl Tryd.underlying9 (by kernel_rfl) (by kernel_rfl)
  exact ⟨a0, a1, by simpa using World.var?_cell Tryd.g0 hv0 0, by simpa using World.var?_cell Tryd.g1 hv1 0⟩
/-- The heap that the variables' own initialisers leave meets the condition. -/
theorem door_met (os : Os) (args : Array Value) : laidMetH Tryd.prog laid2 ((World.doorLaid Tryd.prog 400 os).forCall (fun _ _ => 0) ⟨#[], args, []⟩).memory :=
  laidMetH_of_parts3 (fuel := 8) (laidMet_of_run' 8 (by kernel_rfl) (by kernel_rfl)) (by kernel_rfl) (by kernel_rfl)
end Go.Proofs.YtfkjjljhabjcjaaDoor
