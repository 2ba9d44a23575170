/- What the row's condition on the two package-level variables gives the walks; a start that meets it. -/
import Derived.Test.YtpmpjbnnjdpbnaaDoorRows
import Derived.Test.YtpmpjbnnjdpbnaaDoorScanX
import Derived.ProofKit
import Derived.LaidMore
import Derived.LaidHandle
import Derived.Lib.LaidTab
import Derived.OpenShut
import Derived.Stop.Joined
namespace Go.Proofs.YtpmpjbnnjdpbnaaDoor
open Go.ChangeShapes Go.WideShapes Go.ChangeAt Go.WideMaps Go.WideElems Go.RowKit Go.Proofs.YtpmpjbnnjdpbnaaDoor.Lx

def laid2 : List (String × DataW Unit) := [("errors.errorType", Rows.laid_errors_errorType), ("derrick/lex.longestMark", Rows.laid_derrick_lex_longestMark)]
theorem Tryd.own : ownKnob Tryd.prog.godebug = none := by kernel_rfl
theorem Tryd.et : Tryd.prog.globalNamed "errors.errorType" = some 1 := by kernel_rfl
theorem Tryd.lm : Tryd.prog.globalNamed "derrick/lex.longestMark" = some 2 := by kernel_rfl
theorem Tryd.lmT : (Tryd.prog.globals[2]?).map (·.type) = some 128 := by kernel_rfl
theorem Tryd.rt : (Tryd.prog.cutTypes.find? (·.1 == "internal/reflectlite.rtype")).map (·.2) = some 110 := by kernel_rfl
theorem Tryd.tsize : Tryd.prog.types.size = 157 := by kernel_rfl
theorem Tryd.oneRow : ((List.range 157).filter fun t => Tryd.prog.rowNamed t [101, 114, 114, 111, 114]) = [57] := by kernel_rfl

theorem tabEq : (Rows.laid_derrick_lex_longestMark : DataW Unit) = Lib.tabData .i8 mTabL := by kernel_rfl
set_option maxRecDepth 100000 in
theorem vars_of_laid {W : World} (h : laidMetH Tryd.prog laid2 W) : Vars W := by
  have h' : laidMet Tryd.prog [("derrick/lex.longestMark", Rows.laid_derrick_lex_longestMark)] W ∧ handlesMet Tryd.prog [("errors.errorType", Rows.laid_errors_errorType)] W := h
  constructor
  · obtain ⟨name, u, ty, e1, e2, e3, e4, e5⟩ := h'.2 _ (List.mem_singleton.2 rfl)
    have en : name = [101, 114, 114, 111, 114] := (Option.some.inj e1).symm
    subst en
    obtain rfl := Option.some.inj (Tryd.rt.symm.trans e2)
    have hm : ty ∈ (List.range 157).filter fun t => Tryd.prog.rowNamed t [101, 114, 114, 111, 114] := List.mem_filter.2 ⟨List.mem_range.2 (by rw [← Tryd.tsize]; exact e3), e4⟩
    rw [Tryd.oneRow] at hm
    obtain rfl := List.mem_singleton.1 hm
    have hh : typeHandle Tryd.prog 57 = .pointer (some ⟨3, 57, none⟩) := by kernel_rfl
    rw [hh] at e5
    simpa using World.var?_cell Tryd.et e5 0
  · have h1 := h'.1
    rw [tabEq] at h1
    have ht : Lib.TabIs Tryd.prog W "derrick/lex.longestMark" .i8 mTabL := Lib.tabIs_of_head Tryd.lm Tryd.lmT Tryd.underlying128 Tryd.underlying127 (by kernel_rfl) (by kernel_rfl) h1
    intro i hi
    exact ht.cell Tryd.lm i hi
/-- The heap that the variables' own initialisers leave meets the condition. -/
theorem door_met (os : Os) (args : Array Value) : laidMetH Tryd.prog laid2 ((World.doorLaid Tryd.prog 400 os).forCall (fun _ _ => 0) ⟨#[], args, []⟩).memory :=
  laidMetH_of_parts3 (fuel := 8) (laidMet_of_run' 8 (by kernel_rfl) (by kernel_rfl)) (by kernel_rfl) (by kernel_rfl)
end Go.Proofs.YtpmpjbnnjdpbnaaDoor
