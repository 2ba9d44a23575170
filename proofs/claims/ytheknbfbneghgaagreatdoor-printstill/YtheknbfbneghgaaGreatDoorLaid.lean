/- What the row's condition on the package-level variables gives the walks; a start that meets it. -/
import Derived.Test.YtheknbfbneghgaaGreatDoorRows
import Derived.Test.YtheknbfbneghgaaGreatDoorMe
import Derived.ProofKit
import Derived.LaidMore
import Derived.LaidHandle
import Derived.LaidSub
import Derived.Lib.LaidTab
import Derived.OpenShut
import Derived.Stop.Joined
namespace Go.Proofs.YtheknbfbneghgaaGreatDoor
open Go.ChangeShapes Go.WideShapes Go.ChangeAt Go.WideMaps Go.WideElems Go.RowKit Lx
def laid5 : List (String × DataW Unit) := [("math/bits.deBruijn32tab", Rows.laid_math_bits_deBruijn32tab), ("math/bits.deBruijn64tab", Rows.laid_math_bits_deBruijn64tab), ("internal/strconv.uint64pow10", Rows.laid_internal_strconv_uint64pow10), ("errors.errorType", Rows.laid_errors_errorType), ("derrick/lex.longestMark", Rows.laid_derrick_lex_longestMark)]
theorem Tryz.own : ownKnob Tryz.prog.godebug = none := by kernel_rfl
theorem Tryz.et : Tryz.prog.globalNamed "errors.errorType" = some 0 := by kernel_rfl
theorem Tryz.lm : Tryz.prog.globalNamed "derrick/lex.longestMark" = some 1 := by kernel_rfl
theorem Tryz.lmT : (Tryz.prog.globals[1]?).map (·.type) = some 129 := by kernel_rfl
theorem Tryz.pw : Tryz.prog.globalNamed "internal/strconv.uint64pow10" = some 2 := by kernel_rfl
theorem Tryz.pwT : (Tryz.prog.globals[2]?).map (·.type) = some 157 := by kernel_rfl
theorem Tryz.rt : (Tryz.prog.cutTypes.find? (·.1 == "internal/reflectlite.rtype")).map (·.2) = some 90 := by kernel_rfl
theorem Tryz.tsize : Tryz.prog.types.size = 194 := by kernel_rfl
theorem Tryz.oneRow : ((List.range 194).filter fun t => Tryz.prog.rowNamed t [101, 114, 114, 111, 114]) = [38] := by kernel_rfl
theorem tabEq : (Rows.laid_derrick_lex_longestMark : DataW Unit) = Lib.tabData .i8 mTabL := by kernel_rfl
theorem powEq : (Rows.laid_internal_strconv_uint64pow10 : DataW Unit) = Lib.tabData .u64 Lib.pow10Tab := by kernel_rfl
set_option maxRecDepth 100000 in
theorem vars_of_laid {W : World} (h : laidMetH Tryz.prog laid5 W) : Pp.VT W := by
  have h' : laidMet Tryz.prog [("math/bits.deBruijn32tab", Rows.laid_math_bits_deBruijn32tab), ("math/bits.deBruijn64tab", Rows.laid_math_bits_deBruijn64tab), ("internal/strconv.uint64pow10", Rows.laid_internal_strconv_uint64pow10), ("derrick/lex.longestMark", Rows.laid_derrick_lex_longestMark)] W ∧ handlesMet Tryz.prog [("errors.errorType", Rows.laid_errors_errorType)] W := h
  refine ⟨⟨?_, ?_⟩, ?_⟩
  · obtain ⟨name, u, ty, e1, e2, e3, e4, e5⟩ := h'.2 _ (List.mem_singleton.2 rfl)
    have en : name = [101, 114, 114, 111, 114] := (Option.some.inj e1).symm
    subst en
    obtain rfl := Option.some.inj (Tryz.rt.symm.trans e2)
    have hm : ty ∈ (List.range 194).filter fun t => Tryz.prog.rowNamed t [101, 114, 114, 111, 114] := List.mem_filter.2 ⟨List.mem_range.2 (by rw [← Tryz.tsize]; exact e3), e4⟩
    rw [Tryz.oneRow] at hm
    obtain rfl := List.mem_singleton.1 hm
    have hh : typeHandle Tryz.prog 38 = .pointer (some ⟨5, 38, none⟩) := by kernel_rfl
    rw [hh] at e5
    simpa using World.var?_cell Tryz.et e5 0
  · have h1 : laidMet Tryz.prog (("derrick/lex.longestMark", Lib.tabData .i8 mTabL) :: []) W := by
      have := h'.1.filter (fun x => x.1 == "derrick/lex.longestMark")
      rw [← tabEq]
      exact this
    have ht : Lib.TabIs Tryz.prog W "derrick/lex.longestMark" .i8 mTabL := Lib.tabIs_of_head Tryz.lm Tryz.lmT Tryz.underlying129 Tryz.underlying128 (by kernel_rfl) (by kernel_rfl) h1
    intro i hi
    exact ht.cell Tryz.lm i hi
  · have h1 : laidMet Tryz.prog (("internal/strconv.uint64pow10", Lib.tabData .u64 Lib.pow10Tab) :: []) W := by
      have := h'.1.filter (fun x => x.1 == "internal/strconv.uint64pow10")
      rw [← powEq]
      exact this
    exact Lib.tabIs_of_head Tryz.pw Tryz.pwT Tryz.underlying157 Tryz.underlying147 (by kernel_rfl) (by kernel_rfl) h1
theorem door_met (os : Os) (args : Array Value) : laidMetH Tryz.prog laid5 ((World.doorLaid Tryz.prog 400 os).forCall (fun _ _ => 0) ⟨#[], args, []⟩).memory :=
  laidMetH_of_parts3 (fuel := 8) (laidMet_of_run' 8 (by kernel_rfl) (by kernel_rfl)) (by kernel_rfl) (by kernel_rfl)
end Go.Proofs.YtheknbfbneghgaaGreatDoor
