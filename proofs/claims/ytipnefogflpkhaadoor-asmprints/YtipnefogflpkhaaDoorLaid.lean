/- What the row's condition on the package-level variables gives the walks; a start that meets it. -/
import Derived.Test.YtipnefogflpkhaaDoorRows
import Derived.Test.YtipnefogflpkhaaDoorAk0
import Derived.ProofKit
import Derived.LaidMore
import Derived.LaidHandle
import Derived.LaidSub
import Derived.Lib.LaidTab
import Derived.OpenShut
import Derived.Stop.Joined
namespace Go.Proofs.YtipnefogflpkhaaDoor
open Go.ChangeShapes Go.WideShapes Go.ChangeAt Go.WideMaps Go.WideElems Go.RowKit
def laid4 : List (String × DataW Unit) := [("math/bits.deBruijn32tab", Rows.laid_math_bits_deBruijn32tab), ("math/bits.deBruijn64tab", Rows.laid_math_bits_deBruijn64tab), ("internal/strconv.uint64pow10", Rows.laid_internal_strconv_uint64pow10), ("derrick/asm.names", Rows.laid_derrick_asm_names)]
theorem Tryd.own : ownKnob Tryd.prog.godebug = none := by kernel_rfl
theorem Tryd.nmG : Tryd.prog.globalNamed "derrick/asm.names" = some 0 := by kernel_rfl
theorem Tryd.nmT : (Tryd.prog.globals[0]?).map (·.type) = some 53 := by kernel_rfl
theorem Tryd.pw : Tryd.prog.globalNamed "internal/strconv.uint64pow10" = some 1 := by kernel_rfl
theorem Tryd.pwT : (Tryd.prog.globals[1]?).map (·.type) = some 94 := by kernel_rfl
theorem powEq : (Rows.laid_internal_strconv_uint64pow10 : DataW Unit) = Lib.tabData .u64 Lib.pow10Tab := by kernel_rfl
theorem namesEq : (Rows.laid_derrick_asm_names : DataW Unit) = .agg (([] :: nmL.tail).map fun l => .lit (.string l)) := by kernel_rfl
set_option maxRecDepth 100000 in
theorem vars_of_laid {W : World} (h : laidMetH Tryd.prog laid4 W) : Vs W := by
  have h' : laidMet Tryd.prog laid4 W := h
  refine ⟨?_, ?_⟩
  · have h1 : laidMet Tryd.prog (("internal/strconv.uint64pow10", Lib.tabData .u64 Lib.pow10Tab) :: []) W := by
      have := h'.filter (fun x => x.1 == "internal/strconv.uint64pow10")
      rw [← powEq]
      exact this
    exact Lib.tabIs_of_head Tryd.pw Tryd.pwT Tryd.underlying94 Tryd.underlying84 (by kernel_rfl) (by kernel_rfl) h1
  · have h1 : laidMet Tryd.prog (("derrick/asm.names", Rows.laid_derrick_asm_names) :: []) W := by
      exact h'.filter (fun x => x.1 == "derrick/asm.names")
    rw [namesEq] at h1
    obtain ⟨ps, ⟨g', t', cs, fuel, p, q, hg', ht', hvar, hd, _, _⟩, _⟩ := h1
    obtain rfl := Option.some.inj (Tryd.nmG.symm.trans hg')
    obtain rfl := Option.some.inj (Tryd.nmT.symm.trans ht')
    obtain ⟨xs, m, _, hx, _, hxl, hf⟩ := DataW.trod_array Tryd.underlying53 hd
    have c9 : Tryd.prog.cellsOf 9 = 1 := by kernel_rfl
    rw [c9] at hf
    have hx1 : xs.map (·.1) = ([] :: nmL.tail).map fun l => (DataW.lit (.string l) : DataW Unit) := by
      have := congrArg Prod.fst hx
      simpa using this.symm
    intro i hi1 hi2
    have hl : ([] :: nmL.tail : List (List UInt8)).length = 57 := by rfl
    have hxi : i < xs.length := by omega
    have hg := hf i (by omega)
    rw [List.getElem?_eq_getElem hxi] at hg
    obtain ⟨s, hs1, hs2, _⟩ := DataW.trod_string Tryd.underlying9 hg
    have h3 := congrArg (·[i]?) hx1
    simp only [List.getElem?_map, List.getElem?_eq_getElem hxi, List.getElem?_eq_getElem (show i < ([] :: nmL.tail : List (List UInt8)).length by omega), Option.map_some, Option.some.injEq] at h3
    rw [hs2] at h3
    have h4 : s.data.toList = ([] :: nmL.tail : List (List UInt8))[i]'(by omega) := by simpa using h3
    have h5 : ([] :: nmL.tail : List (List UInt8))[i]'(by omega) = nmL.getD i [] := by
      have : ∀ i (h : i < 57), 1 ≤ i → ([] :: nmL.tail : List (List UInt8)).getD i [] = nmL.getD i [] := by decide
      rw [← this i hi2 hi1, List.getD_eq_getElem?_getD, List.getElem?_eq_getElem (by omega)]
      rfl
    have hs : s = nm i := by
      unfold nm
      rw [← h5, ← h4]
    have hci : cs[i]? = some (.string (nm i)) := by
      have := congrArg (·[0]?) hs1
      rw [hs] at this
      simpa [List.getElem?_take, List.getElem?_drop] using this
    have hv := World.var?_cell Tryd.nmG hvar i
    rw [hv]
    exact hci
theorem door_met (os : Os) (args : Array Value) : laidMetH Tryd.prog laid4 ((World.doorLaid Tryd.prog 400 os).forCall (fun _ _ => 0) ⟨#[], args, []⟩).memory :=
  laidMetH_of_parts3 (fuel := 8) (laidMet_of_run' 8 (by kernel_rfl) (by kernel_rfl)) (by kernel_rfl) (by kernel_rfl)
end Go.Proofs.YtipnefogflpkhaaDoor
