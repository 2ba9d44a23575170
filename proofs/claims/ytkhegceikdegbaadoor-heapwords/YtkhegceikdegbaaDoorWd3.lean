/- HeapWords: all arguments. -/
import Derived.Test.YtkhegceikdegbaaDoorWd2
namespace Go.Proofs.YtkhegceikdegbaaDoor
open Go.RowKit Go.Proofs.YtkhegceikdegbaaDoor.Hp
set_option maxRecDepth 100000 in
set_option maxHeartbeats 2000000 in
theorem words_small (a0 : Option Addr) (len0 cap0 : Nat) (v : Int) (w : World) (hV : Vars w) (hl : len0 ≤ 9223372036854775807) (h : 60 < len0) :
    Calls Tryd.prog 7 #[.slice a0 len0 cap0, .int .i64 v] w fun e w' => e = .returned (.bool true) ∧ Below w.heap.size w w' := by
  have HAn : Hid (Calls Tryd.prog 8 #[] w fun e w' => e = .returned (.bool true) ∧ Below w.heap.size w w') := hide ((anchor_any w hV).mono fun e w' h => ⟨h.1, h.2.1.below (Nat.le_refl _) (fun _ x => x.elim)⟩)
  clear hV
  go_enter Tryd.func7, Tryd.ntmps7
  go_wp2_with fail
  refine (unhide HAn).mono ?_
  rintro e w1 ⟨rfl, hF1⟩
  go_wp2
  go_ret
  exact ⟨rfl, hF1⟩
theorem words_w (a0 : Option Addr) (len0 cap0 : Nat) (zs : List Int) (v : Int) (w : World) (hV : Vars w) (hl : len0 ≤ 9223372036854775807)
    (hz : ∀ j, j < len0 → ∃ b off, a0 = some ⟨b, off, none⟩ ∧ b < w.heap.size ∧ w.cell? ⟨b, off + j, none⟩ = some (.int .i64 (zs.getD j 0))) :
    Calls Tryd.prog 7 #[.slice a0 len0 cap0, .int .i64 v] w fun e w' => e = .returned (.bool true) ∧ Below w.heap.size w w' := by
  by_cases h : 60 < len0
  · exact words_small a0 len0 cap0 v w hV hl h
  · exact words_big a0 len0 cap0 zs v w hV (by omega) hz
end Go.Proofs.YtkhegceikdegbaaDoor
