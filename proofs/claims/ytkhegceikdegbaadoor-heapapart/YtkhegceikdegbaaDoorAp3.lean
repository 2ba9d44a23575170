/- HeapApart: all arguments. -/
import Derived.Test.YtkhegceikdegbaaDoorAp2
namespace Go.Proofs.YtkhegceikdegbaaDoor
open Go.RowKit Go.Proofs.YtkhegceikdegbaaDoor.Hp
set_option maxRecDepth 100000 in
set_option maxHeartbeats 2000000 in
theorem apart_small (x : Int) (a0 : Option Addr) (len0 cap0 : Nat) (a1 : Option Addr) (len1 cap1 : Nat) (w : World) (hV : Vars w) (hl : len0 ≤ 9223372036854775807) (h : x < 128 ∨ 8192 < x ∨ 300 < len0) :
    Calls Tryd.prog 4 #[.int .i64 x, .slice a0 len0 cap0, .slice a1 len1 cap1] w fun e w' => e = .returned (.bool true) ∧ Below w.heap.size w w' := by
  have HAn : Hid (Calls Tryd.prog 8 #[] w fun e w' => e = .returned (.bool true) ∧ Below w.heap.size w w') := hide ((anchor_any w hV).mono fun e w' h => ⟨h.1, h.2.1.below (Nat.le_refl _) (fun _ x => x.elim)⟩)
  clear hV
  by_cases h1 : x < 128
  · go_enter Tryd.func4, Tryd.ntmps4
    go_wp2_with fail
    refine (unhide HAn).mono ?_
    rintro e w1 ⟨rfl, hF1⟩
    go_wp2
    go_ret
    exact ⟨rfl, hF1⟩
  · by_cases h2 : 8192 < x
    · go_enter Tryd.func4, Tryd.ntmps4
      go_wp2_with fail
      refine (unhide HAn).mono ?_
      rintro e w1 ⟨rfl, hF1⟩
      go_wp2
      go_ret
      exact ⟨rfl, hF1⟩
    · have h3 : 300 < len0 := by omega
      go_enter Tryd.func4, Tryd.ntmps4
      go_wp2_with fail
      refine (unhide HAn).mono ?_
      rintro e w1 ⟨rfl, hF1⟩
      go_wp2
      go_ret
      exact ⟨rfl, hF1⟩
theorem apart_w (x : Int) (a0 : Option Addr) (len0 cap0 : Nat) (zs : List Int) (a1 : Option Addr) (len1 cap1 : Nat) (fb : Nat → Bool) (w : World) (hV : Vars w) (hl : len0 ≤ 9223372036854775807)
    (hz : ∀ j, j < len0 → ∃ b off, a0 = some ⟨b, off, none⟩ ∧ b < w.heap.size ∧ w.cell? ⟨b, off + j, none⟩ = some (.int .i64 (zs.getD j 0))) (_hl1 : len1 ≤ 9223372036854775807)
    (hy : ∀ j, j < len1 → ∃ b off, a1 = some ⟨b, off, none⟩ ∧ b < w.heap.size ∧ w.cell? ⟨b, off + j, none⟩ = some (.bool (fb j))) :
    Calls Tryd.prog 4 #[.int .i64 x, .slice a0 len0 cap0, .slice a1 len1 cap1] w fun e w' => e = .returned (.bool true) ∧ Below w.heap.size w w' := by
  by_cases h : x < 128 ∨ 8192 < x ∨ 300 < len0
  · exact apart_small x a0 len0 cap0 a1 len1 cap1 w hV hl h
  · obtain ⟨y, rfl⟩ : ∃ y : Nat, x = (y : Int) := ⟨x.toNat, by omega⟩
    exact apart_big y (y / 64) a0 len0 cap0 zs a1 len1 cap1 fb w hV (by omega) (by omega) rfl (by omega) hz hy
end Go.Proofs.YtkhegceikdegbaaDoor
