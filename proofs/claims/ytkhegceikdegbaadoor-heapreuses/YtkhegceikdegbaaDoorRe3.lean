/- HeapReuses: all arguments. -/
import Derived.Test.YtkhegceikdegbaaDoorRe2
namespace Go.Proofs.YtkhegceikdegbaaDoor
open Go.RowKit Go.Proofs.YtkhegceikdegbaaDoor.Hp
set_option maxRecDepth 100000 in
set_option maxHeartbeats 2000000 in
theorem reuses_small (n c : Int) (a0 : Option Addr) (len0 cap0 : Nat) (w : World) (hV : Vars w) (hl : len0 ≤ 9223372036854775807) (h : n < 1 ∨ 200 < n ∨ 300 < len0 ∨ c < 1 ∨ 64 < c) :
    Calls Tryd.prog 6 #[.int .i64 n, .slice a0 len0 cap0, .int .i64 c] w fun e w' => e = .returned (.bool true) ∧ Below w.heap.size w w' := by
  have HAn : Hid (Calls Tryd.prog 8 #[] w fun e w' => e = .returned (.bool true) ∧ Below w.heap.size w w') := hide ((anchor_any w hV).mono fun e w' h => ⟨h.1, h.2.1.below (Nat.le_refl _) (fun _ x => x.elim)⟩)
  clear hV
  by_cases h1 : n < 1
  · go_enter Tryd.func6, Tryd.ntmps6
    go_wp2_with fail
    refine (unhide HAn).mono ?_
    rintro e w1 ⟨rfl, hF1⟩
    go_wp2
    go_ret
    exact ⟨rfl, hF1⟩
  · by_cases h2 : 200 < n
    · go_enter Tryd.func6, Tryd.ntmps6
      go_wp2_with fail
      refine (unhide HAn).mono ?_
      rintro e w1 ⟨rfl, hF1⟩
      go_wp2
      go_ret
      exact ⟨rfl, hF1⟩
    · by_cases h3 : 300 < len0
      · go_enter Tryd.func6, Tryd.ntmps6
        go_wp2_with fail
        refine (unhide HAn).mono ?_
        rintro e w1 ⟨rfl, hF1⟩
        go_wp2
        go_ret
        exact ⟨rfl, hF1⟩
      · by_cases h4 : c < 1
        · go_enter Tryd.func6, Tryd.ntmps6
          go_wp2_with fail
          refine (unhide HAn).mono ?_
          rintro e w1 ⟨rfl, hF1⟩
          go_wp2
          go_ret
          exact ⟨rfl, hF1⟩
        · have h5 : 64 < c := by omega
          go_enter Tryd.func6, Tryd.ntmps6
          go_wp2_with fail
          refine (unhide HAn).mono ?_
          rintro e w1 ⟨rfl, hF1⟩
          go_wp2
          go_ret
          exact ⟨rfl, hF1⟩
theorem reuses_w (n : Int) (a0 : Option Addr) (len0 cap0 : Nat) (zs : List Int) (c : Int) (w : World) (hV : Vars w) (hl : len0 ≤ 9223372036854775807)
    (hz : ∀ j, j < len0 → ∃ b off, a0 = some ⟨b, off, none⟩ ∧ b < w.heap.size ∧ w.cell? ⟨b, off + j, none⟩ = some (.int .i64 (zs.getD j 0))) :
    Calls Tryd.prog 6 #[.int .i64 n, .slice a0 len0 cap0, .int .i64 c] w fun e w' => e = .returned (.bool true) ∧ Below w.heap.size w w' := by
  by_cases h : n < 1 ∨ 200 < n ∨ 300 < len0 ∨ c < 1 ∨ 64 < c
  · exact reuses_small n c a0 len0 cap0 w hV hl h
  · obtain ⟨x, rfl⟩ : ∃ x : Nat, n = (x : Int) := ⟨n.toNat, by omega⟩
    obtain ⟨m, rfl⟩ : ∃ m : Nat, c = (m : Int) := ⟨c.toNat, by omega⟩
    exact reuses_big x m a0 len0 cap0 zs w hV (by omega) (by omega) (by omega) (by omega) (by omega) hz
end Go.Proofs.YtkhegceikdegbaaDoor
