/- AsmNames, walked. -/
import Derived.Test.YtipnefogflpkhaaDoorAk0
set_option linter.unusedVariables false
set_option linter.unusedSimpArgs false
namespace Go.Proofs.YtipnefogflpkhaaDoor
open Go.RowKit
set_option maxRecDepth 100000 in
set_option maxHeartbeats 4000000 in
theorem names_w (op : Int) (w : World) (hV : Vs w) : Calls Tryd.prog 4 #[.int .i64 op] w fun e w' => e = .returned (.bool true) ∧ Below w.heap.size w w' := by
  have HA := hide (anchor_any w hV w (Below.refl _ _))
  have HT := hide table_any
  have HN := hide (fun w1 (hB : Below w.heap.size w w1) => Name_any w1 op (hV.nm w1 hB))
  by_cases h : 1 ≤ op ∧ op ≤ 56
  · obtain ⟨q, rfl⟩ : ∃ q : Nat, op = q := ⟨op.toNat, by omega⟩
    have e : nrm q = q := by unfold nrm; rw [if_pos h]; rfl
    rw [e] at HN
    have hq57 : (q : Int) < 57 := by omega
    obtain ⟨N, hN⟩ : ∃ N, nm q = N := ⟨_, rfl⟩
    rw [hN] at HN
    go_enter Tryd.func4, Tryd.ntmps4
    go_wp2_with (go_at_call 5; refine (unhide HA).mono ?_)
    rintro e w1 ⟨rfl, hg1⟩
    have HB1 := hide (below_grown (Below.refl _ _) hg1)
    clear hg1 HA
    go_wp2_with (go_at_call 10; refine ((unhide HT) w1).mono ?_)
    rintro e w2 ⟨rfl, hg2, hn, hu⟩
    have HB2 := hide (below_grown (unhide HB1) hg2)
    have hn1 := hn q (by omega)
    rw [hN] at hn1
    have HC := hide ((unhide HN) w2 (unhide HB2))
    clear hg2 HT HN hn hu
    go_wp2_with (go_at_call 11; refine (unhide HC).mono ?_)
    rintro e w3 ⟨rfl, rfl⟩
    go_wp2
    go_ret
    exact ⟨rfl, unhide HB2⟩
  · have e : nrm op = 0 := by unfold nrm; rw [if_neg h]
    rw [e] at HN
    have HN2 : Hid (∀ w1, Below w.heap.size w w1 → Calls Tryd.prog 11 #[.int .i64 op] w1 fun e w' => e = .returned (.string ⟨#[63]⟩) ∧ w' = w1) := hide (unhide HN)
    clear HN e
    by_cases h1 : 1 ≤ op
    · have h2 : ¬ op ≤ 56 := by omega
      go_enter Tryd.func4, Tryd.ntmps4
      go_wp2_with (go_at_call 5; refine (unhide HA).mono ?_)
      rintro e w1 ⟨rfl, hg1⟩
      have HB1 := hide (below_grown (Below.refl _ _) hg1)
      clear hg1 HA
      go_wp2_with (go_at_call 10; refine ((unhide HT) w1).mono ?_)
      rintro e w2 ⟨rfl, hg2, hn, hu⟩
      have HB2 := hide (below_grown (unhide HB1) hg2)
      have HC := hide ((unhide HN2) w2 (unhide HB2))
      clear hg2 HT HN2 hn hu
      go_wp2_with (go_at_call 11; refine (unhide HC).mono ?_)
      rintro e w3 ⟨rfl, rfl⟩
      go_wp2
      go_ret
      exact ⟨rfl, unhide HB2⟩
    · go_enter Tryd.func4, Tryd.ntmps4
      go_wp2_with (go_at_call 5; refine (unhide HA).mono ?_)
      rintro e w1 ⟨rfl, hg1⟩
      have HB1 := hide (below_grown (Below.refl _ _) hg1)
      clear hg1 HA
      go_wp2_with (go_at_call 10; refine ((unhide HT) w1).mono ?_)
      rintro e w2 ⟨rfl, hg2, hn, hu⟩
      have HB2 := hide (below_grown (unhide HB1) hg2)
      have HC := hide ((unhide HN2) w2 (unhide HB2))
      clear hg2 HT HN2 hn hu
      go_wp2_with (go_at_call 11; refine (unhide HC).mono ?_)
      go_ret
      exact ⟨rfl, unhide HB2⟩
end Go.Proofs.YtipnefogflpkhaaDoor
