/- How many spans are free, by the reference. -/
import Derived.Test.YtjblmincldaklaaDoorU3
namespace Go.Proofs.YtjblmincldaklaaDoor
open Go.RowKit Go.Proofs.YtjblmincldaklaaDoor.Hp
set_option maxHeartbeats 1000000 in
theorem RefSpans_any (pb base N : Nat) (L : List Rb) (lv : Value) (A : Nat → Kd) (w : World) (h : RefAt w pb base N L lv) (hI : Inv N A) (hM : Match A L) (hN1 : 1 ≤ N) (hN : N ≤ 16384) :
    Calls Tryd.prog 25 #[.pointer (some ⟨pb, 0, none⟩)] w fun e w' => e = .returned (.int .i64 (cntN (fun s => frK (A s)) N)) ∧ Fr (fun _ => False) w w' := by
  have H := hide h
  have HI := hide hI
  have HM := hide hM
  have HZ : Hid (cntN (fun s => frK (A s)) 1 = 0) := hide (cnt_free_zero A hI.zero)
  clear h hI hM
  go_enter Tryd.func25, Tryd.ntmps25
  go_wp2
  go_loopw [3, 4] (fun c t wr => ∃ s : Nat, 1 ≤ s ∧ s ≤ N ∧ t = .int .i64 s ∧ c = .int .i64 (cntN (fun s => frK (A s)) s) ∧ Hid (Fr (fun _ => False) w wr)) (fun _ t _ => N - (intOf t).toNat)
  case atStart => exact ⟨1, by omega, by omega, rfl, by rw [unhide HZ]; rfl, hide (Fr.refl _ _)⟩
  case round =>
    obtain ⟨s, hs1, hs2, rfl, rfl, hF⟩ := hrel
    have hR := (unhide H).quiet (unhide hF)
    have cN := hR.cN
    have hle := cntN_le (fun s => frK (A s)) s
    by_cases hlt : s < N
    · have HC := hide (Class_any pb base N L lv A s wr hR (unhide HI) (unhide HM) hs1 hlt hN)
      have HS : Hid (cntN (fun s => frK (A s)) (s + 1) = cntN (fun s => frK (A s)) s + if frK (A s) then 1 else 0) := hide rfl
      have hz := cK_zero (A := A) s
      clear hR
      generalize cntN (fun s => frK (A s)) s = c at *
      by_cases h0 : A s = .free
      · rw [hz.2 h0] at HC
        have HS2 : Hid (cntN (fun s => frK (A s)) (s + 1) = c + 1) := hide (by rw [unhide HS, h0]; rfl)
        clear hz h0 HS
        go_wp2_with fail
        refine (unhide HC).mono ?_
        rintro e w1 ⟨rfl, hF1⟩
        go_wp2
        go_roundw
        case rel => exact ⟨s + 1, by omega, by omega, by go_num, val_int (by rw [unhide HS2]; omega), hide ((unhide hF).trans hF1)⟩
        case measure => simp [intOf]; omega
      · have hne : cK (A s) ≠ 0 := fun e => h0 (hz.1 e)
        have HS2 : Hid (cntN (fun s => frK (A s)) (s + 1) = c) := hide (by
          rw [unhide HS, frK_false.2 h0]; rfl)
        have hneb : (cK (A s) == 0) = false := by simpa using hne
        clear hz h0 HS
        generalize cK (A s) = y at *
        go_wp2_with fail
        refine (unhide HC).mono ?_
        rintro e w1 ⟨rfl, hF1⟩
        go_wp2
        go_roundw
        case rel => exact ⟨s + 1, by omega, by omega, by go_num, by rw [unhide HS2], hide ((unhide hF).trans hF1)⟩
        case measure => simp [intOf]; omega
    · have e : s = N := by omega
      subst e
      clear hR
      go_wp2
      go_ret
      exact ⟨rfl, unhide hF⟩
end Go.Proofs.YtjblmincldaklaaDoor
