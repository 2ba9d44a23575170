/- SchedNumbers, walked. -/
import Derived.Test.YtidacjkpioenhaaM6
namespace Go.Proofs.Ytidacjkpioenhaa
open Go.RowKit
theorem Fr.low0 {w w' : World} (h : Fr (fun _ => False) w w') : Below w.heap.size w w' := h.below (Nat.le_refl _) (fun _ x => x.elim)
set_option maxHeartbeats 1000000 in
theorem numbers_out (w : World) (ao : Option Addr) (cp : Nat) (zs : List Int) (more : Int) (hm : zs.length ≤ maxLen) (h : 500 < zs.length ∨ more < 0 ∨ 100 < more) :
    Calls Try.prog 5 #[.slice ao zs.length cp, .int .i64 more] w fun e w' => e = .returned (.bool true) ∧ Below w.heap.size w w' := by
  unfold maxLen at hm
  have HA := hide (anchor_any w)
  go_enter Try.func5, Try.ntmps5
  go_wp2_with fail
  refine (unhide HA).mono ?_
  rintro e w1 ⟨rfl, hF⟩
  have HB := hide hF.low0
  clear hF
  have hb : ((decide (500 < zs.length) || decide (more < 0)) || decide (100 < more)) = true := by
    rcases h with h | h | h <;> simp [h]
  go_wp2
  all_goals first | (go_ret; exact ⟨rfl, unhide HB⟩) | (exfalso; omega)
set_option maxRecDepth 100000 in
set_option maxHeartbeats 1000000 in
theorem numbers_in (w : World) (ao : Option Addr) (cp : Nat) (zs : List Int) (M : Nat) (hl : zs.length ≤ 500) (hM : M ≤ 100) (hr : ∀ z ∈ zs, rng z) (hz : IntsAt w ao zs) :
    Calls Try.prog 5 #[.slice ao zs.length cp, .int .i64 (M : Nat)] w fun e w' => e = .returned (.bool true) ∧ Below w.heap.size w w' := by
  have HA := hide (anchor_any w)
  have HNw : Hid (∀ w1, Fr (fun _ => False) w w1 → Calls Try.prog 8 #[.slice ao zs.length cp] w1 fun e w2 => ∃ p, e = .returned (.pointer (some ⟨p, 0, none⟩)) ∧ Run w w2 p zs []) := hide fun w1 hF => (New_q w1 ao cp zs (hz.quiet hF) (by omega) hr).mono fun e w2 h => Run.new hF h
  have HZ := hide hz
  have HNm : Hid (∀ p w' S, Run w w' p S [] → Calls Try.prog 15 #[.pointer (some ⟨p, 0, none⟩)] w' fun e w'' => e = .returned (.int .i64 (numN S : Nat)) ∧ Run w w'' p S.tail []) := hide fun p w' S h => h.number
  have HFr : Hid (∀ p w' S, Run w w' p S [] → Fr (fun _ => False) w w') := hide fun p w' S ⟨_, _, _, _, h⟩ => h
  have HLn : Hid (∀ p w' S, Run w w' p S [] → Calls Try.prog 12 #[.pointer (some ⟨p, 0, none⟩)] w' fun e w'' => e = .returned (.int .i64 0) ∧ w' = w'') := hide fun p w' S h => h.len
  have HLs : Hid (∀ p w' S, Run w w' p S [] → Calls Try.prog 13 #[.pointer (some ⟨p, 0, none⟩)] w' fun e w'' => ∃ ao cp, e = .returned (.slice ao 0 cp) ∧ Below w.heap.size w w'') := hide fun p w' S h => (h.list (by simp)).mono fun e w'' ⟨hc, hr⟩ => by
    obtain ⟨ao, cp, _, he, _⟩ := hc
    obtain ⟨_, _, _, _, hF⟩ := hr
    exact ⟨ao, cp, he, hF.low0⟩
  obtain ⟨n, hn⟩ : ∃ n, n = zs.length := ⟨_, rfl⟩
  have HIl : Hid (n = zs.length) := hide hn
  rw [← hn] at hl HNw ⊢
  clear hn hz hr
  go_enter Try.func5, Try.ntmps5
  go_wp2_with fail
  refine (unhide HA).mono ?_
  rintro e w1 ⟨rfl, hF⟩
  have HW1 := hide (unhide HNw w1 hF)
  clear hF HA HNw
  go_wp2_with fail
  refine (unhide HW1).mono ?_
  rintro e w2 ⟨p, rfl, hR⟩
  have HR := hide hR
  clear hR HW1
  go_wp2
  go_loopw [27] (fun i wr => ∃ k : Nat, k ≤ n ∧ i = .int .i64 k ∧ Hid (Run w wr p (zs.drop k) [])) (fun i _ => n - (intOf i).toNat)
  case atStart => exact ⟨0, by omega, rfl, HR⟩
  case round =>
    obtain ⟨k, hk, rfl, hR⟩ := hrel
    by_cases hlt : k < n
    · have hkz : k < zs.length := by have := unhide HIl; omega
      obtain ⟨b, off, hab, hb1, cz⟩ := (unhide HZ).quiet (unhide HFr _ _ _ (unhide hR)) k hkz
      subst hab
      obtain ⟨z, hz⟩ : ∃ z, z = zs.getD k 0 := ⟨_, rfl⟩
      rw [← hz] at cz
      have hz2 : z = zs[k] := by rw [hz]; simp [List.getD, hkz]
      have HC : Hid (Calls Try.prog 15 #[.pointer (some ⟨p, 0, none⟩)] wr fun e w'' => e = .returned (.int .i64 (z.toNat : Nat)) ∧ Run w w'' p (zs.drop (k + 1)) []) := hide (by
        have := unhide HNm p wr (zs.drop k) (unhide hR)
        rw [List.drop_eq_getElem_cons hkz, ← hz2] at this
        exact this)
      clear hz hz2 hkz hR
      by_cases hneg : z < 0
      · have hz0 : z.toNat = 0 := by omega
        rw [hz0] at HC
        go_wp2_with (go_at_call 15; refine (unhide HC).mono ?_; rintro e w3 ⟨rfl, hR3⟩; have HR3 := hide hR3; clear hR3)
        go_roundw
        case rel => exact ⟨k + 1, by omega, by go_num, HR3⟩
        case measure => simp [intOf]; omega
      · have hz0 : ((z.toNat : Nat) : Int) = z := by omega
        rw [hz0] at HC
        go_wp2_with (go_at_call 15; refine (unhide HC).mono ?_; rintro e w3 ⟨rfl, hR3⟩; have HR3 := hide hR3; clear hR3)
        go_roundw
        case rel => exact ⟨k + 1, by omega, by go_num, HR3⟩
        case measure => simp [intOf]; omega
    · have HR2 : Hid (Run w wr p [] []) := hide (by have := unhide hR; rwa [List.drop_eq_nil_of_le (by have := unhide HIl; omega)] at this)
      clear hR
      go_wp2
      go_loopw [39] (fun i wr => ∃ k : Nat, k ≤ M ∧ i = .int .i64 k ∧ Hid (Run w wr p [] [])) (fun i _ => M - (intOf i).toNat)
      case atStart => exact ⟨0, by omega, rfl, HR2⟩
      case round =>
        obtain ⟨j, hj, rfl, hR3⟩ := hrel
        by_cases hjt : j < M
        · have HC : Hid (Calls Try.prog 15 #[.pointer (some ⟨p, 0, none⟩)] wr fun e w'' => e = .returned (.int .i64 0) ∧ Run w w'' p [] []) := hide (unhide HNm p wr [] (unhide hR3))
          clear hR3
          go_wp2_with (go_at_call 15; refine (unhide HC).mono ?_; rintro e w3 ⟨rfl, hR4⟩; have HR4 := hide hR4; clear hR4)
          go_roundw
          case rel => exact ⟨j + 1, by omega, by go_num, HR4⟩
          case measure => simp [intOf]; omega
        · have HC1 := hide (unhide HLn p wr [] (unhide hR3))
          have HC2 := hide (unhide HLs p wr [] (unhide hR3))
          clear hR3
          go_wp2_with (first | (go_at_call 12; refine (unhide HC1).mono ?_; rintro e w3 ⟨rfl, rfl⟩) | (go_at_call 13; refine (unhide HC2).mono ?_; rintro e w4 ⟨ao4, cp4, rfl, hB⟩; have HB := hide hB; clear hB))
          go_ret
          exact ⟨rfl, unhide HB⟩
theorem numbers_w (ao : Option Addr) (cp : Nat) (zs : List Int) (more : Int) (w : World) (hm : zs.length ≤ maxLen) (hr : ∀ z ∈ zs, rng z) (hz : IntsAt w ao zs) :
    Calls Try.prog 5 #[.slice ao zs.length cp, .int .i64 more] w fun e w' => e = .returned (.bool true) ∧ Below w.heap.size w w' := by
  by_cases h : 500 < zs.length ∨ more < 0 ∨ 100 < more
  · exact numbers_out w ao cp zs more hm h
  · obtain ⟨M, rfl⟩ := Int.eq_ofNat_of_zero_le (show 0 ≤ more by omega)
    exact numbers_in w ao cp zs M (by omega) (by omega) hr hz
end Go.Proofs.Ytidacjkpioenhaa
