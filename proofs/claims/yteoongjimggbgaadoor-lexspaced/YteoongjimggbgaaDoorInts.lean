/- The law LexInts, walked. -/
import Derived.Test.YteoongjimggbgaaDoorAnchor
import Derived.Test.YteoongjimggbgaaDoorIntsP
namespace Go.Proofs.YteoongjimggbgaaDoor
open Go.RowKit Go.Proofs.YteoongjimggbgaaDoor.Lx

theorem all_take_succ {p : UInt8 → Prop} {s : ByteArray} {j : Nat} (h : j < s.size) (ha : ∀ c ∈ s.toList.take j, p c) (hc : p s[j]) : ∀ c ∈ s.toList.take (j + 1), p c := by
  rw [toL_take s j h]
  intro c hm
  rcases List.mem_append.1 hm with hm | hm
  · exact ha c hm
  · rw [List.mem_singleton.1 hm]; exact hc
theorem take_all (s : ByteArray) (j : Nat) (h : s.size ≤ j) : s.toList.take j = s.toList := List.take_of_length_le (by rw [toL_len]; exact h)

set_option maxRecDepth 100000 in
set_option maxHeartbeats 1000000 in
theorem ints_any (s : ByteArray) (w : World) (hv : Vars w) : Calls Tryd.prog 8 #[.string s] w fun e w' => e = .returned (.bool true) ∧ Below w.heap.size w w' := by
  have HA := hide (anchor_any w hv)
  have HV := hide hv
  have hvl := hv.lt
  clear hv
  by_cases hs1 : s.size < 1
  · have t1 : (s.size : Int) < 1 := by omega
    go_enter Tryd.func8, Tryd.ntmps8
    go_wp2_with (first | (go_at_call 9; refine (unhide HA).mono ?_; rintro e w1 ⟨rfl, hb1⟩; have HB1 := hide hb1; clear hb1))
    go_ret
    exact ⟨rfl, unhide HB1⟩
  · have t1 : ¬ (s.size : Int) < 1 := by omega
    by_cases hs2 : 60 < s.size
    · have t2 : (60 : Int) < s.size := by omega
      go_enter Tryd.func8, Tryd.ntmps8
      go_wp2_with (first | (go_at_call 9; refine (unhide HA).mono ?_; rintro e w1 ⟨rfl, hb1⟩; have HB1 := hide hb1; clear hb1))
      go_ret
      exact ⟨rfl, unhide HB1⟩
    · have t2 : ¬ (60 : Int) < s.size := by omega
      go_enter Tryd.func8, Tryd.ntmps8
      go_wp2_with (first | (go_at_call 9; refine (unhide HA).mono ?_; rintro e w1 ⟨rfl, hb1⟩; have HB1 := hide hb1; clear hb1))
      go_loop [3, 19] (fun n i => ∃ j : Nat, j ≤ s.size ∧ i = .int .i64 j ∧ n = .int .i64 (numV (s.toList.take (min j 18))) ∧ ∀ c ∈ s.toList.take j, isDig c = true) (fun _ i => s.size - (intOf i).toNat)
      case atStart => exact ⟨0, Nat.zero_le _, rfl, rfl, fun c hc => by simp at hc⟩
      case round =>
        obtain ⟨j, hj, rfl, rfl, hd⟩ := hrel
        have HD := hide hd
        clear hd
        by_cases hlt : j < s.size
        · by_cases hdg : isDig s[j] = true
          · have hbd := isDig_bd s[j] hdg
            have HN : Hid (∀ c ∈ s.toList.take (j + 1), isDig c = true) := all_take_succ hlt (unhide HD) hdg
            clear hdg
            obtain ⟨hb1, hb2⟩ := hbd
            have b3 : ¬ (s[j].toNat : Int) < 48 := by omega
            have b4 : ¬ (57 : Int) < (s[j].toNat : Int) := by omega
            by_cases h18 : j < 18
            · have e18 : min j 18 = j := by omega
              rw [e18]
              have hV17 := numV_le17 (s.toList.take j) (by rw [List.length_take]; omega) (unhide HD)
              have HT : Hid (numV (s.toList.take (j + 1)) = 10 * numV (s.toList.take j) + ((s[j].toNat : Int) - 48)) := by
                show _ = _
                rw [toL_take s j hlt, numV_snoc]; omega
              have HM : Hid (min (j + 1) 18 = j + 1) := by show _ = _; omega
              generalize numV (s.toList.take j) = V at *
              obtain ⟨hv1, hv2⟩ := hV17
              clear e18
              go_wp2
              go_round
              case rel => exact ⟨j + 1, hlt, by go_num, by rw [unhide HM, unhide HT], unhide HN⟩
              case measure => simp [intOf]; omega
            · have HM : Hid (min (j + 1) 18 = min j 18) := by show _ = _; omega
              generalize hV : numV (s.toList.take (min j 18)) = V at *
              have HVV := hide hV
              clear hV
              go_wp2
              go_round
              case rel => exact ⟨j + 1, hlt, by go_num, by rw [unhide HM, unhide HVV], unhide HN⟩
              case measure => simp [intOf]; omega
          · have hbd : (s[j].toNat : Int) < 48 ∨ (57 : Int) < (s[j].toNat : Int) := by
              simp [isDig, digZ] at hdg; omega
            clear hdg
            by_cases b3 : (s[j].toNat : Int) < 48
            · go_wp2
              go_ret
              exact ⟨rfl, unhide HB1⟩
            · have b4 : (57 : Int) < (s[j].toNat : Int) := by omega
              go_wp2
              go_ret
              exact ⟨rfl, unhide HB1⟩
        · have hja : s.toList.take j = s.toList := take_all s j (by omega)
          rw [hja] at HD
          have hne : s.toList ≠ [] := by
            intro e
            have := toL_len s
            rw [e] at this
            simp at this
            omega
          have HN : Hid (numV (s.toList.take (min j 18)) = numV (s.toList.take 18)) := by
            show _ = _
            by_cases h18 : 18 ≤ j
            · rw [show min j 18 = 18 by omega]
            · rw [show min j 18 = j by omega, take_all s j (by omega), take_all s 18 (by omega)]
          have hv1 : Vars w1 := (unhide HV).below (B := w.heap.size) (by omega) (unhide HB1)
          have hlen : s.toList.length ≤ 8192 := by rw [toL_len]; omega
          cases hbad : numBad s.toList with
          | true =>
            have HS := hide (Scan_is s w1 hv1 [] 2 0 (lex_ints_bad s.toList (unhide HD) hne hlen hbad))
            rw [unhide HN]
            generalize numV (s.toList.take 18) = V at *
            clear hv1 hja
            by_cases h18 : 18 < s.size
            · have t3 : (18 : Int) < s.size := by omega
              go_wp2_with (first | (go_at_call 10; refine (unhide HS).mono ?_; rintro e w2 ⟨v, rfl, hown, hb2⟩; obtain ⟨ao, cap, hvv⟩ := own_form hown; subst hvv; have HB2 := hide hb2; clear hb2 hown))
              go_ret
              exact ⟨rfl, (((unhide HB1).trans ((unhide HB2).mono (unhide HB1).size)).alloc (Nat.le_trans (unhide HB1).size (unhide HB2).size) _)⟩
            · have t3 : ¬ (18 : Int) < s.size := by omega
              have h0 : 0 < s.size := by omega
              have hh : 1 < s.size ∧ s[0] = 48 := by
                simp [numBad, toL_len, h18] at hbad
                rw [List.head?_eq_getElem?, toL_get s 0 h0] at hbad
                exact ⟨hbad.1, by simpa using hbad.2⟩
              have t4 : (1 : Int) < s.size := by omega
              have t5 : ((s[0].toNat : Int) == 48) = true := beqT hh.2
              clear hbad hh
              go_wp2_with (first | (go_at_call 10; refine (unhide HS).mono ?_; rintro e w2 ⟨v, rfl, hown, hb2⟩; obtain ⟨ao, cap, hvv⟩ := own_form hown; subst hvv; have HB2 := hide hb2; clear hb2 hown))
              go_ret
              exact ⟨rfl, (((unhide HB1).trans ((unhide HB2).mono (unhide HB1).size)).alloc (Nat.le_trans (unhide HB1).size (unhide HB2).size) _)⟩
          | false =>
            have HS := hide (Scan_is s w1 hv1 _ 0 0 (lex_ints_ok s.toList (unhide HD) hne hlen hbad))
            have h18 : ¬ 18 < s.size := by
              intro h; simp [numBad, toL_len, h] at hbad
            have h0 : 0 < s.size := by omega
            have HN2 : Hid (numV (s.toList.take (min j 18)) = numV s.toList) := by
              show _ = _
              rw [unhide HN, take_all s 18 (by omega)]
            rw [unhide HN2]
            generalize numV s.toList = V at *
            have t3 : ¬ (18 : Int) < s.size := by omega
            clear hv1 hja
            by_cases h1 : 1 < s.size
            · have t4 : (1 : Int) < s.size := by omega
              have hh : ¬ s[0] = 48 := by
                intro e
                simp [numBad, toL_len, h18, h1, List.head?_eq_getElem?, toL_get s 0 h0, e] at hbad
              have t5 : ((s[0].toNat : Int) == 48) = false := beqF hh
              clear hbad hh
              go_wp2_with (first | (go_at_call 10; refine (unhide HS).mono ?_; rintro e w2 ⟨v, rfl, hown, hb2⟩; obtain ⟨g, cap, hvv, hg1, hg2, d0, d1, d2, d3⟩ := tok_cells hown 0 _ rfl; subst hvv; obtain ⟨g', cap', e2, _, _, d4, d5, d6, d7⟩ := tok_cells hown 1 _ rfl; obtain ⟨he1, he2⟩ := slice_inj e2; subst he1; subst he2; rw [ba_of] at d1; rw [toL_len] at d7; have HB2 := hide hb2; clear hb2 hown e2))
              go_ret
              exact ⟨rfl, (((unhide HB1).trans ((unhide HB2).mono (unhide HB1).size)).alloc (Nat.le_trans (unhide HB1).size (unhide HB2).size) _)⟩
            · have t4 : ¬ (1 : Int) < s.size := by omega
              clear hbad
              go_wp2_with (first | (go_at_call 10; refine (unhide HS).mono ?_; rintro e w2 ⟨v, rfl, hown, hb2⟩; obtain ⟨g, cap, hvv, hg1, hg2, d0, d1, d2, d3⟩ := tok_cells hown 0 _ rfl; subst hvv; obtain ⟨g', cap', e2, _, _, d4, d5, d6, d7⟩ := tok_cells hown 1 _ rfl; obtain ⟨he1, he2⟩ := slice_inj e2; subst he1; subst he2; rw [ba_of] at d1; rw [toL_len] at d7; have HB2 := hide hb2; clear hb2 hown e2))
              go_ret
              exact ⟨rfl, (((unhide HB1).trans ((unhide HB2).mono (unhide HB1).size)).alloc (Nat.le_trans (unhide HB1).size (unhide HB2).size) _)⟩
end Go.Proofs.YteoongjimggbgaaDoor
