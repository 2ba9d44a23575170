/- The laws TypesPairs and TypesReads, walked. -/
import Derived.Test.YtpmpjbnnjdpbnaaDoorRf5
set_option linter.unusedVariables false
namespace Go.Proofs.YtpmpjbnnjdpbnaaDoor
open Go.RowKit Go.Proofs.YtpmpjbnnjdpbnaaDoor.Lx

theorem spl_len : ∀ (l : List UInt8) (k : Nat) (cur : List UInt8) (acc : List (List UInt8)), (spl l k cur acc).1.length ≤ acc.length + l.length
  | [], _, _, acc => by simp [spl]
  | c :: q, k, cur, acc => by
    rw [spl]
    split
    · have := spl_len q (k + 1) (cur ++ [c]) acc; simp; omega
    · split
      · split
        · have := spl_len q (k - 1) (cur ++ [c]) acc; simp; omega
        · simp only
          split <;> simp
      · split
        · split
          · have := spl_len q 0 [] (acc ++ [cur]); simp at this ⊢; omega
          · have := spl_len q k (cur ++ [c]) acc; simp; omega
        · have := spl_len q k (cur ++ [c]) acc; simp; omega
theorem fn_len (s : ByteArray) (h : s.size ≤ 10000) : ((fnF s.toList).getD ([], [])).1.length ≤ 100000 := by
  unfold fnF
  cases hc : cut tF s.toList with
  | none => simp
  | some r =>
    have hl := congrArg List.length (cut_some.1 hc)
    rw [toL_len, List.length_append] at hl
    simp only
    split
    · have := spl_len r 0 [] []
      simp at this ⊢
      omega
    · simp
theorem eqF_symm (a b : List UInt8) : eqF a b = eqF b a := by
  unfold eqF
  cases h1 : (a == tN) with
  | true =>
    cases h2 : (b == tN) with
    | true =>
      rw [beq_iff_eq.1 h1, beq_iff_eq.1 h2]
    | false => simp
  | false =>
    cases h2 : (b == tN) with
    | true => simp
    | false =>
      simp only [Bool.false_eq_true, if_false]
      cases h3 : (a == b) with
      | true => rw [beq_iff_eq.1 h3]; simp
      | false =>
        have : (b == a) = false := by rw [beq_eq_false_iff_ne] at h3 ⊢; exact fun e => h3 e.symm
        rw [this]; simp
set_option maxRecDepth 100000 in
set_option maxHeartbeats 800000 in
theorem pairs_any (a b : ByteArray) (w : World) (hv : Vars w) (hq0 : a.size ≤ 140737488355328) (hq1 : b.size ≤ 140737488355328) : Calls Tryd.prog 4 #[.string a, .string b] w fun e w' => e = .returned (.bool true) ∧ Below w.heap.size w w' := by
  have HA := hide (anchor_any w hv)
  have HV := hide hv
  clear hv
  by_cases s1 : 2000 < a.size
  · have s1z : (2000 : Int) < a.size := by omega
    go_enter Tryd.func4, Tryd.ntmps4
    go_wp2_with fail
    refine (unhide HA).mono ?_
    rintro e w1 ⟨rfl, hb1⟩
    have HB1 := hide hb1
    clear hb1
    go_wp2_with fail
    go_ret
    exact ⟨rfl, unhide HB1⟩
  have s1z : ¬ (2000 : Int) < a.size := by omega
  by_cases s2 : 2000 < b.size
  · have s2z : (2000 : Int) < b.size := by omega
    go_enter Tryd.func4, Tryd.ntmps4
    go_wp2_with fail
    refine (unhide HA).mono ?_
    rintro e w1 ⟨rfl, hb1⟩
    have HB1 := hide hb1
    clear hb1
    go_wp2_with fail
    go_ret
    exact ⟨rfl, unhide HB1⟩
  have s2z : ¬ (2000 : Int) < b.size := by omega
  go_enter Tryd.func4, Tryd.ntmps4
  go_wp2_with fail
  refine (unhide HA).mono ?_
  rintro e w1 ⟨rfl, hb1⟩
  have HV1 := hide ((unhide HV).in hb1)
  have HB1 := hide hb1
  clear hb1
  obtain ⟨fv, hfv⟩ : ∃ v, fitF a.toList b.toList = v := ⟨_, rfl⟩
  obtain ⟨ev, hev⟩ : ∃ v, eqF a.toList b.toList = v := ⟨_, rfl⟩
  have hev2 : eqF b.toList a.toList = ev := (eqF_symm _ _).trans hev
  have HFV := hide hfv
  have HEV := hide hev
  have HEV2 := hide hev2
  clear hfv hev hev2
  have C1 := hide (fits_any a b w1 (unhide HV1) (by omega))
  rw [unhide HFV] at C1
  go_wp2_with fail
  refine (unhide C1).mono ?_
  rintro e w2 ⟨rfl, hb2⟩
  have HV2 := hide ((unhide HV1).in hb2)
  have HB2 := hide (bt (unhide HB1) hb2)
  clear hb2
  have C2 := hide (rfits_any a b w2 (by omega))
  rw [unhide HFV] at C2
  go_wp2_with fail
  refine (unhide C2).mono ?_
  rintro e w3 ⟨rfl, hb3⟩
  have HV3 := hide ((unhide HV2).in hb3)
  have HB3 := hide (bt (unhide HB2) hb3)
  clear hb3
  have C3 := hide (equals_any a b w3 (unhide HV3) (by omega) (by omega))
  rw [unhide HEV] at C3
  go_wp2_with fail
  refine (unhide C3).mono ?_
  rintro e w4 ⟨rfl, hb4⟩
  have HV4 := hide ((unhide HV3).in hb4)
  have HB4 := hide (bt (unhide HB3) hb4)
  clear hb4
  have C4 := hide (requals_any a b w4 (by omega) (by omega))
  rw [unhide HEV] at C4
  go_wp2_with fail
  refine (unhide C4).mono ?_
  rintro e w5 ⟨rfl, hb5⟩
  have HV5 := hide ((unhide HV4).in hb5)
  have HB5 := hide (bt (unhide HB4) hb5)
  clear hb5
  have C5 := hide (equals_any a b w5 (unhide HV5) (by omega) (by omega))
  rw [unhide HEV] at C5
  go_wp2_with fail
  refine (unhide C5).mono ?_
  rintro e w6 ⟨rfl, hb6⟩
  have HV6 := hide ((unhide HV5).in hb6)
  have HB6 := hide (bt (unhide HB5) hb6)
  clear hb6
  have C6 := hide (equals_any b a w6 (unhide HV6) (by omega) (by omega))
  rw [unhide HEV2] at C6
  go_wp2_with fail
  refine (unhide C6).mono ?_
  rintro e w7 ⟨rfl, hb7⟩
  have HV7 := hide ((unhide HV6).in hb7)
  have HB7 := hide (bt (unhide HB6) hb7)
  clear hb7
  go_wp2_with fail
  go_ret
  exact ⟨rfl, unhide HB7⟩
set_option maxRecDepth 100000 in
set_option maxHeartbeats 1600000 in
theorem reads_any (s : ByteArray) (w : World) (hv : Vars w) : Calls Tryd.prog 3 #[.string s] w fun e w' => e = .returned (.bool true) ∧ Below w.heap.size w w' := by
  have HA := hide (anchor_any w hv)
  have HV := hide hv
  clear hv
  by_cases s1 : 2000 < s.size
  · have s1z : (2000 : Int) < s.size := by omega
    go_enter Tryd.func3, Tryd.ntmps3
    go_wp2_with fail
    refine (unhide HA).mono ?_
    rintro e w1 ⟨rfl, hb1⟩
    have HB1 := hide hb1
    clear hb1
    go_wp2_with fail
    go_ret
    exact ⟨rfl, unhide HB1⟩
  have s1z : ¬ (2000 : Int) < s.size := by omega
  obtain ⟨ev, hev⟩ : ∃ v, elF s.toList = v := ⟨_, rfl⟩
  obtain ⟨fv, hfv⟩ : ∃ v, fnF s.toList = v := ⟨_, rfl⟩
  obtain ⟨vv, hvv⟩ : ∃ v, vd s.toList = v := ⟨_, rfl⟩
  obtain ⟨nv, hnv⟩ : ∃ v, nilF s.toList = v := ⟨_, rfl⟩
  have HLEN : Hid ((fv.getD ([], [])).1.length ≤ 100000) := by
    show (fv.getD ([], [])).1.length ≤ 100000
    rw [← hfv]
    exact fn_len s (by omega)
  have HEV := hide hev
  have HFV := hide hfv
  have HVV := hide hvv
  have HNV := hide hnv
  have HRF : Hid (refF s.toList = ((s.toList == [115, 116, 114, 105, 110, 103]) || nv)) := by
    show refF s.toList = _
    rw [← hnv]; rfl
  have HOR : Hid (ordF s.toList = ((s.toList == [105, 110, 116]) || (s.toList == [115, 116, 114, 105, 110, 103]))) := rfl
  clear hev hfv hvv hnv
  go_enter Tryd.func3, Tryd.ntmps3
  go_wp2_with fail
  refine (unhide HA).mono ?_
  rintro e w1 ⟨rfl, hb1⟩
  have HV1 := hide ((unhide HV).in hb1)
  have HB1 := hide hb1
  clear hb1
  have C1 := hide (elem_any s w1 (unhide HV1) (by omega))
  unfold ElemPost at C1
  rw [unhide HEV] at C1
  go_wp2_with fail
  refine (unhide C1).mono ?_
  rintro e w2 ⟨hb2, r1, rfl, hr1⟩
  have HV2 := hide ((unhide HV1).in hb2)
  have HB2 := hide (bt (unhide HB1) hb2)
  clear hb2
  have C2 := hide (relem_any s w2 (by omega))
  unfold ElemPost at C2
  rw [unhide HEV] at C2
  have R1 := hide hr1
  clear hr1
  go_wp2_with fail
  refine (unhide C2).mono ?_
  rintro e w3 ⟨hb3, r2, rfl, hr2⟩
  have HV3 := hide ((unhide HV2).in hb3)
  have HB3 := hide (bt (unhide HB2) hb3)
  clear hb3
  have hr12 : r1.toList = r2.toList := (unhide R1).trans hr2.symm
  clear hr2
  have C3 := hide (func_any s w3 (unhide HV3) (by omega))
  unfold FuncPost at C3
  rw [unhide HFV] at C3
  go_wp2_with fail
  refine (unhide C3).mono ?_
  rintro e w4 ⟨hb4, v1, r3, rfl, hr3, hown1⟩
  have HV4 := hide ((unhide HV3).in hb4)
  have HB4 := hide (bt (unhide HB3) hb4)
  clear hb4
  have R3 := hide hr3
  have O1 := hide hown1
  clear hr3 hown1
  have C4 := hide (rfunc_any s w4 (by omega))
  unfold FuncPost at C4
  rw [unhide HFV] at C4
  go_wp2_with fail
  refine (unhide C4).mono ?_
  rintro e w5 ⟨hb5, v2, r4, rfl, hr4, hown2⟩
  have HV5 := hide ((unhide HV4).in hb5)
  have HB5 := hide (bt (unhide HB4) hb5)
  have O2 := hide (own_below (unhide O1) hb5)
  have O3 := hide hown2
  have hr34 : r3.toList = r4.toList := (unhide R3).trans hr4.symm
  clear hb5 hown2 hr4
  have C5 := hide (valid_any s w5 (unhide HV5) (by omega))
  rw [unhide HVV] at C5
  go_wp2_with fail
  refine (unhide C5).mono ?_
  rintro e w6 ⟨rfl, hb6⟩
  have HB6 := hide hb6
  clear hb6
  have C6 := hide (rvalid_any s w6 (by omega))
  rw [unhide HVV] at C6
  go_wp2_with fail
  refine (unhide C6).mono ?_
  rintro e w7 ⟨rfl, hb7⟩
  have HB57 := hide (bt (unhide HB6) hb7)
  have HV7 := hide ((unhide HV5).in (unhide HB57))
  have HB7 := hide (bt (unhide HB5) (unhide HB57))
  clear hb7
  have C7 := hide (texts_same (fv.getD ([], [])).1 _ _ v1 v2 w7 (unhide HLEN) (own_below (unhide O2) (unhide HB57)) (own_below (unhide O3) (unhide HB57)))
  go_wp2_with fail
  refine (unhide C7).mono ?_
  rintro e w' ⟨rfl, hww⟩
  rw [hww]
  clear hww
  have C8 := hide (nilable_any s w7 (unhide HV7) (by omega))
  rw [unhide HNV] at C8
  go_wp2_with fail
  refine (unhide C8).mono ?_
  rintro e w8 ⟨rfl, hb8⟩
  have HV8 := hide ((unhide HV7).in hb8)
  have HB8 := hide (bt (unhide HB7) hb8)
  clear hb8
  have C9 := hide (rnil_any s w8 (by omega))
  rw [unhide HNV] at C9
  go_wp2_with fail
  refine (unhide C9).mono ?_
  rintro e w9 ⟨rfl, hb9⟩
  have HV9 := hide ((unhide HV8).in hb9)
  have HB9 := hide (bt (unhide HB8) hb9)
  clear hb9
  have D1 := hide (reference_any s w9 (unhide HV9) (by omega))
  rw [unhide HRF] at D1
  have D3 := hide (fun w => ordered_any s w)
  cases hst : (s.toList == [115, 116, 114, 105, 110, 103]) with
  | true =>
    rw [hst] at D1 HOR
    go_wp2_with fail
    refine (unhide D1).mono ?_
    rintro e wa ⟨rfl, hba⟩
    have HBa := hide (bt (unhide HB9) hba)
    clear hba
    have D4 := hide (ordered_any s wa)
    rw [unhide HOR] at D4
    cases hin : (s.toList == [105, 110, 116]) with
    | true =>
      rw [hin] at D4
      go_wp2_with fail
      refine (unhide D4).mono ?_
      rintro e w' ⟨rfl, hww⟩
      rw [hww]
      clear hww
      go_wp2_with fail
      go_ret
      exact ⟨rfl, unhide HBa⟩
    | false =>
      rw [hin] at D4
      go_wp2_with fail
      refine (unhide D4).mono ?_
      rintro e w' ⟨rfl, hww⟩
      rw [hww]
      clear hww
      go_wp2_with fail
      go_ret
      exact ⟨rfl, unhide HBa⟩
  | false =>
    rw [hst] at D1 HOR
    go_wp2_with fail
    refine (unhide D1).mono ?_
    rintro e wa ⟨rfl, hba⟩
    have HBa := hide (bt (unhide HB9) hba)
    clear hba
    have D2 := hide (rnil_any s wa (by omega))
    rw [unhide HNV] at D2
    go_wp2_with fail
    refine (unhide D2).mono ?_
    rintro e wb ⟨rfl, hbb⟩
    have HBb := hide (bt (unhide HBa) hbb)
    clear hbb
    have D4 := hide (ordered_any s wb)
    rw [unhide HOR] at D4
    cases hin : (s.toList == [105, 110, 116]) with
    | true =>
      rw [hin] at D4
      go_wp2_with fail
      refine (unhide D4).mono ?_
      rintro e w' ⟨rfl, hww⟩
      rw [hww]
      clear hww
      go_wp2_with fail
      go_ret
      exact ⟨rfl, unhide HBb⟩
    | false =>
      rw [hin] at D4
      go_wp2_with fail
      refine (unhide D4).mono ?_
      rintro e w' ⟨rfl, hww⟩
      rw [hww]
      clear hww
      go_wp2_with fail
      go_ret
      exact ⟨rfl, unhide HBb⟩
end Go.Proofs.YtpmpjbnnjdpbnaaDoor
