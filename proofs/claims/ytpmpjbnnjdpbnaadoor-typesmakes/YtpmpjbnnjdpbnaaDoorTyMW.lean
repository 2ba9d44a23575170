/- The law TypesMakes, walked. -/
import Derived.Test.YtpmpjbnnjdpbnaaDoorTyM
namespace Go.Proofs.YtpmpjbnnjdpbnaaDoor
open Go.RowKit Go.Proofs.YtpmpjbnnjdpbnaaDoor.Lx

def mkL (t : ByteArray) : ByteArray := ⟨#[91, 93]⟩ ++ t
def mkC (t : ByteArray) : ByteArray := ⟨#[99, 104, 97, 110, 32]⟩ ++ t
def mkF (t u : ByteArray) : ByteArray := ⟨#[102, 117, 110, 99, 40]⟩ ++ t ++ ⟨#[44]⟩ ++ u ++ ⟨#[41]⟩ ++ t
def mkP (t : ByteArray) : ByteArray := ⟨#[42]⟩ ++ t
theorem mkL_toL (t : ByteArray) : (mkL t).toList = tL ++ t.toList := by
  unfold mkL; rw [toL_app, mk_toL #[91, 93]]; rfl
theorem mkC_toL (t : ByteArray) : (mkC t).toList = tC ++ t.toList := by
  unfold mkC; rw [toL_app, mk_toL #[99, 104, 97, 110, 32]]; rfl
theorem mkP_toL (t : ByteArray) : (mkP t).toList = tP ++ t.toList := by
  unfold mkP; rw [toL_app, mk_toL #[42]]; rfl
theorem mkF_toL (t u : ByteArray) : (mkF t u).toList = tF ++ t.toList ++ [44] ++ u.toList ++ [41] ++ t.toList := by
  unfold mkF; rw [toL_app, toL_app, toL_app, toL_app, toL_app, mk_toL #[102, 117, 110, 99, 40], mk_toL #[44], mk_toL #[41]]; rfl
theorem mkL_size (t : ByteArray) (h : t.size ≤ 2000) : (mkL t).size ≤ 1000000 := by
  rw [← toL_len, mkL_toL, List.length_append, toL_len]; simp [tL]; omega
theorem mkC_size (t : ByteArray) (h : t.size ≤ 2000) : (mkC t).size ≤ 1000000 := by
  rw [← toL_len, mkC_toL, List.length_append, toL_len]; simp [tC]; omega
theorem mkP_size (t : ByteArray) (h : t.size ≤ 2000) : (mkP t).size ≤ 1000000 := by
  rw [← toL_len, mkP_toL, List.length_append, toL_len]; simp [tP]; omega
theorem mkF_size (t u : ByteArray) (h : t.size ≤ 2000) (h' : u.size ≤ 2000) : (mkF t u).size ≤ 1000000 := by
  rw [← toL_len, mkF_toL, List.length_append, List.length_append, List.length_append, List.length_append, List.length_append, toL_len, toL_len]; simp [tF]; omega
set_option maxRecDepth 100000 in
set_option maxHeartbeats 400000 in
theorem makes_big (t u nme : ByteArray) (w : World) (hv : Vars w) (ht : t.size ≤ 140737488355328) (hu : u.size ≤ 140737488355328) (hsz : 2000 < t.size + u.size) : Calls Tryd.prog 6 #[.string t, .string u, .string nme] w fun e w' => e = .returned (.bool true) ∧ Below w.heap.size w w' := by
  have HA := hide (anchor_any w hv)
  clear hv
  have hszz : (2000 : Int) < (t.size : Int) + u.size := by omega
  go_enter Tryd.func6, Tryd.ntmps6
  go_wp2_with fail
  refine (unhide HA).mono ?_
  rintro e w1 ⟨rfl, hb1⟩
  have HB1 := hide hb1
  clear hb1
  go_wp2_with fail
  go_ret
  exact ⟨rfl, unhide HB1⟩
set_option maxRecDepth 100000 in
set_option maxHeartbeats 800000 in
theorem makes_na (t u nme : ByteArray) (w : World) (hv : Vars w) (htz : t.size ≤ 2000) (huz : u.size ≤ 2000) (hszz : ¬ (2000 : Int) < (t.size : Int) + u.size) (hn : nme.size ≤ 140737488355328) (hvt : vd t.toList = false) (g1 : nme.size < 1) : Calls Tryd.prog 6 #[.string t, .string u, .string nme] w fun e w' => e = .returned (.bool true) ∧ Below w.heap.size w w' := by
  have HA := hide (anchor_any w hv)
  have HV := hide hv
  clear hv
  go_enter Tryd.func6, Tryd.ntmps6
  go_wp2_with fail
  refine (unhide HA).mono ?_
  rintro e w1 ⟨rfl, hb1⟩
  have HV1 := hide ((unhide HV).in hb1)
  have HB1 := hide hb1
  clear hb1
  have E1 := hide (elem_any (mkL t) w1 (unhide HV1) (mkL_size t htz))
  unfold ElemPost at E1
  rw [mkL_toL, mk_elL, hvt] at E1
  go_wp2_with fail
  refine (unhide E1).mono ?_
  rintro e w2 ⟨hb2, r1, rfl, hr1⟩
  have HV2 := hide ((unhide HV1).in hb2)
  have HB2 := hide (bt (unhide HB1) hb2)
  clear hb2 hr1
  have E2 := hide (elem_any (mkC t) w2 (unhide HV2) (mkC_size t htz))
  unfold ElemPost at E2
  rw [mkC_toL, mk_elC, hvt] at E2
  go_wp2_with fail
  refine (unhide E2).mono ?_
  rintro e w3 ⟨hb3, r2, rfl, hr2⟩
  have HV3 := hide ((unhide HV2).in hb3)
  have HB3 := hide (bt (unhide HB2) hb3)
  clear hb3 hr2
  have E3 := hide (func_any (mkF t u) w3 (unhide HV3) (mkF_size t u htz huz))
  unfold FuncPost at E3
  go_wp2_with fail
  refine (unhide E3).mono ?_
  rintro e w4 ⟨hb4, v, r3, rfl, hr3, hown⟩
  have HV4 := hide ((unhide HV3).in hb4)
  have HB4 := hide (bt (unhide HB3) hb4)
  obtain ⟨ao, cap, hvv⟩ := own_form hown
  subst hvv
  clear hb4 hr3 hown
  have E4 := hide (valid_any t w4 (unhide HV4) (by omega))
  rw [hvt] at E4
  go_wp2_with fail
  refine (unhide E4).mono ?_
  rintro e w5 ⟨rfl, hb5⟩
  have HV5 := hide ((unhide HV4).in hb5)
  have HB5 := hide (bt (unhide HB4) hb5)
  clear hb5
  have HBW := HB5
  have HVW := HV5
  have g1z : ¬ (1 : Int) ≤ nme.size := by omega
  go_wp2_with fail
  go_loopg [14, 15, 16, 112] nme.size (fun g v14 _ _ v112 wx => ∃ (i : Nat), g = nme.size - i ∧ i ≤ nme.size ∧ v112 = .int .i64 i ∧ v14 = .bool (decide (1 ≤ nme.size) && decide (nme.size ≤ 24) && (nme.toList.take i).all okc) ∧ wx = w5)
  case atStart => exact ⟨0, by omega, by omega, rfl, by rw [decide_eq_false (show ¬ 1 ≤ nme.size by omega)]; rfl, rfl⟩
  case round =>
    obtain ⟨i, rfl, hi, rfl, rfl, hwx⟩ := hrel
    have hw2 := hwx.symm
    clear hwx
    subst hw2
    by_cases hlt : i < nme.size
    · have hltz : (i : Int) < nme.size := by omega
      have HT := hide (take_okc nme i hlt)
      generalize hpv : (decide (1 ≤ nme.size) && decide (nme.size ≤ 24) && (nme.toList.take i).all okc) = pv
      have HPV := hide hpv
      clear hpv
      cases pv with
      | false =>
        go_wp2_with fail
        go_roundg (nme.size - (i + 1))
        case measure => omega
        case rel => exact ⟨i + 1, rfl, by omega, by go_num, by rw [unhide HT, ← Bool.and_assoc, unhide HPV]; rfl, rfl⟩
      | true =>
        by_cases c65 : (65 : Int) ≤ (nme[i].toNat : Int)
        · by_cases c90 : (nme[i].toNat : Int) ≤ 90
          · have HC : Hid (okc nme[i] = true) := by show okc nme[i] = true; simp [okc]; omega
            go_wp2_with fail
            go_roundg (nme.size - (i + 1))
            case measure => omega
            case rel => exact ⟨i + 1, rfl, by omega, by go_num, by rw [unhide HT, ← Bool.and_assoc, unhide HPV, unhide HC]; rfl, rfl⟩
          · by_cases c95 : nme[i] = 95
            · have b95 : ((nme[i].toNat : Int) == 95) = true := beqT c95
              have HC : Hid (okc nme[i] = true) := by show okc nme[i] = true; rw [c95]; rfl
              clear c95
              go_wp2_with fail
              go_roundg (nme.size - (i + 1))
              case measure => omega
              case rel => exact ⟨i + 1, rfl, by omega, by go_num, by rw [unhide HT, ← Bool.and_assoc, unhide HPV, unhide HC]; rfl, rfl⟩
            · have b95 : ((nme[i].toNat : Int) == 95) = false := beqF c95
              have HC : Hid (okc nme[i] = false) := by
                show okc nme[i] = false
                have : ¬ nme[i].toNat = 95 := fun e => c95 (UInt8.toNat_inj.1 e)
                simp [okc]; omega
              clear c95
              go_wp2_with fail
              go_roundg (nme.size - (i + 1))
              case measure => omega
              case rel => exact ⟨i + 1, rfl, by omega, by go_num, by rw [unhide HT, ← Bool.and_assoc, unhide HPV, unhide HC]; rfl, rfl⟩
        · have HC : Hid (okc nme[i] = false) := by show okc nme[i] = false; simp [okc]; omega
          have b95 : ((nme[i].toNat : Int) == 95) = false := beq_eq_false_iff_ne.2 (by omega)
          go_wp2_with fail
          go_roundg (nme.size - (i + 1))
          case measure => omega
          case rel => exact ⟨i + 1, rfl, by omega, by go_num, by rw [unhide HT, ← Bool.and_assoc, unhide HPV, unhide HC]; rfl, rfl⟩
    · have hltz : ¬ (i : Int) < nme.size := by omega
      have HTA : Hid (nme.toList.take i = nme.toList) := List.take_of_length_le (by rw [toL_len]; omega)
      generalize hpv : (decide (1 ≤ nme.size) && decide (nme.size ≤ 24) && (nme.toList.take i).all okc) = pv
      have HPV := hide hpv
      clear hpv
      cases pv with
      | false =>
        go_wp2_with fail
        go_ret
        exact ⟨rfl, unhide HBW⟩
      | true =>
        have HNM : Hid (isNm nme.toList = true) := by
          have h := unhide HPV
          rw [unhide HTA] at h
          simp only [Bool.and_eq_true, decide_eq_true_eq] at h
          exact plain_nm nme.toList (by rw [toL_len]; exact h.1.1) (by rw [toL_len]; exact h.1.2) h.2
        have hn24 : nme.size ≤ 24 := by
          have h := unhide HPV
          simp only [Bool.and_eq_true, decide_eq_true_eq] at h
          exact h.1.2
        have V1 := hide (valid_any (mkP nme) w5 (unhide HVW) (mkP_size nme (by omega)))
        rw [mkP_toL, plain_vd _ (unhide HNM)] at V1
        go_wp2_with fail
        refine (unhide V1).mono ?_
        rintro e wa ⟨rfl, hba⟩
        have HVa := hide ((unhide HVW).in hba)
        have HBa := hide (bt (unhide HBW) hba)
        clear hba
        have V2 := hide (nilable_any (mkP nme) wa (unhide HVa) (mkP_size nme (by omega)))
        rw [mkP_toL, plain_nil _ (unhide HNM)] at V2
        go_wp2_with fail
        refine (unhide V2).mono ?_
        rintro e wb ⟨rfl, hbb⟩
        have HVb := hide ((unhide HVa).in hbb)
        have HBb := hide (bt (unhide HBa) hbb)
        clear hbb
        have V3 := hide (equals_any (mkP nme) (mkP nme) wb (unhide HVb) (mkP_size nme (by omega)) (mkP_size nme (by omega)))
        rw [mkP_toL, plain_eq _ (unhide HNM)] at V3
        go_wp2_with fail
        refine (unhide V3).mono ?_
        rintro e wc ⟨rfl, hbc⟩
        have HBc := hide (bt (unhide HBb) hbc)
        clear hbc
        go_wp2_with fail
        go_ret
        exact ⟨rfl, unhide HBc⟩
set_option maxRecDepth 100000 in
set_option maxHeartbeats 800000 in
theorem makes_va (t u nme : ByteArray) (w : World) (hv : Vars w) (htz : t.size ≤ 2000) (huz : u.size ≤ 2000) (hszz : ¬ (2000 : Int) < (t.size : Int) + u.size) (hn : nme.size ≤ 140737488355328) (hvt : vd t.toList = true) (hvu : vd u.toList = false) (g1 : nme.size < 1) : Calls Tryd.prog 6 #[.string t, .string u, .string nme] w fun e w' => e = .returned (.bool true) ∧ Below w.heap.size w w' := by
  have HA := hide (anchor_any w hv)
  have HV := hide hv
  clear hv
  go_enter Tryd.func6, Tryd.ntmps6
  go_wp2_with fail
  refine (unhide HA).mono ?_
  rintro e w1 ⟨rfl, hb1⟩
  have HV1 := hide ((unhide HV).in hb1)
  have HB1 := hide hb1
  clear hb1
  have E1 := hide (elem_any (mkL t) w1 (unhide HV1) (mkL_size t htz))
  unfold ElemPost at E1
  rw [mkL_toL, mk_elL, hvt] at E1
  go_wp2_with fail
  refine (unhide E1).mono ?_
  rintro e w2 ⟨hb2, r1, rfl, hr1⟩
  have HV2 := hide ((unhide HV1).in hb2)
  have HB2 := hide (bt (unhide HB1) hb2)
  have q1 : r1.toList = t.toList := hr1
  clear hb2 hr1
  have E2 := hide (elem_any (mkC t) w2 (unhide HV2) (mkC_size t htz))
  unfold ElemPost at E2
  rw [mkC_toL, mk_elC, hvt] at E2
  go_wp2_with fail
  refine (unhide E2).mono ?_
  rintro e w3 ⟨hb3, r2, rfl, hr2⟩
  have HV3 := hide ((unhide HV2).in hb3)
  have HB3 := hide (bt (unhide HB2) hb3)
  have q2 : r2.toList = t.toList := hr2
  clear hb3 hr2
  have E3 := hide (func_any (mkF t u) w3 (unhide HV3) (mkF_size t u htz huz))
  unfold FuncPost at E3
  go_wp2_with fail
  refine (unhide E3).mono ?_
  rintro e w4 ⟨hb4, v, r3, rfl, hr3, hown⟩
  have HV4 := hide ((unhide HV3).in hb4)
  have HB4 := hide (bt (unhide HB3) hb4)
  obtain ⟨ao, cap, hvv⟩ := own_form hown
  subst hvv
  clear hb4 hr3 hown
  have E4 := hide (valid_any t w4 (unhide HV4) (by omega))
  rw [hvt] at E4
  go_wp2_with fail
  refine (unhide E4).mono ?_
  rintro e w5 ⟨rfl, hb5⟩
  have HV5 := hide ((unhide HV4).in hb5)
  have HB5 := hide (bt (unhide HB4) hb5)
  clear hb5
  have E5 := hide (valid_any u w5 (unhide HV5) (by omega))
  rw [hvu] at E5
  go_wp2_with fail
  refine (unhide E5).mono ?_
  rintro e w6 ⟨rfl, hb6⟩
  have HVW := hide ((unhide HV5).in hb6)
  have HBW := hide (bt (unhide HB5) hb6)
  clear hb6
  have g1z : ¬ (1 : Int) ≤ nme.size := by omega
  go_wp2_with fail
  go_loopg [14, 15, 16, 112] nme.size (fun g v14 _ _ v112 wx => ∃ (i : Nat), g = nme.size - i ∧ i ≤ nme.size ∧ v112 = .int .i64 i ∧ v14 = .bool (decide (1 ≤ nme.size) && decide (nme.size ≤ 24) && (nme.toList.take i).all okc) ∧ wx = w6)
  case atStart => exact ⟨0, by omega, by omega, rfl, by rw [decide_eq_false (show ¬ 1 ≤ nme.size by omega)]; rfl, rfl⟩
  case round =>
    obtain ⟨i, rfl, hi, rfl, rfl, hwx⟩ := hrel
    have hw2 := hwx.symm
    clear hwx
    subst hw2
    by_cases hlt : i < nme.size
    · have hltz : (i : Int) < nme.size := by omega
      have HT := hide (take_okc nme i hlt)
      generalize hpv : (decide (1 ≤ nme.size) && decide (nme.size ≤ 24) && (nme.toList.take i).all okc) = pv
      have HPV := hide hpv
      clear hpv
      cases pv with
      | false =>
        go_wp2_with fail
        go_roundg (nme.size - (i + 1))
        case measure => omega
        case rel => exact ⟨i + 1, rfl, by omega, by go_num, by rw [unhide HT, ← Bool.and_assoc, unhide HPV]; rfl, rfl⟩
      | true =>
        by_cases c65 : (65 : Int) ≤ (nme[i].toNat : Int)
        · by_cases c90 : (nme[i].toNat : Int) ≤ 90
          · have HC : Hid (okc nme[i] = true) := by show okc nme[i] = true; simp [okc]; omega
            go_wp2_with fail
            go_roundg (nme.size - (i + 1))
            case measure => omega
            case rel => exact ⟨i + 1, rfl, by omega, by go_num, by rw [unhide HT, ← Bool.and_assoc, unhide HPV, unhide HC]; rfl, rfl⟩
          · by_cases c95 : nme[i] = 95
            · have b95 : ((nme[i].toNat : Int) == 95) = true := beqT c95
              have HC : Hid (okc nme[i] = true) := by show okc nme[i] = true; rw [c95]; rfl
              clear c95
              go_wp2_with fail
              go_roundg (nme.size - (i + 1))
              case measure => omega
              case rel => exact ⟨i + 1, rfl, by omega, by go_num, by rw [unhide HT, ← Bool.and_assoc, unhide HPV, unhide HC]; rfl, rfl⟩
            · have b95 : ((nme[i].toNat : Int) == 95) = false := beqF c95
              have HC : Hid (okc nme[i] = false) := by
                show okc nme[i] = false
                have : ¬ nme[i].toNat = 95 := fun e => c95 (UInt8.toNat_inj.1 e)
                simp [okc]; omega
              clear c95
              go_wp2_with fail
              go_roundg (nme.size - (i + 1))
              case measure => omega
              case rel => exact ⟨i + 1, rfl, by omega, by go_num, by rw [unhide HT, ← Bool.and_assoc, unhide HPV, unhide HC]; rfl, rfl⟩
        · have HC : Hid (okc nme[i] = false) := by show okc nme[i] = false; simp [okc]; omega
          have b95 : ((nme[i].toNat : Int) == 95) = false := beq_eq_false_iff_ne.2 (by omega)
          go_wp2_with fail
          go_roundg (nme.size - (i + 1))
          case measure => omega
          case rel => exact ⟨i + 1, rfl, by omega, by go_num, by rw [unhide HT, ← Bool.and_assoc, unhide HPV, unhide HC]; rfl, rfl⟩
    · have hltz : ¬ (i : Int) < nme.size := by omega
      have HTA : Hid (nme.toList.take i = nme.toList) := List.take_of_length_le (by rw [toL_len]; omega)
      generalize hpv : (decide (1 ≤ nme.size) && decide (nme.size ≤ 24) && (nme.toList.take i).all okc) = pv
      have HPV := hide hpv
      clear hpv
      cases pv with
      | false =>
        go_wp2_with fail
        go_ret
        exact ⟨rfl, unhide HBW⟩
      | true =>
        have HNM : Hid (isNm nme.toList = true) := by
          have h := unhide HPV
          rw [unhide HTA] at h
          simp only [Bool.and_eq_true, decide_eq_true_eq] at h
          exact plain_nm nme.toList (by rw [toL_len]; exact h.1.1) (by rw [toL_len]; exact h.1.2) h.2
        have hn24 : nme.size ≤ 24 := by
          have h := unhide HPV
          simp only [Bool.and_eq_true, decide_eq_true_eq] at h
          exact h.1.2
        have V1 := hide (valid_any (mkP nme) w6 (unhide HVW) (mkP_size nme (by omega)))
        rw [mkP_toL, plain_vd _ (unhide HNM)] at V1
        go_wp2_with fail
        refine (unhide V1).mono ?_
        rintro e wa ⟨rfl, hba⟩
        have HVa := hide ((unhide HVW).in hba)
        have HBa := hide (bt (unhide HBW) hba)
        clear hba
        have V2 := hide (nilable_any (mkP nme) wa (unhide HVa) (mkP_size nme (by omega)))
        rw [mkP_toL, plain_nil _ (unhide HNM)] at V2
        go_wp2_with fail
        refine (unhide V2).mono ?_
        rintro e wb ⟨rfl, hbb⟩
        have HVb := hide ((unhide HVa).in hbb)
        have HBb := hide (bt (unhide HBa) hbb)
        clear hbb
        have V3 := hide (equals_any (mkP nme) (mkP nme) wb (unhide HVb) (mkP_size nme (by omega)) (mkP_size nme (by omega)))
        rw [mkP_toL, plain_eq _ (unhide HNM)] at V3
        go_wp2_with fail
        refine (unhide V3).mono ?_
        rintro e wc ⟨rfl, hbc⟩
        have HBc := hide (bt (unhide HBb) hbc)
        clear hbc
        go_wp2_with fail
        go_ret
        exact ⟨rfl, unhide HBc⟩
set_option maxRecDepth 100000 in
set_option maxHeartbeats 800000 in
theorem makes_wa (t u nme : ByteArray) (w : World) (hv : Vars w) (htz : t.size ≤ 2000) (huz : u.size ≤ 2000) (hszz : ¬ (2000 : Int) < (t.size : Int) + u.size) (hn : nme.size ≤ 140737488355328) (hvt : vd t.toList = true) (hvu : vd u.toList = true) (g1 : nme.size < 1) : Calls Tryd.prog 6 #[.string t, .string u, .string nme] w fun e w' => e = .returned (.bool true) ∧ Below w.heap.size w w' := by
  have HA := hide (anchor_any w hv)
  have HV := hide hv
  clear hv
  go_enter Tryd.func6, Tryd.ntmps6
  go_wp2_with fail
  refine (unhide HA).mono ?_
  rintro e w1 ⟨rfl, hb1⟩
  have HV1 := hide ((unhide HV).in hb1)
  have HB1 := hide hb1
  clear hb1
  have E1 := hide (elem_any (mkL t) w1 (unhide HV1) (mkL_size t htz))
  unfold ElemPost at E1
  rw [mkL_toL, mk_elL, hvt] at E1
  go_wp2_with fail
  refine (unhide E1).mono ?_
  rintro e w2 ⟨hb2, r1, rfl, hr1⟩
  have HV2 := hide ((unhide HV1).in hb2)
  have HB2 := hide (bt (unhide HB1) hb2)
  have q1 : r1.toList = t.toList := hr1
  clear hb2 hr1
  have E2 := hide (elem_any (mkC t) w2 (unhide HV2) (mkC_size t htz))
  unfold ElemPost at E2
  rw [mkC_toL, mk_elC, hvt] at E2
  go_wp2_with fail
  refine (unhide E2).mono ?_
  rintro e w3 ⟨hb3, r2, rfl, hr2⟩
  have HV3 := hide ((unhide HV2).in hb3)
  have HB3 := hide (bt (unhide HB2) hb3)
  have q2 : r2.toList = t.toList := hr2
  clear hb3 hr2
  have E3 := hide (func_any (mkF t u) w3 (unhide HV3) (mkF_size t u htz huz))
  unfold FuncPost at E3
  rw [mkF_toL, mk_fn _ _ hvt hvu] at E3
  go_wp2_with fail
  refine (unhide E3).mono ?_
  rintro e w4 ⟨hb4, v, r3, rfl, hr3, hown⟩
  have HV4 := hide ((unhide HV3).in hb4)
  have HB4 := hide (bt (unhide HB3) hb4)
  have q3 : r3.toList = t.toList := hr3
  obtain ⟨g, cap, hvv, hg1, hg2, hc⟩ := own_strs hown (by simp)
  subst hvv
  have k0 : w4.cell? ⟨g, 0, none⟩ = some (.string t) := by rw [hc 0 t.toList rfl, ba_of]
  have k1 : w4.cell? ⟨g, 1, none⟩ = some (.string u) := by rw [hc 1 u.toList rfl, ba_of]
  clear hc
  clear hb4 hr3 hown
  have E4 := hide (valid_any t w4 (unhide HV4) (by omega))
  rw [hvt] at E4
  go_wp2_with fail
  refine (unhide E4).mono ?_
  rintro e w5 ⟨rfl, hb5⟩
  have HV5 := hide ((unhide HV4).in hb5)
  have HB5 := hide (bt (unhide HB4) hb5)
  have HZ45 := hide hb5.size
  have d0 := (hb5.cell (p := ⟨g, 0, none⟩) hg2).trans k0
  have d1 := (hb5.cell (p := ⟨g, 1, none⟩) hg2).trans k1
  clear hb5
  have E5 := hide (valid_any u w5 (unhide HV5) (by omega))
  rw [hvu] at E5
  go_wp2_with fail
  refine (unhide E5).mono ?_
  rintro e w6 ⟨rfl, hb6⟩
  have HVW := hide ((unhide HV5).in hb6)
  have HBW := hide (bt (unhide HB5) hb6)
  have f0 := (hb6.cell (p := ⟨g, 0, none⟩) (Nat.lt_of_lt_of_le hg2 (unhide HZ45))).trans d0
  have f1 := (hb6.cell (p := ⟨g, 1, none⟩) (Nat.lt_of_lt_of_le hg2 (unhide HZ45))).trans d1
  clear hb6
  have g1z : ¬ (1 : Int) ≤ nme.size := by omega
  go_wp2_with fail
  go_loopg [14, 15, 16, 112] nme.size (fun g v14 _ _ v112 wx => ∃ (i : Nat), g = nme.size - i ∧ i ≤ nme.size ∧ v112 = .int .i64 i ∧ v14 = .bool (decide (1 ≤ nme.size) && decide (nme.size ≤ 24) && (nme.toList.take i).all okc) ∧ wx = w6)
  case atStart => exact ⟨0, by omega, by omega, rfl, by rw [decide_eq_false (show ¬ 1 ≤ nme.size by omega)]; rfl, rfl⟩
  case round =>
    obtain ⟨i, rfl, hi, rfl, rfl, hwx⟩ := hrel
    have hw2 := hwx.symm
    clear hwx
    subst hw2
    by_cases hlt : i < nme.size
    · have hltz : (i : Int) < nme.size := by omega
      have HT := hide (take_okc nme i hlt)
      generalize hpv : (decide (1 ≤ nme.size) && decide (nme.size ≤ 24) && (nme.toList.take i).all okc) = pv
      have HPV := hide hpv
      clear hpv
      cases pv with
      | false =>
        go_wp2_with fail
        go_roundg (nme.size - (i + 1))
        case measure => omega
        case rel => exact ⟨i + 1, rfl, by omega, by go_num, by rw [unhide HT, ← Bool.and_assoc, unhide HPV]; rfl, rfl⟩
      | true =>
        by_cases c65 : (65 : Int) ≤ (nme[i].toNat : Int)
        · by_cases c90 : (nme[i].toNat : Int) ≤ 90
          · have HC : Hid (okc nme[i] = true) := by show okc nme[i] = true; simp [okc]; omega
            go_wp2_with fail
            go_roundg (nme.size - (i + 1))
            case measure => omega
            case rel => exact ⟨i + 1, rfl, by omega, by go_num, by rw [unhide HT, ← Bool.and_assoc, unhide HPV, unhide HC]; rfl, rfl⟩
          · by_cases c95 : nme[i] = 95
            · have b95 : ((nme[i].toNat : Int) == 95) = true := beqT c95
              have HC : Hid (okc nme[i] = true) := by show okc nme[i] = true; rw [c95]; rfl
              clear c95
              go_wp2_with fail
              go_roundg (nme.size - (i + 1))
              case measure => omega
              case rel => exact ⟨i + 1, rfl, by omega, by go_num, by rw [unhide HT, ← Bool.and_assoc, unhide HPV, unhide HC]; rfl, rfl⟩
            · have b95 : ((nme[i].toNat : Int) == 95) = false := beqF c95
              have HC : Hid (okc nme[i] = false) := by
                show okc nme[i] = false
                have : ¬ nme[i].toNat = 95 := fun e => c95 (UInt8.toNat_inj.1 e)
                simp [okc]; omega
              clear c95
              go_wp2_with fail
              go_roundg (nme.size - (i + 1))
              case measure => omega
              case rel => exact ⟨i + 1, rfl, by omega, by go_num, by rw [unhide HT, ← Bool.and_assoc, unhide HPV, unhide HC]; rfl, rfl⟩
        · have HC : Hid (okc nme[i] = false) := by show okc nme[i] = false; simp [okc]; omega
          have b95 : ((nme[i].toNat : Int) == 95) = false := beq_eq_false_iff_ne.2 (by omega)
          go_wp2_with fail
          go_roundg (nme.size - (i + 1))
          case measure => omega
          case rel => exact ⟨i + 1, rfl, by omega, by go_num, by rw [unhide HT, ← Bool.and_assoc, unhide HPV, unhide HC]; rfl, rfl⟩
    · have hltz : ¬ (i : Int) < nme.size := by omega
      have HTA : Hid (nme.toList.take i = nme.toList) := List.take_of_length_le (by rw [toL_len]; omega)
      generalize hpv : (decide (1 ≤ nme.size) && decide (nme.size ≤ 24) && (nme.toList.take i).all okc) = pv
      have HPV := hide hpv
      clear hpv
      cases pv with
      | false =>
        go_wp2_with fail
        go_ret
        exact ⟨rfl, unhide HBW⟩
      | true =>
        have HNM : Hid (isNm nme.toList = true) := by
          have h := unhide HPV
          rw [unhide HTA] at h
          simp only [Bool.and_eq_true, decide_eq_true_eq] at h
          exact plain_nm nme.toList (by rw [toL_len]; exact h.1.1) (by rw [toL_len]; exact h.1.2) h.2
        have hn24 : nme.size ≤ 24 := by
          have h := unhide HPV
          simp only [Bool.and_eq_true, decide_eq_true_eq] at h
          exact h.1.2
        have V1 := hide (valid_any (mkP nme) w6 (unhide HVW) (mkP_size nme (by omega)))
        rw [mkP_toL, plain_vd _ (unhide HNM)] at V1
        go_wp2_with fail
        refine (unhide V1).mono ?_
        rintro e wa ⟨rfl, hba⟩
        have HVa := hide ((unhide HVW).in hba)
        have HBa := hide (bt (unhide HBW) hba)
        clear hba
        have V2 := hide (nilable_any (mkP nme) wa (unhide HVa) (mkP_size nme (by omega)))
        rw [mkP_toL, plain_nil _ (unhide HNM)] at V2
        go_wp2_with fail
        refine (unhide V2).mono ?_
        rintro e wb ⟨rfl, hbb⟩
        have HVb := hide ((unhide HVa).in hbb)
        have HBb := hide (bt (unhide HBa) hbb)
        clear hbb
        have V3 := hide (equals_any (mkP nme) (mkP nme) wb (unhide HVb) (mkP_size nme (by omega)) (mkP_size nme (by omega)))
        rw [mkP_toL, plain_eq _ (unhide HNM)] at V3
        go_wp2_with fail
        refine (unhide V3).mono ?_
        rintro e wc ⟨rfl, hbc⟩
        have HBc := hide (bt (unhide HBb) hbc)
        clear hbc
        go_wp2_with fail
        go_ret
        exact ⟨rfl, unhide HBc⟩
set_option maxRecDepth 100000 in
set_option maxHeartbeats 800000 in
theorem makes_nb (t u nme : ByteArray) (w : World) (hv : Vars w) (htz : t.size ≤ 2000) (huz : u.size ≤ 2000) (hszz : ¬ (2000 : Int) < (t.size : Int) + u.size) (hn : nme.size ≤ 140737488355328) (hvt : vd t.toList = false) (g1 : 1 ≤ nme.size) (g2 : nme.size ≤ 24) : Calls Tryd.prog 6 #[.string t, .string u, .string nme] w fun e w' => e = .returned (.bool true) ∧ Below w.heap.size w w' := by
  have HA := hide (anchor_any w hv)
  have HV := hide hv
  clear hv
  go_enter Tryd.func6, Tryd.ntmps6
  go_wp2_with fail
  refine (unhide HA).mono ?_
  rintro e w1 ⟨rfl, hb1⟩
  have HV1 := hide ((unhide HV).in hb1)
  have HB1 := hide hb1
  clear hb1
  have E1 := hide (elem_any (mkL t) w1 (unhide HV1) (mkL_size t htz))
  unfold ElemPost at E1
  rw [mkL_toL, mk_elL, hvt] at E1
  go_wp2_with fail
  refine (unhide E1).mono ?_
  rintro e w2 ⟨hb2, r1, rfl, hr1⟩
  have HV2 := hide ((unhide HV1).in hb2)
  have HB2 := hide (bt (unhide HB1) hb2)
  clear hb2 hr1
  have E2 := hide (elem_any (mkC t) w2 (unhide HV2) (mkC_size t htz))
  unfold ElemPost at E2
  rw [mkC_toL, mk_elC, hvt] at E2
  go_wp2_with fail
  refine (unhide E2).mono ?_
  rintro e w3 ⟨hb3, r2, rfl, hr2⟩
  have HV3 := hide ((unhide HV2).in hb3)
  have HB3 := hide (bt (unhide HB2) hb3)
  clear hb3 hr2
  have E3 := hide (func_any (mkF t u) w3 (unhide HV3) (mkF_size t u htz huz))
  unfold FuncPost at E3
  go_wp2_with fail
  refine (unhide E3).mono ?_
  rintro e w4 ⟨hb4, v, r3, rfl, hr3, hown⟩
  have HV4 := hide ((unhide HV3).in hb4)
  have HB4 := hide (bt (unhide HB3) hb4)
  obtain ⟨ao, cap, hvv⟩ := own_form hown
  subst hvv
  clear hb4 hr3 hown
  have E4 := hide (valid_any t w4 (unhide HV4) (by omega))
  rw [hvt] at E4
  go_wp2_with fail
  refine (unhide E4).mono ?_
  rintro e w5 ⟨rfl, hb5⟩
  have HV5 := hide ((unhide HV4).in hb5)
  have HB5 := hide (bt (unhide HB4) hb5)
  clear hb5
  have HBW := HB5
  have HVW := HV5
  have g1z : (1 : Int) ≤ nme.size := by omega
  have g2z : (nme.size : Int) ≤ 24 := by omega
  go_wp2_with fail
  go_loopg [14, 15, 16, 112] nme.size (fun g v14 _ _ v112 wx => ∃ (i : Nat), g = nme.size - i ∧ i ≤ nme.size ∧ v112 = .int .i64 i ∧ v14 = .bool (decide (1 ≤ nme.size) && decide (nme.size ≤ 24) && (nme.toList.take i).all okc) ∧ wx = w5)
  case atStart => exact ⟨0, by omega, by omega, rfl, by rw [decide_eq_true g1, decide_eq_true g2]; rfl, rfl⟩
  case round =>
    obtain ⟨i, rfl, hi, rfl, rfl, hwx⟩ := hrel
    have hw2 := hwx.symm
    clear hwx
    subst hw2
    by_cases hlt : i < nme.size
    · have hltz : (i : Int) < nme.size := by omega
      have HT := hide (take_okc nme i hlt)
      generalize hpv : (decide (1 ≤ nme.size) && decide (nme.size ≤ 24) && (nme.toList.take i).all okc) = pv
      have HPV := hide hpv
      clear hpv
      cases pv with
      | false =>
        go_wp2_with fail
        go_roundg (nme.size - (i + 1))
        case measure => omega
        case rel => exact ⟨i + 1, rfl, by omega, by go_num, by rw [unhide HT, ← Bool.and_assoc, unhide HPV]; rfl, rfl⟩
      | true =>
        by_cases c65 : (65 : Int) ≤ (nme[i].toNat : Int)
        · by_cases c90 : (nme[i].toNat : Int) ≤ 90
          · have HC : Hid (okc nme[i] = true) := by show okc nme[i] = true; simp [okc]; omega
            go_wp2_with fail
            go_roundg (nme.size - (i + 1))
            case measure => omega
            case rel => exact ⟨i + 1, rfl, by omega, by go_num, by rw [unhide HT, ← Bool.and_assoc, unhide HPV, unhide HC]; rfl, rfl⟩
          · by_cases c95 : nme[i] = 95
            · have b95 : ((nme[i].toNat : Int) == 95) = true := beqT c95
              have HC : Hid (okc nme[i] = true) := by show okc nme[i] = true; rw [c95]; rfl
              clear c95
              go_wp2_with fail
              go_roundg (nme.size - (i + 1))
              case measure => omega
              case rel => exact ⟨i + 1, rfl, by omega, by go_num, by rw [unhide HT, ← Bool.and_assoc, unhide HPV, unhide HC]; rfl, rfl⟩
            · have b95 : ((nme[i].toNat : Int) == 95) = false := beqF c95
              have HC : Hid (okc nme[i] = false) := by
                show okc nme[i] = false
                have : ¬ nme[i].toNat = 95 := fun e => c95 (UInt8.toNat_inj.1 e)
                simp [okc]; omega
              clear c95
              go_wp2_with fail
              go_roundg (nme.size - (i + 1))
              case measure => omega
              case rel => exact ⟨i + 1, rfl, by omega, by go_num, by rw [unhide HT, ← Bool.and_assoc, unhide HPV, unhide HC]; rfl, rfl⟩
        · have HC : Hid (okc nme[i] = false) := by show okc nme[i] = false; simp [okc]; omega
          have b95 : ((nme[i].toNat : Int) == 95) = false := beq_eq_false_iff_ne.2 (by omega)
          go_wp2_with fail
          go_roundg (nme.size - (i + 1))
          case measure => omega
          case rel => exact ⟨i + 1, rfl, by omega, by go_num, by rw [unhide HT, ← Bool.and_assoc, unhide HPV, unhide HC]; rfl, rfl⟩
    · have hltz : ¬ (i : Int) < nme.size := by omega
      have HTA : Hid (nme.toList.take i = nme.toList) := List.take_of_length_le (by rw [toL_len]; omega)
      generalize hpv : (decide (1 ≤ nme.size) && decide (nme.size ≤ 24) && (nme.toList.take i).all okc) = pv
      have HPV := hide hpv
      clear hpv
      cases pv with
      | false =>
        go_wp2_with fail
        go_ret
        exact ⟨rfl, unhide HBW⟩
      | true =>
        have HNM : Hid (isNm nme.toList = true) := by
          have h := unhide HPV
          rw [unhide HTA] at h
          simp only [Bool.and_eq_true, decide_eq_true_eq] at h
          exact plain_nm nme.toList (by rw [toL_len]; exact h.1.1) (by rw [toL_len]; exact h.1.2) h.2
        have hn24 : nme.size ≤ 24 := by
          have h := unhide HPV
          simp only [Bool.and_eq_true, decide_eq_true_eq] at h
          exact h.1.2
        have V1 := hide (valid_any (mkP nme) w5 (unhide HVW) (mkP_size nme (by omega)))
        rw [mkP_toL, plain_vd _ (unhide HNM)] at V1
        go_wp2_with fail
        refine (unhide V1).mono ?_
        rintro e wa ⟨rfl, hba⟩
        have HVa := hide ((unhide HVW).in hba)
        have HBa := hide (bt (unhide HBW) hba)
        clear hba
        have V2 := hide (nilable_any (mkP nme) wa (unhide HVa) (mkP_size nme (by omega)))
        rw [mkP_toL, plain_nil _ (unhide HNM)] at V2
        go_wp2_with fail
        refine (unhide V2).mono ?_
        rintro e wb ⟨rfl, hbb⟩
        have HVb := hide ((unhide HVa).in hbb)
        have HBb := hide (bt (unhide HBa) hbb)
        clear hbb
        have V3 := hide (equals_any (mkP nme) (mkP nme) wb (unhide HVb) (mkP_size nme (by omega)) (mkP_size nme (by omega)))
        rw [mkP_toL, plain_eq _ (unhide HNM)] at V3
        go_wp2_with fail
        refine (unhide V3).mono ?_
        rintro e wc ⟨rfl, hbc⟩
        have HBc := hide (bt (unhide HBb) hbc)
        clear hbc
        go_wp2_with fail
        go_ret
        exact ⟨rfl, unhide HBc⟩
set_option maxRecDepth 100000 in
set_option maxHeartbeats 800000 in
theorem makes_vb (t u nme : ByteArray) (w : World) (hv : Vars w) (htz : t.size ≤ 2000) (huz : u.size ≤ 2000) (hszz : ¬ (2000 : Int) < (t.size : Int) + u.size) (hn : nme.size ≤ 140737488355328) (hvt : vd t.toList = true) (hvu : vd u.toList = false) (g1 : 1 ≤ nme.size) (g2 : nme.size ≤ 24) : Calls Tryd.prog 6 #[.string t, .string u, .string nme] w fun e w' => e = .returned (.bool true) ∧ Below w.heap.size w w' := by
  have HA := hide (anchor_any w hv)
  have HV := hide hv
  clear hv
  go_enter Tryd.func6, Tryd.ntmps6
  go_wp2_with fail
  refine (unhide HA).mono ?_
  rintro e w1 ⟨rfl, hb1⟩
  have HV1 := hide ((unhide HV).in hb1)
  have HB1 := hide hb1
  clear hb1
  have E1 := hide (elem_any (mkL t) w1 (unhide HV1) (mkL_size t htz))
  unfold ElemPost at E1
  rw [mkL_toL, mk_elL, hvt] at E1
  go_wp2_with fail
  refine (unhide E1).mono ?_
  rintro e w2 ⟨hb2, r1, rfl, hr1⟩
  have HV2 := hide ((unhide HV1).in hb2)
  have HB2 := hide (bt (unhide HB1) hb2)
  have q1 : r1.toList = t.toList := hr1
  clear hb2 hr1
  have E2 := hide (elem_any (mkC t) w2 (unhide HV2) (mkC_size t htz))
  unfold ElemPost at E2
  rw [mkC_toL, mk_elC, hvt] at E2
  go_wp2_with fail
  refine (unhide E2).mono ?_
  rintro e w3 ⟨hb3, r2, rfl, hr2⟩
  have HV3 := hide ((unhide HV2).in hb3)
  have HB3 := hide (bt (unhide HB2) hb3)
  have q2 : r2.toList = t.toList := hr2
  clear hb3 hr2
  have E3 := hide (func_any (mkF t u) w3 (unhide HV3) (mkF_size t u htz huz))
  unfold FuncPost at E3
  go_wp2_with fail
  refine (unhide E3).mono ?_
  rintro e w4 ⟨hb4, v, r3, rfl, hr3, hown⟩
  have HV4 := hide ((unhide HV3).in hb4)
  have HB4 := hide (bt (unhide HB3) hb4)
  obtain ⟨ao, cap, hvv⟩ := own_form hown
  subst hvv
  clear hb4 hr3 hown
  have E4 := hide (valid_any t w4 (unhide HV4) (by omega))
  rw [hvt] at E4
  go_wp2_with fail
  refine (unhide E4).mono ?_
  rintro e w5 ⟨rfl, hb5⟩
  have HV5 := hide ((unhide HV4).in hb5)
  have HB5 := hide (bt (unhide HB4) hb5)
  clear hb5
  have E5 := hide (valid_any u w5 (unhide HV5) (by omega))
  rw [hvu] at E5
  go_wp2_with fail
  refine (unhide E5).mono ?_
  rintro e w6 ⟨rfl, hb6⟩
  have HVW := hide ((unhide HV5).in hb6)
  have HBW := hide (bt (unhide HB5) hb6)
  clear hb6
  have g1z : (1 : Int) ≤ nme.size := by omega
  have g2z : (nme.size : Int) ≤ 24 := by omega
  go_wp2_with fail
  go_loopg [14, 15, 16, 112] nme.size (fun g v14 _ _ v112 wx => ∃ (i : Nat), g = nme.size - i ∧ i ≤ nme.size ∧ v112 = .int .i64 i ∧ v14 = .bool (decide (1 ≤ nme.size) && decide (nme.size ≤ 24) && (nme.toList.take i).all okc) ∧ wx = w6)
  case atStart => exact ⟨0, by omega, by omega, rfl, by rw [decide_eq_true g1, decide_eq_true g2]; rfl, rfl⟩
  case round =>
    obtain ⟨i, rfl, hi, rfl, rfl, hwx⟩ := hrel
    have hw2 := hwx.symm
    clear hwx
    subst hw2
    by_cases hlt : i < nme.size
    · have hltz : (i : Int) < nme.size := by omega
      have HT := hide (take_okc nme i hlt)
      generalize hpv : (decide (1 ≤ nme.size) && decide (nme.size ≤ 24) && (nme.toList.take i).all okc) = pv
      have HPV := hide hpv
      clear hpv
      cases pv with
      | false =>
        go_wp2_with fail
        go_roundg (nme.size - (i + 1))
        case measure => omega
        case rel => exact ⟨i + 1, rfl, by omega, by go_num, by rw [unhide HT, ← Bool.and_assoc, unhide HPV]; rfl, rfl⟩
      | true =>
        by_cases c65 : (65 : Int) ≤ (nme[i].toNat : Int)
        · by_cases c90 : (nme[i].toNat : Int) ≤ 90
          · have HC : Hid (okc nme[i] = true) := by show okc nme[i] = true; simp [okc]; omega
            go_wp2_with fail
            go_roundg (nme.size - (i + 1))
            case measure => omega
            case rel => exact ⟨i + 1, rfl, by omega, by go_num, by rw [unhide HT, ← Bool.and_assoc, unhide HPV, unhide HC]; rfl, rfl⟩
          · by_cases c95 : nme[i] = 95
            · have b95 : ((nme[i].toNat : Int) == 95) = true := beqT c95
              have HC : Hid (okc nme[i] = true) := by show okc nme[i] = true; rw [c95]; rfl
              clear c95
              go_wp2_with fail
              go_roundg (nme.size - (i + 1))
              case measure => omega
              case rel => exact ⟨i + 1, rfl, by omega, by go_num, by rw [unhide HT, ← Bool.and_assoc, unhide HPV, unhide HC]; rfl, rfl⟩
            · have b95 : ((nme[i].toNat : Int) == 95) = false := beqF c95
              have HC : Hid (okc nme[i] = false) := by
                show okc nme[i] = false
                have : ¬ nme[i].toNat = 95 := fun e => c95 (UInt8.toNat_inj.1 e)
                simp [okc]; omega
              clear c95
              go_wp2_with fail
              go_roundg (nme.size - (i + 1))
              case measure => omega
              case rel => exact ⟨i + 1, rfl, by omega, by go_num, by rw [unhide HT, ← Bool.and_assoc, unhide HPV, unhide HC]; rfl, rfl⟩
        · have HC : Hid (okc nme[i] = false) := by show okc nme[i] = false; simp [okc]; omega
          have b95 : ((nme[i].toNat : Int) == 95) = false := beq_eq_false_iff_ne.2 (by omega)
          go_wp2_with fail
          go_roundg (nme.size - (i + 1))
          case measure => omega
          case rel => exact ⟨i + 1, rfl, by omega, by go_num, by rw [unhide HT, ← Bool.and_assoc, unhide HPV, unhide HC]; rfl, rfl⟩
    · have hltz : ¬ (i : Int) < nme.size := by omega
      have HTA : Hid (nme.toList.take i = nme.toList) := List.take_of_length_le (by rw [toL_len]; omega)
      generalize hpv : (decide (1 ≤ nme.size) && decide (nme.size ≤ 24) && (nme.toList.take i).all okc) = pv
      have HPV := hide hpv
      clear hpv
      cases pv with
      | false =>
        go_wp2_with fail
        go_ret
        exact ⟨rfl, unhide HBW⟩
      | true =>
        have HNM : Hid (isNm nme.toList = true) := by
          have h := unhide HPV
          rw [unhide HTA] at h
          simp only [Bool.and_eq_true, decide_eq_true_eq] at h
          exact plain_nm nme.toList (by rw [toL_len]; exact h.1.1) (by rw [toL_len]; exact h.1.2) h.2
        have hn24 : nme.size ≤ 24 := by
          have h := unhide HPV
          simp only [Bool.and_eq_true, decide_eq_true_eq] at h
          exact h.1.2
        have V1 := hide (valid_any (mkP nme) w6 (unhide HVW) (mkP_size nme (by omega)))
        rw [mkP_toL, plain_vd _ (unhide HNM)] at V1
        go_wp2_with fail
        refine (unhide V1).mono ?_
        rintro e wa ⟨rfl, hba⟩
        have HVa := hide ((unhide HVW).in hba)
        have HBa := hide (bt (unhide HBW) hba)
        clear hba
        have V2 := hide (nilable_any (mkP nme) wa (unhide HVa) (mkP_size nme (by omega)))
        rw [mkP_toL, plain_nil _ (unhide HNM)] at V2
        go_wp2_with fail
        refine (unhide V2).mono ?_
        rintro e wb ⟨rfl, hbb⟩
        have HVb := hide ((unhide HVa).in hbb)
        have HBb := hide (bt (unhide HBa) hbb)
        clear hbb
        have V3 := hide (equals_any (mkP nme) (mkP nme) wb (unhide HVb) (mkP_size nme (by omega)) (mkP_size nme (by omega)))
        rw [mkP_toL, plain_eq _ (unhide HNM)] at V3
        go_wp2_with fail
        refine (unhide V3).mono ?_
        rintro e wc ⟨rfl, hbc⟩
        have HBc := hide (bt (unhide HBb) hbc)
        clear hbc
        go_wp2_with fail
        go_ret
        exact ⟨rfl, unhide HBc⟩
set_option maxRecDepth 100000 in
set_option maxHeartbeats 800000 in
theorem makes_wb (t u nme : ByteArray) (w : World) (hv : Vars w) (htz : t.size ≤ 2000) (huz : u.size ≤ 2000) (hszz : ¬ (2000 : Int) < (t.size : Int) + u.size) (hn : nme.size ≤ 140737488355328) (hvt : vd t.toList = true) (hvu : vd u.toList = true) (g1 : 1 ≤ nme.size) (g2 : nme.size ≤ 24) : Calls Tryd.prog 6 #[.string t, .string u, .string nme] w fun e w' => e = .returned (.bool true) ∧ Below w.heap.size w w' := by
  have HA := hide (anchor_any w hv)
  have HV := hide hv
  clear hv
  go_enter Tryd.func6, Tryd.ntmps6
  go_wp2_with fail
  refine (unhide HA).mono ?_
  rintro e w1 ⟨rfl, hb1⟩
  have HV1 := hide ((unhide HV).in hb1)
  have HB1 := hide hb1
  clear hb1
  have E1 := hide (elem_any (mkL t) w1 (unhide HV1) (mkL_size t htz))
  unfold ElemPost at E1
  rw [mkL_toL, mk_elL, hvt] at E1
  go_wp2_with fail
  refine (unhide E1).mono ?_
  rintro e w2 ⟨hb2, r1, rfl, hr1⟩
  have HV2 := hide ((unhide HV1).in hb2)
  have HB2 := hide (bt (unhide HB1) hb2)
  have q1 : r1.toList = t.toList := hr1
  clear hb2 hr1
  have E2 := hide (elem_any (mkC t) w2 (unhide HV2) (mkC_size t htz))
  unfold ElemPost at E2
  rw [mkC_toL, mk_elC, hvt] at E2
  go_wp2_with fail
  refine (unhide E2).mono ?_
  rintro e w3 ⟨hb3, r2, rfl, hr2⟩
  have HV3 := hide ((unhide HV2).in hb3)
  have HB3 := hide (bt (unhide HB2) hb3)
  have q2 : r2.toList = t.toList := hr2
  clear hb3 hr2
  have E3 := hide (func_any (mkF t u) w3 (unhide HV3) (mkF_size t u htz huz))
  unfold FuncPost at E3
  rw [mkF_toL, mk_fn _ _ hvt hvu] at E3
  go_wp2_with fail
  refine (unhide E3).mono ?_
  rintro e w4 ⟨hb4, v, r3, rfl, hr3, hown⟩
  have HV4 := hide ((unhide HV3).in hb4)
  have HB4 := hide (bt (unhide HB3) hb4)
  have q3 : r3.toList = t.toList := hr3
  obtain ⟨g, cap, hvv, hg1, hg2, hc⟩ := own_strs hown (by simp)
  subst hvv
  have k0 : w4.cell? ⟨g, 0, none⟩ = some (.string t) := by rw [hc 0 t.toList rfl, ba_of]
  have k1 : w4.cell? ⟨g, 1, none⟩ = some (.string u) := by rw [hc 1 u.toList rfl, ba_of]
  clear hc
  clear hb4 hr3 hown
  have E4 := hide (valid_any t w4 (unhide HV4) (by omega))
  rw [hvt] at E4
  go_wp2_with fail
  refine (unhide E4).mono ?_
  rintro e w5 ⟨rfl, hb5⟩
  have HV5 := hide ((unhide HV4).in hb5)
  have HB5 := hide (bt (unhide HB4) hb5)
  have HZ45 := hide hb5.size
  have d0 := (hb5.cell (p := ⟨g, 0, none⟩) hg2).trans k0
  have d1 := (hb5.cell (p := ⟨g, 1, none⟩) hg2).trans k1
  clear hb5
  have E5 := hide (valid_any u w5 (unhide HV5) (by omega))
  rw [hvu] at E5
  go_wp2_with fail
  refine (unhide E5).mono ?_
  rintro e w6 ⟨rfl, hb6⟩
  have HVW := hide ((unhide HV5).in hb6)
  have HBW := hide (bt (unhide HB5) hb6)
  have f0 := (hb6.cell (p := ⟨g, 0, none⟩) (Nat.lt_of_lt_of_le hg2 (unhide HZ45))).trans d0
  have f1 := (hb6.cell (p := ⟨g, 1, none⟩) (Nat.lt_of_lt_of_le hg2 (unhide HZ45))).trans d1
  clear hb6
  have g1z : (1 : Int) ≤ nme.size := by omega
  have g2z : (nme.size : Int) ≤ 24 := by omega
  go_wp2_with fail
  go_loopg [14, 15, 16, 112] nme.size (fun g v14 _ _ v112 wx => ∃ (i : Nat), g = nme.size - i ∧ i ≤ nme.size ∧ v112 = .int .i64 i ∧ v14 = .bool (decide (1 ≤ nme.size) && decide (nme.size ≤ 24) && (nme.toList.take i).all okc) ∧ wx = w6)
  case atStart => exact ⟨0, by omega, by omega, rfl, by rw [decide_eq_true g1, decide_eq_true g2]; rfl, rfl⟩
  case round =>
    obtain ⟨i, rfl, hi, rfl, rfl, hwx⟩ := hrel
    have hw2 := hwx.symm
    clear hwx
    subst hw2
    by_cases hlt : i < nme.size
    · have hltz : (i : Int) < nme.size := by omega
      have HT := hide (take_okc nme i hlt)
      generalize hpv : (decide (1 ≤ nme.size) && decide (nme.size ≤ 24) && (nme.toList.take i).all okc) = pv
      have HPV := hide hpv
      clear hpv
      cases pv with
      | false =>
        go_wp2_with fail
        go_roundg (nme.size - (i + 1))
        case measure => omega
        case rel => exact ⟨i + 1, rfl, by omega, by go_num, by rw [unhide HT, ← Bool.and_assoc, unhide HPV]; rfl, rfl⟩
      | true =>
        by_cases c65 : (65 : Int) ≤ (nme[i].toNat : Int)
        · by_cases c90 : (nme[i].toNat : Int) ≤ 90
          · have HC : Hid (okc nme[i] = true) := by show okc nme[i] = true; simp [okc]; omega
            go_wp2_with fail
            go_roundg (nme.size - (i + 1))
            case measure => omega
            case rel => exact ⟨i + 1, rfl, by omega, by go_num, by rw [unhide HT, ← Bool.and_assoc, unhide HPV, unhide HC]; rfl, rfl⟩
          · by_cases c95 : nme[i] = 95
            · have b95 : ((nme[i].toNat : Int) == 95) = true := beqT c95
              have HC : Hid (okc nme[i] = true) := by show okc nme[i] = true; rw [c95]; rfl
              clear c95
              go_wp2_with fail
              go_roundg (nme.size - (i + 1))
              case measure => omega
              case rel => exact ⟨i + 1, rfl, by omega, by go_num, by rw [unhide HT, ← Bool.and_assoc, unhide HPV, unhide HC]; rfl, rfl⟩
            · have b95 : ((nme[i].toNat : Int) == 95) = false := beqF c95
              have HC : Hid (okc nme[i] = false) := by
                show okc nme[i] = false
                have : ¬ nme[i].toNat = 95 := fun e => c95 (UInt8.toNat_inj.1 e)
                simp [okc]; omega
              clear c95
              go_wp2_with fail
              go_roundg (nme.size - (i + 1))
              case measure => omega
              case rel => exact ⟨i + 1, rfl, by omega, by go_num, by rw [unhide HT, ← Bool.and_assoc, unhide HPV, unhide HC]; rfl, rfl⟩
        · have HC : Hid (okc nme[i] = false) := by show okc nme[i] = false; simp [okc]; omega
          have b95 : ((nme[i].toNat : Int) == 95) = false := beq_eq_false_iff_ne.2 (by omega)
          go_wp2_with fail
          go_roundg (nme.size - (i + 1))
          case measure => omega
          case rel => exact ⟨i + 1, rfl, by omega, by go_num, by rw [unhide HT, ← Bool.and_assoc, unhide HPV, unhide HC]; rfl, rfl⟩
    · have hltz : ¬ (i : Int) < nme.size := by omega
      have HTA : Hid (nme.toList.take i = nme.toList) := List.take_of_length_le (by rw [toL_len]; omega)
      generalize hpv : (decide (1 ≤ nme.size) && decide (nme.size ≤ 24) && (nme.toList.take i).all okc) = pv
      have HPV := hide hpv
      clear hpv
      cases pv with
      | false =>
        go_wp2_with fail
        go_ret
        exact ⟨rfl, unhide HBW⟩
      | true =>
        have HNM : Hid (isNm nme.toList = true) := by
          have h := unhide HPV
          rw [unhide HTA] at h
          simp only [Bool.and_eq_true, decide_eq_true_eq] at h
          exact plain_nm nme.toList (by rw [toL_len]; exact h.1.1) (by rw [toL_len]; exact h.1.2) h.2
        have hn24 : nme.size ≤ 24 := by
          have h := unhide HPV
          simp only [Bool.and_eq_true, decide_eq_true_eq] at h
          exact h.1.2
        have V1 := hide (valid_any (mkP nme) w6 (unhide HVW) (mkP_size nme (by omega)))
        rw [mkP_toL, plain_vd _ (unhide HNM)] at V1
        go_wp2_with fail
        refine (unhide V1).mono ?_
        rintro e wa ⟨rfl, hba⟩
        have HVa := hide ((unhide HVW).in hba)
        have HBa := hide (bt (unhide HBW) hba)
        clear hba
        have V2 := hide (nilable_any (mkP nme) wa (unhide HVa) (mkP_size nme (by omega)))
        rw [mkP_toL, plain_nil _ (unhide HNM)] at V2
        go_wp2_with fail
        refine (unhide V2).mono ?_
        rintro e wb ⟨rfl, hbb⟩
        have HVb := hide ((unhide HVa).in hbb)
        have HBb := hide (bt (unhide HBa) hbb)
        clear hbb
        have V3 := hide (equals_any (mkP nme) (mkP nme) wb (unhide HVb) (mkP_size nme (by omega)) (mkP_size nme (by omega)))
        rw [mkP_toL, plain_eq _ (unhide HNM)] at V3
        go_wp2_with fail
        refine (unhide V3).mono ?_
        rintro e wc ⟨rfl, hbc⟩
        have HBc := hide (bt (unhide HBb) hbc)
        clear hbc
        go_wp2_with fail
        go_ret
        exact ⟨rfl, unhide HBc⟩
set_option maxRecDepth 100000 in
set_option maxHeartbeats 800000 in
theorem makes_nc (t u nme : ByteArray) (w : World) (hv : Vars w) (htz : t.size ≤ 2000) (huz : u.size ≤ 2000) (hszz : ¬ (2000 : Int) < (t.size : Int) + u.size) (hn : nme.size ≤ 140737488355328) (hvt : vd t.toList = false) (g1 : 1 ≤ nme.size) (g2 : ¬ nme.size ≤ 24) : Calls Tryd.prog 6 #[.string t, .string u, .string nme] w fun e w' => e = .returned (.bool true) ∧ Below w.heap.size w w' := by
  have HA := hide (anchor_any w hv)
  have HV := hide hv
  clear hv
  go_enter Tryd.func6, Tryd.ntmps6
  go_wp2_with fail
  refine (unhide HA).mono ?_
  rintro e w1 ⟨rfl, hb1⟩
  have HV1 := hide ((unhide HV).in hb1)
  have HB1 := hide hb1
  clear hb1
  have E1 := hide (elem_any (mkL t) w1 (unhide HV1) (mkL_size t htz))
  unfold ElemPost at E1
  rw [mkL_toL, mk_elL, hvt] at E1
  go_wp2_with fail
  refine (unhide E1).mono ?_
  rintro e w2 ⟨hb2, r1, rfl, hr1⟩
  have HV2 := hide ((unhide HV1).in hb2)
  have HB2 := hide (bt (unhide HB1) hb2)
  clear hb2 hr1
  have E2 := hide (elem_any (mkC t) w2 (unhide HV2) (mkC_size t htz))
  unfold ElemPost at E2
  rw [mkC_toL, mk_elC, hvt] at E2
  go_wp2_with fail
  refine (unhide E2).mono ?_
  rintro e w3 ⟨hb3, r2, rfl, hr2⟩
  have HV3 := hide ((unhide HV2).in hb3)
  have HB3 := hide (bt (unhide HB2) hb3)
  clear hb3 hr2
  have E3 := hide (func_any (mkF t u) w3 (unhide HV3) (mkF_size t u htz huz))
  unfold FuncPost at E3
  go_wp2_with fail
  refine (unhide E3).mono ?_
  rintro e w4 ⟨hb4, v, r3, rfl, hr3, hown⟩
  have HV4 := hide ((unhide HV3).in hb4)
  have HB4 := hide (bt (unhide HB3) hb4)
  obtain ⟨ao, cap, hvv⟩ := own_form hown
  subst hvv
  clear hb4 hr3 hown
  have E4 := hide (valid_any t w4 (unhide HV4) (by omega))
  rw [hvt] at E4
  go_wp2_with fail
  refine (unhide E4).mono ?_
  rintro e w5 ⟨rfl, hb5⟩
  have HV5 := hide ((unhide HV4).in hb5)
  have HB5 := hide (bt (unhide HB4) hb5)
  clear hb5
  have HBW := HB5
  have HVW := HV5
  have g1z : (1 : Int) ≤ nme.size := by omega
  have g2z : ¬ (nme.size : Int) ≤ 24 := by omega
  go_wp2_with fail
  go_loopg [14, 15, 16, 112] nme.size (fun g v14 _ _ v112 wx => ∃ (i : Nat), g = nme.size - i ∧ i ≤ nme.size ∧ v112 = .int .i64 i ∧ v14 = .bool (decide (1 ≤ nme.size) && decide (nme.size ≤ 24) && (nme.toList.take i).all okc) ∧ wx = w5)
  case atStart => exact ⟨0, by omega, by omega, rfl, by rw [decide_eq_true g1, decide_eq_false g2, decide_eq_false (show ¬ ((nme.size : Int) ≤ 24) by omega)]; rfl, rfl⟩
  case round =>
    obtain ⟨i, rfl, hi, rfl, rfl, hwx⟩ := hrel
    have hw2 := hwx.symm
    clear hwx
    subst hw2
    by_cases hlt : i < nme.size
    · have hltz : (i : Int) < nme.size := by omega
      have HT := hide (take_okc nme i hlt)
      generalize hpv : (decide (1 ≤ nme.size) && decide (nme.size ≤ 24) && (nme.toList.take i).all okc) = pv
      have HPV := hide hpv
      clear hpv
      cases pv with
      | false =>
        go_wp2_with fail
        go_roundg (nme.size - (i + 1))
        case measure => omega
        case rel => exact ⟨i + 1, rfl, by omega, by go_num, by rw [unhide HT, ← Bool.and_assoc, unhide HPV]; rfl, rfl⟩
      | true =>
        by_cases c65 : (65 : Int) ≤ (nme[i].toNat : Int)
        · by_cases c90 : (nme[i].toNat : Int) ≤ 90
          · have HC : Hid (okc nme[i] = true) := by show okc nme[i] = true; simp [okc]; omega
            go_wp2_with fail
            go_roundg (nme.size - (i + 1))
            case measure => omega
            case rel => exact ⟨i + 1, rfl, by omega, by go_num, by rw [unhide HT, ← Bool.and_assoc, unhide HPV, unhide HC]; rfl, rfl⟩
          · by_cases c95 : nme[i] = 95
            · have b95 : ((nme[i].toNat : Int) == 95) = true := beqT c95
              have HC : Hid (okc nme[i] = true) := by show okc nme[i] = true; rw [c95]; rfl
              clear c95
              go_wp2_with fail
              go_roundg (nme.size - (i + 1))
              case measure => omega
              case rel => exact ⟨i + 1, rfl, by omega, by go_num, by rw [unhide HT, ← Bool.and_assoc, unhide HPV, unhide HC]; rfl, rfl⟩
            · have b95 : ((nme[i].toNat : Int) == 95) = false := beqF c95
              have HC : Hid (okc nme[i] = false) := by
                show okc nme[i] = false
                have : ¬ nme[i].toNat = 95 := fun e => c95 (UInt8.toNat_inj.1 e)
                simp [okc]; omega
              clear c95
              go_wp2_with fail
              go_roundg (nme.size - (i + 1))
              case measure => omega
              case rel => exact ⟨i + 1, rfl, by omega, by go_num, by rw [unhide HT, ← Bool.and_assoc, unhide HPV, unhide HC]; rfl, rfl⟩
        · have HC : Hid (okc nme[i] = false) := by show okc nme[i] = false; simp [okc]; omega
          have b95 : ((nme[i].toNat : Int) == 95) = false := beq_eq_false_iff_ne.2 (by omega)
          go_wp2_with fail
          go_roundg (nme.size - (i + 1))
          case measure => omega
          case rel => exact ⟨i + 1, rfl, by omega, by go_num, by rw [unhide HT, ← Bool.and_assoc, unhide HPV, unhide HC]; rfl, rfl⟩
    · have hltz : ¬ (i : Int) < nme.size := by omega
      have HTA : Hid (nme.toList.take i = nme.toList) := List.take_of_length_le (by rw [toL_len]; omega)
      generalize hpv : (decide (1 ≤ nme.size) && decide (nme.size ≤ 24) && (nme.toList.take i).all okc) = pv
      have HPV := hide hpv
      clear hpv
      cases pv with
      | false =>
        go_wp2_with fail
        go_ret
        exact ⟨rfl, unhide HBW⟩
      | true =>
        have hn24 : nme.size ≤ 24 := by
          have h := unhide HPV
          simp only [Bool.and_eq_true, decide_eq_true_eq] at h
          exact h.1.2
        exact absurd hn24 g2
set_option maxRecDepth 100000 in
set_option maxHeartbeats 800000 in
theorem makes_vc (t u nme : ByteArray) (w : World) (hv : Vars w) (htz : t.size ≤ 2000) (huz : u.size ≤ 2000) (hszz : ¬ (2000 : Int) < (t.size : Int) + u.size) (hn : nme.size ≤ 140737488355328) (hvt : vd t.toList = true) (hvu : vd u.toList = false) (g1 : 1 ≤ nme.size) (g2 : ¬ nme.size ≤ 24) : Calls Tryd.prog 6 #[.string t, .string u, .string nme] w fun e w' => e = .returned (.bool true) ∧ Below w.heap.size w w' := by
  have HA := hide (anchor_any w hv)
  have HV := hide hv
  clear hv
  go_enter Tryd.func6, Tryd.ntmps6
  go_wp2_with fail
  refine (unhide HA).mono ?_
  rintro e w1 ⟨rfl, hb1⟩
  have HV1 := hide ((unhide HV).in hb1)
  have HB1 := hide hb1
  clear hb1
  have E1 := hide (elem_any (mkL t) w1 (unhide HV1) (mkL_size t htz))
  unfold ElemPost at E1
  rw [mkL_toL, mk_elL, hvt] at E1
  go_wp2_with fail
  refine (unhide E1).mono ?_
  rintro e w2 ⟨hb2, r1, rfl, hr1⟩
  have HV2 := hide ((unhide HV1).in hb2)
  have HB2 := hide (bt (unhide HB1) hb2)
  have q1 : r1.toList = t.toList := hr1
  clear hb2 hr1
  have E2 := hide (elem_any (mkC t) w2 (unhide HV2) (mkC_size t htz))
  unfold ElemPost at E2
  rw [mkC_toL, mk_elC, hvt] at E2
  go_wp2_with fail
  refine (unhide E2).mono ?_
  rintro e w3 ⟨hb3, r2, rfl, hr2⟩
  have HV3 := hide ((unhide HV2).in hb3)
  have HB3 := hide (bt (unhide HB2) hb3)
  have q2 : r2.toList = t.toList := hr2
  clear hb3 hr2
  have E3 := hide (func_any (mkF t u) w3 (unhide HV3) (mkF_size t u htz huz))
  unfold FuncPost at E3
  go_wp2_with fail
  refine (unhide E3).mono ?_
  rintro e w4 ⟨hb4, v, r3, rfl, hr3, hown⟩
  have HV4 := hide ((unhide HV3).in hb4)
  have HB4 := hide (bt (unhide HB3) hb4)
  obtain ⟨ao, cap, hvv⟩ := own_form hown
  subst hvv
  clear hb4 hr3 hown
  have E4 := hide (valid_any t w4 (unhide HV4) (by omega))
  rw [hvt] at E4
  go_wp2_with fail
  refine (unhide E4).mono ?_
  rintro e w5 ⟨rfl, hb5⟩
  have HV5 := hide ((unhide HV4).in hb5)
  have HB5 := hide (bt (unhide HB4) hb5)
  clear hb5
  have E5 := hide (valid_any u w5 (unhide HV5) (by omega))
  rw [hvu] at E5
  go_wp2_with fail
  refine (unhide E5).mono ?_
  rintro e w6 ⟨rfl, hb6⟩
  have HVW := hide ((unhide HV5).in hb6)
  have HBW := hide (bt (unhide HB5) hb6)
  clear hb6
  have g1z : (1 : Int) ≤ nme.size := by omega
  have g2z : ¬ (nme.size : Int) ≤ 24 := by omega
  go_wp2_with fail
  go_loopg [14, 15, 16, 112] nme.size (fun g v14 _ _ v112 wx => ∃ (i : Nat), g = nme.size - i ∧ i ≤ nme.size ∧ v112 = .int .i64 i ∧ v14 = .bool (decide (1 ≤ nme.size) && decide (nme.size ≤ 24) && (nme.toList.take i).all okc) ∧ wx = w6)
  case atStart => exact ⟨0, by omega, by omega, rfl, by rw [decide_eq_true g1, decide_eq_false g2, decide_eq_false (show ¬ ((nme.size : Int) ≤ 24) by omega)]; rfl, rfl⟩
  case round =>
    obtain ⟨i, rfl, hi, rfl, rfl, hwx⟩ := hrel
    have hw2 := hwx.symm
    clear hwx
    subst hw2
    by_cases hlt : i < nme.size
    · have hltz : (i : Int) < nme.size := by omega
      have HT := hide (take_okc nme i hlt)
      generalize hpv : (decide (1 ≤ nme.size) && decide (nme.size ≤ 24) && (nme.toList.take i).all okc) = pv
      have HPV := hide hpv
      clear hpv
      cases pv with
      | false =>
        go_wp2_with fail
        go_roundg (nme.size - (i + 1))
        case measure => omega
        case rel => exact ⟨i + 1, rfl, by omega, by go_num, by rw [unhide HT, ← Bool.and_assoc, unhide HPV]; rfl, rfl⟩
      | true =>
        by_cases c65 : (65 : Int) ≤ (nme[i].toNat : Int)
        · by_cases c90 : (nme[i].toNat : Int) ≤ 90
          · have HC : Hid (okc nme[i] = true) := by show okc nme[i] = true; simp [okc]; omega
            go_wp2_with fail
            go_roundg (nme.size - (i + 1))
            case measure => omega
            case rel => exact ⟨i + 1, rfl, by omega, by go_num, by rw [unhide HT, ← Bool.and_assoc, unhide HPV, unhide HC]; rfl, rfl⟩
          · by_cases c95 : nme[i] = 95
            · have b95 : ((nme[i].toNat : Int) == 95) = true := beqT c95
              have HC : Hid (okc nme[i] = true) := by show okc nme[i] = true; rw [c95]; rfl
              clear c95
              go_wp2_with fail
              go_roundg (nme.size - (i + 1))
              case measure => omega
              case rel => exact ⟨i + 1, rfl, by omega, by go_num, by rw [unhide HT, ← Bool.and_assoc, unhide HPV, unhide HC]; rfl, rfl⟩
            · have b95 : ((nme[i].toNat : Int) == 95) = false := beqF c95
              have HC : Hid (okc nme[i] = false) := by
                show okc nme[i] = false
                have : ¬ nme[i].toNat = 95 := fun e => c95 (UInt8.toNat_inj.1 e)
                simp [okc]; omega
              clear c95
              go_wp2_with fail
              go_roundg (nme.size - (i + 1))
              case measure => omega
              case rel => exact ⟨i + 1, rfl, by omega, by go_num, by rw [unhide HT, ← Bool.and_assoc, unhide HPV, unhide HC]; rfl, rfl⟩
        · have HC : Hid (okc nme[i] = false) := by show okc nme[i] = false; simp [okc]; omega
          have b95 : ((nme[i].toNat : Int) == 95) = false := beq_eq_false_iff_ne.2 (by omega)
          go_wp2_with fail
          go_roundg (nme.size - (i + 1))
          case measure => omega
          case rel => exact ⟨i + 1, rfl, by omega, by go_num, by rw [unhide HT, ← Bool.and_assoc, unhide HPV, unhide HC]; rfl, rfl⟩
    · have hltz : ¬ (i : Int) < nme.size := by omega
      have HTA : Hid (nme.toList.take i = nme.toList) := List.take_of_length_le (by rw [toL_len]; omega)
      generalize hpv : (decide (1 ≤ nme.size) && decide (nme.size ≤ 24) && (nme.toList.take i).all okc) = pv
      have HPV := hide hpv
      clear hpv
      cases pv with
      | false =>
        go_wp2_with fail
        go_ret
        exact ⟨rfl, unhide HBW⟩
      | true =>
        have hn24 : nme.size ≤ 24 := by
          have h := unhide HPV
          simp only [Bool.and_eq_true, decide_eq_true_eq] at h
          exact h.1.2
        exact absurd hn24 g2
set_option maxRecDepth 100000 in
set_option maxHeartbeats 800000 in
theorem makes_wc (t u nme : ByteArray) (w : World) (hv : Vars w) (htz : t.size ≤ 2000) (huz : u.size ≤ 2000) (hszz : ¬ (2000 : Int) < (t.size : Int) + u.size) (hn : nme.size ≤ 140737488355328) (hvt : vd t.toList = true) (hvu : vd u.toList = true) (g1 : 1 ≤ nme.size) (g2 : ¬ nme.size ≤ 24) : Calls Tryd.prog 6 #[.string t, .string u, .string nme] w fun e w' => e = .returned (.bool true) ∧ Below w.heap.size w w' := by
  have HA := hide (anchor_any w hv)
  have HV := hide hv
  clear hv
  go_enter Tryd.func6, Tryd.ntmps6
  go_wp2_with fail
  refine (unhide HA).mono ?_
  rintro e w1 ⟨rfl, hb1⟩
  have HV1 := hide ((unhide HV).in hb1)
  have HB1 := hide hb1
  clear hb1
  have E1 := hide (elem_any (mkL t) w1 (unhide HV1) (mkL_size t htz))
  unfold ElemPost at E1
  rw [mkL_toL, mk_elL, hvt] at E1
  go_wp2_with fail
  refine (unhide E1).mono ?_
  rintro e w2 ⟨hb2, r1, rfl, hr1⟩
  have HV2 := hide ((unhide HV1).in hb2)
  have HB2 := hide (bt (unhide HB1) hb2)
  have q1 : r1.toList = t.toList := hr1
  clear hb2 hr1
  have E2 := hide (elem_any (mkC t) w2 (unhide HV2) (mkC_size t htz))
  unfold ElemPost at E2
  rw [mkC_toL, mk_elC, hvt] at E2
  go_wp2_with fail
  refine (unhide E2).mono ?_
  rintro e w3 ⟨hb3, r2, rfl, hr2⟩
  have HV3 := hide ((unhide HV2).in hb3)
  have HB3 := hide (bt (unhide HB2) hb3)
  have q2 : r2.toList = t.toList := hr2
  clear hb3 hr2
  have E3 := hide (func_any (mkF t u) w3 (unhide HV3) (mkF_size t u htz huz))
  unfold FuncPost at E3
  rw [mkF_toL, mk_fn _ _ hvt hvu] at E3
  go_wp2_with fail
  refine (unhide E3).mono ?_
  rintro e w4 ⟨hb4, v, r3, rfl, hr3, hown⟩
  have HV4 := hide ((unhide HV3).in hb4)
  have HB4 := hide (bt (unhide HB3) hb4)
  have q3 : r3.toList = t.toList := hr3
  obtain ⟨g, cap, hvv, hg1, hg2, hc⟩ := own_strs hown (by simp)
  subst hvv
  have k0 : w4.cell? ⟨g, 0, none⟩ = some (.string t) := by rw [hc 0 t.toList rfl, ba_of]
  have k1 : w4.cell? ⟨g, 1, none⟩ = some (.string u) := by rw [hc 1 u.toList rfl, ba_of]
  clear hc
  clear hb4 hr3 hown
  have E4 := hide (valid_any t w4 (unhide HV4) (by omega))
  rw [hvt] at E4
  go_wp2_with fail
  refine (unhide E4).mono ?_
  rintro e w5 ⟨rfl, hb5⟩
  have HV5 := hide ((unhide HV4).in hb5)
  have HB5 := hide (bt (unhide HB4) hb5)
  have HZ45 := hide hb5.size
  have d0 := (hb5.cell (p := ⟨g, 0, none⟩) hg2).trans k0
  have d1 := (hb5.cell (p := ⟨g, 1, none⟩) hg2).trans k1
  clear hb5
  have E5 := hide (valid_any u w5 (unhide HV5) (by omega))
  rw [hvu] at E5
  go_wp2_with fail
  refine (unhide E5).mono ?_
  rintro e w6 ⟨rfl, hb6⟩
  have HVW := hide ((unhide HV5).in hb6)
  have HBW := hide (bt (unhide HB5) hb6)
  have f0 := (hb6.cell (p := ⟨g, 0, none⟩) (Nat.lt_of_lt_of_le hg2 (unhide HZ45))).trans d0
  have f1 := (hb6.cell (p := ⟨g, 1, none⟩) (Nat.lt_of_lt_of_le hg2 (unhide HZ45))).trans d1
  clear hb6
  have g1z : (1 : Int) ≤ nme.size := by omega
  have g2z : ¬ (nme.size : Int) ≤ 24 := by omega
  go_wp2_with fail
  go_loopg [14, 15, 16, 112] nme.size (fun g v14 _ _ v112 wx => ∃ (i : Nat), g = nme.size - i ∧ i ≤ nme.size ∧ v112 = .int .i64 i ∧ v14 = .bool (decide (1 ≤ nme.size) && decide (nme.size ≤ 24) && (nme.toList.take i).all okc) ∧ wx = w6)
  case atStart => exact ⟨0, by omega, by omega, rfl, by rw [decide_eq_true g1, decide_eq_false g2, decide_eq_false (show ¬ ((nme.size : Int) ≤ 24) by omega)]; rfl, rfl⟩
  case round =>
    obtain ⟨i, rfl, hi, rfl, rfl, hwx⟩ := hrel
    have hw2 := hwx.symm
    clear hwx
    subst hw2
    by_cases hlt : i < nme.size
    · have hltz : (i : Int) < nme.size := by omega
      have HT := hide (take_okc nme i hlt)
      generalize hpv : (decide (1 ≤ nme.size) && decide (nme.size ≤ 24) && (nme.toList.take i).all okc) = pv
      have HPV := hide hpv
      clear hpv
      cases pv with
      | false =>
        go_wp2_with fail
        go_roundg (nme.size - (i + 1))
        case measure => omega
        case rel => exact ⟨i + 1, rfl, by omega, by go_num, by rw [unhide HT, ← Bool.and_assoc, unhide HPV]; rfl, rfl⟩
      | true =>
        by_cases c65 : (65 : Int) ≤ (nme[i].toNat : Int)
        · by_cases c90 : (nme[i].toNat : Int) ≤ 90
          · have HC : Hid (okc nme[i] = true) := by show okc nme[i] = true; simp [okc]; omega
            go_wp2_with fail
            go_roundg (nme.size - (i + 1))
            case measure => omega
            case rel => exact ⟨i + 1, rfl, by omega, by go_num, by rw [unhide HT, ← Bool.and_assoc, unhide HPV, unhide HC]; rfl, rfl⟩
          · by_cases c95 : nme[i] = 95
            · have b95 : ((nme[i].toNat : Int) == 95) = true := beqT c95
              have HC : Hid (okc nme[i] = true) := by show okc nme[i] = true; rw [c95]; rfl
              clear c95
              go_wp2_with fail
              go_roundg (nme.size - (i + 1))
              case measure => omega
              case rel => exact ⟨i + 1, rfl, by omega, by go_num, by rw [unhide HT, ← Bool.and_assoc, unhide HPV, unhide HC]; rfl, rfl⟩
            · have b95 : ((nme[i].toNat : Int) == 95) = false := beqF c95
              have HC : Hid (okc nme[i] = false) := by
                show okc nme[i] = false
                have : ¬ nme[i].toNat = 95 := fun e => c95 (UInt8.toNat_inj.1 e)
                simp [okc]; omega
              clear c95
              go_wp2_with fail
              go_roundg (nme.size - (i + 1))
              case measure => omega
              case rel => exact ⟨i + 1, rfl, by omega, by go_num, by rw [unhide HT, ← Bool.and_assoc, unhide HPV, unhide HC]; rfl, rfl⟩
        · have HC : Hid (okc nme[i] = false) := by show okc nme[i] = false; simp [okc]; omega
          have b95 : ((nme[i].toNat : Int) == 95) = false := beq_eq_false_iff_ne.2 (by omega)
          go_wp2_with fail
          go_roundg (nme.size - (i + 1))
          case measure => omega
          case rel => exact ⟨i + 1, rfl, by omega, by go_num, by rw [unhide HT, ← Bool.and_assoc, unhide HPV, unhide HC]; rfl, rfl⟩
    · have hltz : ¬ (i : Int) < nme.size := by omega
      have HTA : Hid (nme.toList.take i = nme.toList) := List.take_of_length_le (by rw [toL_len]; omega)
      generalize hpv : (decide (1 ≤ nme.size) && decide (nme.size ≤ 24) && (nme.toList.take i).all okc) = pv
      have HPV := hide hpv
      clear hpv
      cases pv with
      | false =>
        go_wp2_with fail
        go_ret
        exact ⟨rfl, unhide HBW⟩
      | true =>
        have hn24 : nme.size ≤ 24 := by
          have h := unhide HPV
          simp only [Bool.and_eq_true, decide_eq_true_eq] at h
          exact h.1.2
        exact absurd hn24 g2
theorem makes_any (t u nme : ByteArray) (w : World) (hv : Vars w) (ht : t.size ≤ 140737488355328) (hu : u.size ≤ 140737488355328) (hn : nme.size ≤ 140737488355328) : Calls Tryd.prog 6 #[.string t, .string u, .string nme] w fun e w' => e = .returned (.bool true) ∧ Below w.heap.size w w' := by
  by_cases hsz : 2000 < t.size + u.size
  · exact makes_big t u nme w hv ht hu hsz
  have htz : t.size ≤ 2000 := by omega
  have huz : u.size ≤ 2000 := by omega
  have hszz : ¬ (2000 : Int) < (t.size : Int) + u.size := by omega
  by_cases g1 : nme.size < 1
  · cases hvt : vd t.toList with
    | false => exact makes_na t u nme w hv htz huz hszz hn hvt g1
    | true =>
      cases hvu : vd u.toList with
      | false => exact makes_va t u nme w hv htz huz hszz hn hvt hvu g1
      | true => exact makes_wa t u nme w hv htz huz hszz hn hvt hvu g1
  · by_cases g2 : nme.size ≤ 24
    · cases hvt : vd t.toList with
      | false => exact makes_nb t u nme w hv htz huz hszz hn hvt (by omega) g2
      | true =>
        cases hvu : vd u.toList with
        | false => exact makes_vb t u nme w hv htz huz hszz hn hvt hvu (by omega) g2
        | true => exact makes_wb t u nme w hv htz huz hszz hn hvt hvu (by omega) g2
    · cases hvt : vd t.toList with
      | false => exact makes_nc t u nme w hv htz huz hszz hn hvt (by omega) g2
      | true =>
        cases hvu : vd u.toList with
        | false => exact makes_vc t u nme w hv htz huz hszz hn hvt hvu (by omega) g2
        | true => exact makes_wc t u nme w hv htz huz hszz hn hvt hvu (by omega) g2
end Go.Proofs.YtpmpjbnnjdpbnaaDoor
