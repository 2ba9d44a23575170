/- Contracts of the reference's Valid, Elem, Func, Nilable, Fits, Equals. -/
import Derived.Test.YtpmpjbnnjdpbnaaDoorRf3
set_option linter.unusedVariables false
namespace Go.Proofs.YtpmpjbnnjdpbnaaDoor
open Go.RowKit Go.Proofs.YtpmpjbnnjdpbnaaDoor.Lx

theorem enAt_vd (s : ByteArray) : (enAt s.toList 0 == (s.size : Int)) = vd s.toList ∨ s.size = 0 := by
  by_cases hz : s.size = 0
  · exact .inr hz
  · left
    rw [Bool.eq_iff_iff, beq_iff_eq, ← vd_rE]
    unfold enAt
    rw [List.drop_zero]
    constructor
    · intro h
      cases hr : rE s.toList with
      | none => rw [hr] at h; simp only at h; omega
      | some r =>
        rw [hr] at h
        simp only at h
        have hl := rE_len hr
        rw [toL_len] at h hl
        have : r.length = 0 := by omega
        rw [List.eq_nil_of_length_eq_zero this]
    · intro h
      rw [h]; simp [toL_len]
theorem vd_ne {l : List UInt8} (h : vd l = true) : l ≠ [] := ty_nil ((vd_ty _).1 h) (by decide)
set_option maxRecDepth 100000 in
set_option maxHeartbeats 400000 in
theorem rvalid_any (s : ByteArray) (w : World) (hs : s.size ≤ 10000) : Calls Tryd.prog 14 #[.string s] w fun e w' => e = .returned (.bool (vd s.toList)) ∧ Below w.heap.size w w' := by
  have HE := hide (end_any s 0 w hs (Nat.zero_le _))
  unfold EndPost at HE
  by_cases hz : s.size = 0
  · have hn := nil_of hz
    have HV : Hid (vd s.toList = false) := by
      show vd s.toList = false
      cases h : vd s.toList with
      | false => rfl
      | true => exact absurd hn (vd_ne h)
    cases hq : (enAt s.toList 0 == (s.size : Int)) with
    | true =>
      go_enter Tryd.func14, Tryd.ntmps14
      go_wp2_with fail
      refine (unhide HE).mono ?_
      rintro e w3 ⟨rfl, hb3⟩
      have HB3 := hide hb3
      clear hb3
      go_wp2_with fail
      go_ret
      exact ⟨by rw [unhide HV]; rfl, unhide HB3⟩
    | false =>
      go_enter Tryd.func14, Tryd.ntmps14
      go_wp2_with fail
      refine (unhide HE).mono ?_
      rintro e w3 ⟨rfl, hb3⟩
      have HB3 := hide hb3
      clear hb3
      go_wp2_with fail
      go_ret
      exact ⟨by rw [unhide HV]; rfl, unhide HB3⟩
  · have hv : (enAt s.toList 0 == (s.size : Int)) = vd s.toList := by
      rcases enAt_vd s with h | h
      · exact h
      · exact absurd h hz
    have hne : s.toList.isEmpty = false := by rw [isEmpty_toL]; exact decide_eq_false hz
    have HV := hide hv
    clear hv
    cases hq : (enAt s.toList 0 == (s.size : Int)) with
    | true =>
      rw [hq] at HV
      go_enter Tryd.func14, Tryd.ntmps14
      go_wp2_with fail
      refine (unhide HE).mono ?_
      rintro e w3 ⟨rfl, hb3⟩
      have HB3 := hide hb3
      clear hb3
      go_wp2_with fail
      go_ret
      exact ⟨by rw [← unhide HV]; rfl, unhide HB3⟩
    | false =>
      rw [hq] at HV
      go_enter Tryd.func14, Tryd.ntmps14
      go_wp2_with fail
      refine (unhide HE).mono ?_
      rintro e w3 ⟨rfl, hb3⟩
      have HB3 := hide hb3
      clear hb3
      go_wp2_with fail
      go_ret
      exact ⟨by rw [← unhide HV]; rfl, unhide HB3⟩
theorem begs (p : List UInt8) (s : ByteArray) (w : World) (v : Bool) (h : p.isPrefixOf s.toList = v) :
    Calls Tryd.prog 28 #[.string s, .string ⟨p.toArray⟩] w fun e w' => e = .returned (.bool v) ∧ w' = w := by
  refine (begins28 s ⟨p.toArray⟩ w).mono ?_
  rintro e w' ⟨rfl, hw⟩
  rw [arr_toL, h]
  exact ⟨rfl, hw⟩
theorem vd_L (r : List UInt8) : vd (tL ++ r) = vd r := by
  rw [Bool.eq_iff_iff, ← vd_rE, ← vd_rE, rE_eq (tL ++ r), hdL]
theorem vd_C (r : List UInt8) : vd (tC ++ r) = vd r := by
  rw [Bool.eq_iff_iff, ← vd_rE, ← vd_rE, rE_eq (tC ++ r), hdC]
theorem elF_no {l : List UInt8} (h : vd l = false) : elF l = none := by
  unfold elF
  cases h1 : cut tL l with
  | some r =>
    rw [cut_some.1 h1, vd_L] at h
    simp [h]
  | none =>
    cases h2 : cut tC l with
    | some r =>
      rw [cut_some.1 h2, vd_C] at h
      simp [h]
    | none => rfl
set_option maxRecDepth 100000 in
set_option maxHeartbeats 400000 in
theorem relem_any (s : ByteArray) (w : World) (hs : s.size ≤ 10000) : Calls Tryd.prog 10 #[.string s] w (ElemPost s.toList w) := by
  have HV := hide (rvalid_any s w hs)
  cases hv : vd s.toList with
  | false =>
    rw [hv] at HV
    have HE := hide (elF_no hv)
    go_enter Tryd.func10, Tryd.ntmps10
    go_wp2_with fail
    refine (unhide HV).mono ?_
    rintro e w3 ⟨rfl, hb3⟩
    have HB3 := hide hb3
    have HV2 := hide (rvalid_any s w3 hs)
    rw [hv] at HV2
    clear hb3
    go_wp2_with fail
    refine (unhide HV2).mono ?_
    rintro e w4 ⟨rfl, hb4⟩
    have HB4 := hide hb4
    clear hb4
    go_wp2_with fail
    go_ret2
    exact ⟨bt (unhide HB3) (unhide HB4), ⟨#[]⟩, by rw [unhide HE]; rfl, by rw [unhide HE]; exact nil_toL⟩
  | true =>
    rw [hv] at HV
    cases h0 : cut [91, 93] s.toList with
    | some r =>
      have hl := congrArg List.length (cut_some.1 h0)
      rw [toL_len] at hl
      have h2z : (2 : Int) ≤ s.size := by simp at hl; omega
      have HE : Hid (elF s.toList = some r) := by
        show elF s.toList = some r
        have e := cut_some.1 h0
        have e2 : vd r = true := by rw [← vd_L]; rw [e] at hv; exact hv
        unfold elF
        rw [show cut tL s.toList = some r from h0]
        simp only [e2, if_true]
      have HR : Hid ((s.extract 2 s.size).toList = r) := by
        show (s.extract 2 s.size).toList = r
        rw [ext_drop, cut_some.1 h0]; rfl
      clear hl
      go_enter Tryd.func10, Tryd.ntmps10
      go_wp2_with fail
      refine (unhide HV).mono ?_
      rintro e w3 ⟨rfl, hb3⟩
      have HB3 := hide hb3
      have HB := hide (begs [91, 93] s w3 true (cut_pre h0))
      clear hb3 h0 hv
      go_wp2_with fail
      refine (unhide HB).mono ?_
      rintro e w' ⟨rfl, hww⟩
      rw [hww]
      clear hww
      go_wp2_with fail
      go_ret2
      exact ⟨unhide HB3, s.extract 2 s.size, by rw [unhide HE]; rfl, by rw [unhide HE]; exact unhide HR⟩
    | none =>
      cases h1 : cut [99, 104, 97, 110, 32] s.toList with
      | some r =>
        have hl := congrArg List.length (cut_some.1 h1)
        rw [toL_len] at hl
        have h2z : (5 : Int) ≤ s.size := by simp at hl; omega
        have HE : Hid (elF s.toList = some r) := by
          show elF s.toList = some r
          have e := cut_some.1 h1
          have e2 : vd r = true := by rw [← vd_C]; rw [e] at hv; exact hv
          unfold elF
          rw [show cut tL s.toList = none from h0, show cut tC s.toList = some r from h1]
          simp only [e2, if_true]
        have HR : Hid ((s.extract 5 s.size).toList = r) := by
          show (s.extract 5 s.size).toList = r
          rw [ext_drop, cut_some.1 h1]; rfl
        clear hl
        go_enter Tryd.func10, Tryd.ntmps10
        go_wp2_with fail
        refine (unhide HV).mono ?_
        rintro e w3 ⟨rfl, hb3⟩
        have HB3 := hide hb3
        have HB := hide (begs [91, 93] s w3 false (cut_npre h0))
        have HV2 := hide (rvalid_any s w3 hs)
        rw [hv] at HV2
        clear hb3
        go_wp2_with fail
        refine (unhide HB).mono ?_
        rintro e w' ⟨rfl, hww⟩
        rw [hww]
        clear hww
        go_wp2_with fail
        refine (unhide HV2).mono ?_
        rintro e w4 ⟨rfl, hb4⟩
        have HB4 := hide hb4
        have HB2 := hide (begs [99, 104, 97, 110, 32] s w4 true (cut_pre h1))
        clear hb4 h0 h1 hv
        go_wp2_with fail
        refine (unhide HB2).mono ?_
        rintro e w' ⟨rfl, hww⟩
        rw [hww]
        clear hww
        go_wp2_with fail
        go_ret2
        exact ⟨bt (unhide HB3) (unhide HB4), s.extract 5 s.size, by rw [unhide HE]; rfl, by rw [unhide HE]; exact unhide HR⟩
      | none =>
        have HE : Hid (elF s.toList = none) := by
          show elF s.toList = none
          unfold elF
          rw [show cut tL s.toList = none from h0, show cut tC s.toList = none from h1]
        go_enter Tryd.func10, Tryd.ntmps10
        go_wp2_with fail
        refine (unhide HV).mono ?_
        rintro e w3 ⟨rfl, hb3⟩
        have HB3 := hide hb3
        have HB := hide (begs [91, 93] s w3 false (cut_npre h0))
        have HV2 := hide (rvalid_any s w3 hs)
        rw [hv] at HV2
        clear hb3
        go_wp2_with fail
        refine (unhide HB).mono ?_
        rintro e w' ⟨rfl, hww⟩
        rw [hww]
        clear hww
        go_wp2_with fail
        refine (unhide HV2).mono ?_
        rintro e w4 ⟨rfl, hb4⟩
        have HB4 := hide hb4
        have HB2 := hide (begs [99, 104, 97, 110, 32] s w4 false (cut_npre h1))
        clear hb4 h0 h1 hv
        go_wp2_with fail
        refine (unhide HB2).mono ?_
        rintro e w' ⟨rfl, hww⟩
        rw [hww]
        clear hww
        go_wp2_with fail
        go_ret2
        exact ⟨bt (unhide HB3) (unhide HB4), ⟨#[]⟩, by rw [unhide HE]; rfl, by rw [unhide HE]; exact nil_toL⟩
set_option maxRecDepth 100000 in
set_option maxHeartbeats 400000 in
theorem rfunc_any (s : ByteArray) (w : World) (hs : s.size ≤ 10000) : Calls Tryd.prog 12 #[.string s] w (FuncPost s.toList w) := by
  have HV := hide (rvalid_any s w hs)
  cases hv : vd s.toList with
  | false =>
    rw [hv] at HV
    have HE : Hid (fnF s.toList = none) := by
      show fnF s.toList = none
      unfold fnF
      cases cut tF s.toList with
      | none => rfl
      | some r => simp [hv]
    go_enter Tryd.func12, Tryd.ntmps12
    go_wp2_with fail
    refine (unhide HV).mono ?_
    rintro e w3 ⟨rfl, hb3⟩
    have HB3 := hide hb3
    clear hb3
    go_wp2_with fail
    refine bodyPost_ret (v := .tuple #[.slice none 0 0, .string ⟨#[]⟩, .bool false]) (by simp [results, Tryd.results12, go_sem]) rfl ?_
    refine ⟨unhide HB3, .slice none 0 0, ⟨#[]⟩, by rw [unhide HE]; rfl, by rw [unhide HE]; exact nil_toL, by rw [unhide HE]; exact World.ownsRow_nil _ _ _ _⟩
  | true =>
    rw [hv] at HV
    cases h0 : cut [102, 117, 110, 99, 40] s.toList with
    | none =>
      have HE : Hid (fnF s.toList = none) := by
        show fnF s.toList = none
        unfold fnF
        rw [show cut tF s.toList = none from h0]
      go_enter Tryd.func12, Tryd.ntmps12
      go_wp2_with fail
      refine (unhide HV).mono ?_
      rintro e w3 ⟨rfl, hb3⟩
      have HB3 := hide hb3
      have HB := hide (begs [102, 117, 110, 99, 40] s w3 false (cut_npre h0))
      clear hb3 h0 hv
      go_wp2_with fail
      refine (unhide HB).mono ?_
      rintro e w' ⟨rfl, hww⟩
      rw [hww]
      clear hww
      go_wp2_with fail
      refine bodyPost_ret (v := .tuple #[.slice none 0 0, .string ⟨#[]⟩, .bool false]) (by simp [results, Tryd.results12, go_sem]) rfl ?_
      refine ⟨unhide HB3, .slice none 0 0, ⟨#[]⟩, by rw [unhide HE]; rfl, by rw [unhide HE]; exact nil_toL, by rw [unhide HE]; exact World.ownsRow_nil _ _ _ _⟩
    | some r =>
      have e := cut_some.1 h0
      have hl := congrArg List.length e
      rw [toL_len] at hl
      have h5 : 5 ≤ s.size := by simp at hl; omega
      obtain ⟨ps, res, hf, hsp⟩ := rF_spl (r := r) (by rw [e] at hv; exact hv)
      have HE : Hid (fnF s.toList = some (ps, res)) := by
        show fnF s.toList = _
        unfold fnF
        rw [show cut tF s.toList = some r from h0]
        simp only [hv, if_true]
        rw [hsp]
      have hr : s.toList.drop (0 + 5) = r := by rw [e]; rfl
      clear hl
      go_enter Tryd.func12, Tryd.ntmps12
      go_wp2_with fail
      refine (unhide HV).mono ?_
      rintro e w3 ⟨rfl, hb3⟩
      have HB3 := hide hb3
      have HB := hide (begs [102, 117, 110, 99, 40] s w3 true (cut_pre h0))
      have HF := hide (function_any s 0 w3 hs (by omega))
      unfold FnPost at HF
      rw [hr, hf] at HF
      clear hb3 h0 hv hf hsp e hr
      go_wp2_with fail
      refine (unhide HB).mono ?_
      rintro e w' ⟨rfl, hww⟩
      rw [hww]
      clear hww
      go_wp2_with fail
      refine (unhide HF).mono ?_
      rintro e w4 ⟨hb4, v, x, rfl, hx, hown⟩
      have HB4 := hide hb4
      have HX := hide hx
      have HO := hide hown
      clear hb4 hx hown
      go_wp2_with fail
      refine bodyPost_ret (v := .tuple #[v, .string x, .bool true]) (by simp [results, Tryd.results12, go_sem]) rfl ?_
      refine ⟨bt (unhide HB3) (unhide HB4), v, x, by rw [unhide HE]; rfl, by rw [unhide HE]; exact unhide HX, by rw [unhide HE]; exact own_base (unhide HB3).size (unhide HO)⟩
end Go.Proofs.YtpmpjbnnjdpbnaaDoor
