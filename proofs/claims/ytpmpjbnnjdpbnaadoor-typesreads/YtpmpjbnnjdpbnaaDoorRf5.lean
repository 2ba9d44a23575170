/- Contracts of the reference's Nilable, Fits, Equals; texts. -/
import Derived.Test.YtpmpjbnnjdpbnaaDoorRf4
set_option linter.unusedVariables false
namespace Go.Proofs.YtpmpjbnnjdpbnaaDoor
open Go.RowKit Go.Proofs.YtpmpjbnnjdpbnaaDoor.Lx

set_option maxRecDepth 100000 in
set_option maxHeartbeats 400000 in
theorem rnil_P (s : ByteArray) (w : World) (hs : s.size ≤ 10000) (hv : vd s.toList = true) (hP : [42].isPrefixOf s.toList = true) :
    Calls Tryd.prog 17 #[.string s] w fun e w' => e = .returned (.bool true) ∧ Below w.heap.size w w' := by
  have HV := hide (rvalid_any s w hs)
  rw [hv] at HV
  clear hv
  go_enter Tryd.func17, Tryd.ntmps17
  go_wp2_with fail
  refine (unhide HV).mono ?_
  rintro e w3 ⟨rfl, hb3⟩
  have HB3 := hide hb3
  clear hb3
  have HP := hide (begs [42] s w3 true hP)
  clear hP
  go_wp2_with fail
  refine (unhide HP).mono ?_
  rintro e w' ⟨rfl, hww⟩
  rw [hww]
  clear hww
  go_wp2_with fail
  go_ret
  exact ⟨rfl, unhide HB3⟩
set_option maxRecDepth 100000 in
set_option maxHeartbeats 400000 in
theorem rnil_L (s : ByteArray) (w : World) (hs : s.size ≤ 10000) (hv : vd s.toList = true) (hP : [42].isPrefixOf s.toList = false) (hL : [91, 93].isPrefixOf s.toList = true) :
    Calls Tryd.prog 17 #[.string s] w fun e w' => e = .returned (.bool true) ∧ Below w.heap.size w w' := by
  have HV := hide (rvalid_any s w hs)
  rw [hv] at HV
  clear hv
  go_enter Tryd.func17, Tryd.ntmps17
  go_wp2_with fail
  refine (unhide HV).mono ?_
  rintro e w3 ⟨rfl, hb3⟩
  have HB3 := hide hb3
  clear hb3
  have HP := hide (begs [42] s w3 false hP)
  have HL := hide (begs [91, 93] s w3 true hL)
  clear hP hL
  go_wp2_with fail
  refine (unhide HP).mono ?_
  rintro e w' ⟨rfl, hww⟩
  rw [hww]
  clear hww
  go_wp2_with fail
  refine (unhide HL).mono ?_
  rintro e w' ⟨rfl, hww⟩
  rw [hww]
  clear hww
  go_wp2_with fail
  go_ret
  exact ⟨rfl, unhide HB3⟩
set_option maxRecDepth 100000 in
set_option maxHeartbeats 400000 in
theorem rnil_C (s : ByteArray) (w : World) (hs : s.size ≤ 10000) (hv : vd s.toList = true) (hP : [42].isPrefixOf s.toList = false) (hL : [91, 93].isPrefixOf s.toList = false) (hC : [99, 104, 97, 110, 32].isPrefixOf s.toList = true) :
    Calls Tryd.prog 17 #[.string s] w fun e w' => e = .returned (.bool true) ∧ Below w.heap.size w w' := by
  have HV := hide (rvalid_any s w hs)
  rw [hv] at HV
  clear hv
  go_enter Tryd.func17, Tryd.ntmps17
  go_wp2_with fail
  refine (unhide HV).mono ?_
  rintro e w3 ⟨rfl, hb3⟩
  have HB3 := hide hb3
  clear hb3
  have HP := hide (begs [42] s w3 false hP)
  have HL := hide (begs [91, 93] s w3 false hL)
  have HC := hide (begs [99, 104, 97, 110, 32] s w3 true hC)
  clear hP hL hC
  go_wp2_with fail
  refine (unhide HP).mono ?_
  rintro e w' ⟨rfl, hww⟩
  rw [hww]
  clear hww
  go_wp2_with fail
  refine (unhide HL).mono ?_
  rintro e w' ⟨rfl, hww⟩
  rw [hww]
  clear hww
  go_wp2_with fail
  refine (unhide HC).mono ?_
  rintro e w' ⟨rfl, hww⟩
  rw [hww]
  clear hww
  go_wp2_with fail
  go_ret
  exact ⟨rfl, unhide HB3⟩
set_option maxRecDepth 100000 in
set_option maxHeartbeats 400000 in
theorem rnil_F (s : ByteArray) (w : World) (hs : s.size ≤ 10000) (hv : vd s.toList = true) (hP : [42].isPrefixOf s.toList = false) (hL : [91, 93].isPrefixOf s.toList = false) (hC : [99, 104, 97, 110, 32].isPrefixOf s.toList = false) (hF : [102, 117, 110, 99, 40].isPrefixOf s.toList = true) :
    Calls Tryd.prog 17 #[.string s] w fun e w' => e = .returned (.bool true) ∧ Below w.heap.size w w' := by
  have HV := hide (rvalid_any s w hs)
  rw [hv] at HV
  clear hv
  go_enter Tryd.func17, Tryd.ntmps17
  go_wp2_with fail
  refine (unhide HV).mono ?_
  rintro e w3 ⟨rfl, hb3⟩
  have HB3 := hide hb3
  clear hb3
  have HP := hide (begs [42] s w3 false hP)
  have HL := hide (begs [91, 93] s w3 false hL)
  have HC := hide (begs [99, 104, 97, 110, 32] s w3 false hC)
  have HF := hide (begs [102, 117, 110, 99, 40] s w3 true hF)
  clear hP hL hC hF
  go_wp2_with fail
  refine (unhide HP).mono ?_
  rintro e w' ⟨rfl, hww⟩
  rw [hww]
  clear hww
  go_wp2_with fail
  refine (unhide HL).mono ?_
  rintro e w' ⟨rfl, hww⟩
  rw [hww]
  clear hww
  go_wp2_with fail
  refine (unhide HC).mono ?_
  rintro e w' ⟨rfl, hww⟩
  rw [hww]
  clear hww
  go_wp2_with fail
  refine (unhide HF).mono ?_
  rintro e w' ⟨rfl, hww⟩
  rw [hww]
  clear hww
  go_wp2_with fail
  go_ret
  exact ⟨rfl, unhide HB3⟩
set_option maxRecDepth 100000 in
set_option maxHeartbeats 400000 in
theorem rnil_N (s : ByteArray) (w : World) (hs : s.size ≤ 10000) (hv : vd s.toList = true) (hP : [42].isPrefixOf s.toList = false) (hL : [91, 93].isPrefixOf s.toList = false) (hC : [99, 104, 97, 110, 32].isPrefixOf s.toList = false) (hF : [102, 117, 110, 99, 40].isPrefixOf s.toList = false) :
    Calls Tryd.prog 17 #[.string s] w fun e w' => e = .returned (.bool false) ∧ Below w.heap.size w w' := by
  have HV := hide (rvalid_any s w hs)
  rw [hv] at HV
  clear hv
  go_enter Tryd.func17, Tryd.ntmps17
  go_wp2_with fail
  refine (unhide HV).mono ?_
  rintro e w3 ⟨rfl, hb3⟩
  have HB3 := hide hb3
  clear hb3
  have HP := hide (begs [42] s w3 false hP)
  have HL := hide (begs [91, 93] s w3 false hL)
  have HC := hide (begs [99, 104, 97, 110, 32] s w3 false hC)
  have HF := hide (begs [102, 117, 110, 99, 40] s w3 false hF)
  clear hP hL hC hF
  go_wp2_with fail
  refine (unhide HP).mono ?_
  rintro e w' ⟨rfl, hww⟩
  rw [hww]
  clear hww
  go_wp2_with fail
  refine (unhide HL).mono ?_
  rintro e w' ⟨rfl, hww⟩
  rw [hww]
  clear hww
  go_wp2_with fail
  refine (unhide HC).mono ?_
  rintro e w' ⟨rfl, hww⟩
  rw [hww]
  clear hww
  go_wp2_with fail
  refine (unhide HF).mono ?_
  rintro e w' ⟨rfl, hww⟩
  rw [hww]
  clear hww
  go_wp2_with fail
  go_ret
  exact ⟨rfl, unhide HB3⟩
theorem rnil_any (s : ByteArray) (w : World) (hs : s.size ≤ 10000) :
    Calls Tryd.prog 17 #[.string s] w fun e w' => e = .returned (.bool (nilF s.toList)) ∧ Below w.heap.size w w' := by
  have e0 : nilF s.toList = (([42].isPrefixOf s.toList || [91, 93].isPrefixOf s.toList || [99, 104, 97, 110, 32].isPrefixOf s.toList || [102, 117, 110, 99, 40].isPrefixOf s.toList) && vd s.toList) := rfl
  cases hv : vd s.toList with
  | false =>
    have e : nilF s.toList = false := by rw [e0, hv]; simp
    rw [e]
    have HV := hide (rvalid_any s w hs)
    rw [hv] at HV
    clear e0 e hv
    go_enter Tryd.func17, Tryd.ntmps17
    go_wp2_with fail
    refine (unhide HV).mono ?_
    rintro e w3 ⟨rfl, hb3⟩
    have HB3 := hide hb3
    clear hb3
    go_wp2_with fail
    go_ret
    exact ⟨rfl, unhide HB3⟩
  | true =>
  cases hP : ([42] : List UInt8).isPrefixOf s.toList with
  | true =>
    have e : nilF s.toList = true := by rw [e0, hP, hv]; simp
    rw [e]; exact rnil_P s w hs hv hP
  | false =>
  cases hL : ([91, 93] : List UInt8).isPrefixOf s.toList with
  | true =>
    have e : nilF s.toList = true := by rw [e0, hP, hL, hv]; simp
    rw [e]; exact rnil_L s w hs hv hP hL
  | false =>
  cases hC : ([99, 104, 97, 110, 32] : List UInt8).isPrefixOf s.toList with
  | true =>
    have e : nilF s.toList = true := by rw [e0, hP, hL, hC, hv]; simp
    rw [e]; exact rnil_C s w hs hv hP hL hC
  | false =>
  cases hF : ([102, 117, 110, 99, 40] : List UInt8).isPrefixOf s.toList with
  | true =>
    have e : nilF s.toList = true := by rw [e0, hP, hL, hC, hF, hv]; simp
    rw [e]; exact rnil_F s w hs hv hP hL hC hF
  | false =>
    have e : nilF s.toList = false := by rw [e0, hP, hL, hC, hF]; simp
    rw [e]; exact rnil_N s w hs hv hP hL hC hF
theorem nil_vd {l : List UInt8} (h : vd l = false) : nilF l = false := by unfold nilF; rw [h]; simp
theorem nil_no : nilF tN = false := by kernel_rfl
set_option maxRecDepth 100000 in
set_option maxHeartbeats 400000 in
theorem rfits_any (a b : ByteArray) (w : World) (hs : b.size ≤ 10000) :
    Calls Tryd.prog 21 #[.string a, .string b] w fun e w' => e = .returned (.bool (fitF a.toList b.toList)) ∧ Below w.heap.size w w' := by
  have HE : Hid (fitF a.toList b.toList = (((a.toList == b.toList) && vd b.toList) || ((a.toList == [110, 105, 108]) && nilF b.toList))) := rfl
  have HV := hide (rvalid_any b w hs)
  cases hv : vd b.toList with
  | false =>
    rw [hv, nil_vd hv] at HE
    rw [hv] at HV
    go_enter Tryd.func21, Tryd.ntmps21
    go_wp2_with fail
    refine (unhide HV).mono ?_
    rintro e w3 ⟨rfl, hb3⟩
    have HB3 := hide hb3
    clear hb3
    go_wp2_with fail
    go_ret
    exact ⟨ret_bool (by rw [unhide HE]; simp), unhide HB3⟩
  | true =>
    rw [hv] at HE HV
    cases hab : (a.toList == b.toList) with
    | true =>
      rw [hab] at HE
      go_enter Tryd.func21, Tryd.ntmps21
      go_wp2_with fail
      refine (unhide HV).mono ?_
      rintro e w3 ⟨rfl, hb3⟩
      have HB3 := hide hb3
      clear hb3
      go_wp2_with fail
      go_ret
      exact ⟨ret_bool (by rw [unhide HE]; simp), unhide HB3⟩
    | false =>
      rw [hab] at HE
      cases hn : (a.toList == [110, 105, 108]) with
      | true =>
        rw [hn] at HE
        go_enter Tryd.func21, Tryd.ntmps21
        go_wp2_with fail
        refine (unhide HV).mono ?_
        rintro e w3 ⟨rfl, hb3⟩
        have HB3 := hide hb3
        have HN := hide (rnil_any b w3 hs)
        clear hb3
        go_wp2_with fail
        refine (unhide HN).mono ?_
        rintro e w4 ⟨rfl, hb4⟩
        have HB4 := hide hb4
        clear hb4
        go_wp2_with fail
        go_ret
        exact ⟨ret_bool (by rw [unhide HE]; simp), bt (unhide HB3) (unhide HB4)⟩
      | false =>
        rw [hn] at HE
        go_enter Tryd.func21, Tryd.ntmps21
        go_wp2_with fail
        refine (unhide HV).mono ?_
        rintro e w3 ⟨rfl, hb3⟩
        have HB3 := hide hb3
        clear hb3
        go_wp2_with fail
        go_ret
        exact ⟨ret_bool (by rw [unhide HE]; simp), unhide HB3⟩
set_option maxRecDepth 100000 in
set_option maxHeartbeats 400000 in
theorem req_I (a b : ByteArray) (w : World) (ha : a.size ≤ 10000) (hb : b.size ≤ 10000) (n1 : (a.toList == [110, 105, 108]) = false) (n2 : (b.toList == [110, 105, 108]) = false) (h3 : (a.toList == b.toList) = true) (hv : vd a.toList = true) (qI : (a.toList == [105, 110, 116]) = true) :
    Calls Tryd.prog 23 #[.string a, .string b] w fun e w' => e = .returned (.bool true) ∧ Below w.heap.size w w' := by
  have HV := hide (rvalid_any a w ha)
  rw [hv] at HV
  clear hv
  go_enter Tryd.func23, Tryd.ntmps23
  go_wp2_with fail
  refine (unhide HV).mono ?_
  rintro e w3 ⟨rfl, hb3⟩
  have HB3 := hide hb3
  clear hb3
  go_wp2_with fail
  go_ret
  exact ⟨rfl, unhide HB3⟩
set_option maxRecDepth 100000 in
set_option maxHeartbeats 400000 in
theorem req_B (a b : ByteArray) (w : World) (ha : a.size ≤ 10000) (hb : b.size ≤ 10000) (n1 : (a.toList == [110, 105, 108]) = false) (n2 : (b.toList == [110, 105, 108]) = false) (h3 : (a.toList == b.toList) = true) (hv : vd a.toList = true) (qI : (a.toList == [105, 110, 116]) = false) (qB : (a.toList == [98, 111, 111, 108]) = true) :
    Calls Tryd.prog 23 #[.string a, .string b] w fun e w' => e = .returned (.bool true) ∧ Below w.heap.size w w' := by
  have HV := hide (rvalid_any a w ha)
  rw [hv] at HV
  clear hv
  go_enter Tryd.func23, Tryd.ntmps23
  go_wp2_with fail
  refine (unhide HV).mono ?_
  rintro e w3 ⟨rfl, hb3⟩
  have HB3 := hide hb3
  clear hb3
  go_wp2_with fail
  go_ret
  exact ⟨rfl, unhide HB3⟩
set_option maxRecDepth 100000 in
set_option maxHeartbeats 400000 in
theorem req_S (a b : ByteArray) (w : World) (ha : a.size ≤ 10000) (hb : b.size ≤ 10000) (n1 : (a.toList == [110, 105, 108]) = false) (n2 : (b.toList == [110, 105, 108]) = false) (h3 : (a.toList == b.toList) = true) (hv : vd a.toList = true) (qI : (a.toList == [105, 110, 116]) = false) (qB : (a.toList == [98, 111, 111, 108]) = false) (qS : (a.toList == [115, 116, 114, 105, 110, 103]) = true) :
    Calls Tryd.prog 23 #[.string a, .string b] w fun e w' => e = .returned (.bool true) ∧ Below w.heap.size w w' := by
  have HV := hide (rvalid_any a w ha)
  rw [hv] at HV
  clear hv
  go_enter Tryd.func23, Tryd.ntmps23
  go_wp2_with fail
  refine (unhide HV).mono ?_
  rintro e w3 ⟨rfl, hb3⟩
  have HB3 := hide hb3
  clear hb3
  go_wp2_with fail
  go_ret
  exact ⟨rfl, unhide HB3⟩
set_option maxRecDepth 100000 in
set_option maxHeartbeats 400000 in
theorem req_P (a b : ByteArray) (w : World) (ha : a.size ≤ 10000) (hb : b.size ≤ 10000) (n1 : (a.toList == [110, 105, 108]) = false) (n2 : (b.toList == [110, 105, 108]) = false) (h3 : (a.toList == b.toList) = true) (hv : vd a.toList = true) (qI : (a.toList == [105, 110, 116]) = false) (qB : (a.toList == [98, 111, 111, 108]) = false) (qS : (a.toList == [115, 116, 114, 105, 110, 103]) = false) (hP : [42].isPrefixOf a.toList = true) :
    Calls Tryd.prog 23 #[.string a, .string b] w fun e w' => e = .returned (.bool true) ∧ Below w.heap.size w w' := by
  have HV := hide (rvalid_any a w ha)
  rw [hv] at HV
  clear hv
  go_enter Tryd.func23, Tryd.ntmps23
  go_wp2_with fail
  refine (unhide HV).mono ?_
  rintro e w3 ⟨rfl, hb3⟩
  have HB3 := hide hb3
  clear hb3
  have HP := hide (begs [42] a w3 true hP)
  clear hP
  go_wp2_with fail
  refine (unhide HP).mono ?_
  rintro e w' ⟨rfl, hww⟩
  rw [hww]
  clear hww
  go_wp2_with fail
  go_ret
  exact ⟨rfl, unhide HB3⟩
set_option maxRecDepth 100000 in
set_option maxHeartbeats 400000 in
theorem req_C (a b : ByteArray) (w : World) (ha : a.size ≤ 10000) (hb : b.size ≤ 10000) (n1 : (a.toList == [110, 105, 108]) = false) (n2 : (b.toList == [110, 105, 108]) = false) (h3 : (a.toList == b.toList) = true) (hv : vd a.toList = true) (qI : (a.toList == [105, 110, 116]) = false) (qB : (a.toList == [98, 111, 111, 108]) = false) (qS : (a.toList == [115, 116, 114, 105, 110, 103]) = false) (hP : [42].isPrefixOf a.toList = false) (hC : [99, 104, 97, 110, 32].isPrefixOf a.toList = true) :
    Calls Tryd.prog 23 #[.string a, .string b] w fun e w' => e = .returned (.bool true) ∧ Below w.heap.size w w' := by
  have HV := hide (rvalid_any a w ha)
  rw [hv] at HV
  clear hv
  go_enter Tryd.func23, Tryd.ntmps23
  go_wp2_with fail
  refine (unhide HV).mono ?_
  rintro e w3 ⟨rfl, hb3⟩
  have HB3 := hide hb3
  clear hb3
  have HP := hide (begs [42] a w3 false hP)
  have HC := hide (begs [99, 104, 97, 110, 32] a w3 true hC)
  clear hP hC
  go_wp2_with fail
  refine (unhide HP).mono ?_
  rintro e w' ⟨rfl, hww⟩
  rw [hww]
  clear hww
  go_wp2_with fail
  refine (unhide HC).mono ?_
  rintro e w' ⟨rfl, hww⟩
  rw [hww]
  clear hww
  go_wp2_with fail
  go_ret
  exact ⟨rfl, unhide HB3⟩
set_option maxRecDepth 100000 in
set_option maxHeartbeats 400000 in
theorem req_N (a b : ByteArray) (w : World) (ha : a.size ≤ 10000) (hb : b.size ≤ 10000) (n1 : (a.toList == [110, 105, 108]) = false) (n2 : (b.toList == [110, 105, 108]) = false) (h3 : (a.toList == b.toList) = true) (hv : vd a.toList = true) (qI : (a.toList == [105, 110, 116]) = false) (qB : (a.toList == [98, 111, 111, 108]) = false) (qS : (a.toList == [115, 116, 114, 105, 110, 103]) = false) (hP : [42].isPrefixOf a.toList = false) (hC : [99, 104, 97, 110, 32].isPrefixOf a.toList = false) :
    Calls Tryd.prog 23 #[.string a, .string b] w fun e w' => e = .returned (.bool false) ∧ Below w.heap.size w w' := by
  have HV := hide (rvalid_any a w ha)
  rw [hv] at HV
  clear hv
  go_enter Tryd.func23, Tryd.ntmps23
  go_wp2_with fail
  refine (unhide HV).mono ?_
  rintro e w3 ⟨rfl, hb3⟩
  have HB3 := hide hb3
  clear hb3
  have HP := hide (begs [42] a w3 false hP)
  have HC := hide (begs [99, 104, 97, 110, 32] a w3 false hC)
  clear hP hC
  go_wp2_with fail
  refine (unhide HP).mono ?_
  rintro e w' ⟨rfl, hww⟩
  rw [hww]
  clear hww
  go_wp2_with fail
  refine (unhide HC).mono ?_
  rintro e w' ⟨rfl, hww⟩
  rw [hww]
  clear hww
  go_wp2_with fail
  go_ret
  exact ⟨rfl, unhide HB3⟩
theorem base_nil {p r : List UInt8} (h : hd (p ++ r) = .base r) (hv : vd (p ++ r) = true) : r = [] := (ty_det (.base h) _ ((vd_ty _).1 hv))
theorem ne_head {p q r : List UInt8} (h : p.head? ≠ q.head?) (hq : q ≠ []) : ((p ++ r) == q) = false ∨ p = [] := by
  cases p with
  | nil => exact .inr rfl
  | cons x p =>
    left
    rw [beq_eq_false_iff_ne]
    intro e
    rw [← e] at h
    simp at h
theorem nepre {p q : List UInt8} (r : List UInt8) (h : p.head? ≠ q.head?) (hp : p ≠ []) (hq : q ≠ []) : q.isPrefixOf (p ++ r) = false := cut_npre (cutx (p := q) (q := p) r (Ne.symm h) hq hp)
theorem nehd {p q : List UInt8} (r : List UInt8) (h : p.head? ≠ q.head?) (hp : p ≠ []) (hq : q ≠ []) : ((p ++ r) == q) = false := by
  rcases ne_head (r := r) h hq with e | e
  · exact e
  · exact absurd e hp
theorem isp (p r : List UInt8) : p.isPrefixOf (p ++ r) = true := cut_pre (cut_app p r)
theorem req_v (a b : ByteArray) (w : World) (ha : a.size ≤ 10000) (hb : b.size ≤ 10000) (n1 : (a.toList == [110, 105, 108]) = false) (n2 : (b.toList == [110, 105, 108]) = false) (h3 : (a.toList == b.toList) = true) (hv : vd a.toList = true) : Calls Tryd.prog 23 #[.string a, .string b] w fun e w' => e = .returned (.bool (eqsF a.toList)) ∧ Below w.heap.size w w' := by
  have H := hd_is a.toList
  generalize hl : a.toList = l at H
  obtain ⟨z, hz, hy⟩ : ∃ z, z = ([] : List UInt8) ∧ Ty 0 l z := ⟨[], rfl, by rw [← hl]; exact (vd_ty _).1 hv⟩
  generalize hx : hd l = x at H
  cases H with
  | L r =>
    have e : eqsF a.toList = false := by
      unfold eqsF
      rw [hl, isp tL r]; simp
    rw [← hl, e]
    exact req_N a b w ha hb n1 n2 h3 hv (by rw [hl]; exact nehd (p := tL) (q := tI) r (by decide) (by decide) (by decide)) (by rw [hl]; exact nehd (p := tL) (q := tB) r (by decide) (by decide) (by decide)) (by rw [hl]; exact nehd (p := tL) (q := tS) r (by decide) (by decide) (by decide)) (by rw [hl]; exact nepre (p := tL) (q := tP) r (by decide) (by decide) (by decide)) (by rw [hl]; exact nepre (p := tL) (q := tC) r (by decide) (by decide) (by decide))
  | C r =>
    have e : eqsF a.toList = true := by
      unfold eqsF
      rw [hv, hl, nepre (p := tC) (q := tL) r (by decide) (by decide) (by decide), nepre (p := tC) (q := tF) r (by decide) (by decide) (by decide)]; rfl
    rw [← hl, e]
    exact req_C a b w ha hb n1 n2 h3 hv (by rw [hl]; exact nehd (p := tC) (q := tI) r (by decide) (by decide) (by decide)) (by rw [hl]; exact nehd (p := tC) (q := tB) r (by decide) (by decide) (by decide)) (by rw [hl]; exact nehd (p := tC) (q := tS) r (by decide) (by decide) (by decide)) (by rw [hl]; exact nepre (p := tC) (q := tP) r (by decide) (by decide) (by decide)) (by rw [hl]; exact isp tC r)
  | F r =>
    have e : eqsF a.toList = false := by
      unfold eqsF
      rw [hl, isp tF r]; simp
    rw [← hl, e]
    exact req_N a b w ha hb n1 n2 h3 hv (by rw [hl]; exact nehd (p := tF) (q := tI) r (by decide) (by decide) (by decide)) (by rw [hl]; exact nehd (p := tF) (q := tB) r (by decide) (by decide) (by decide)) (by rw [hl]; exact nehd (p := tF) (q := tS) r (by decide) (by decide) (by decide)) (by rw [hl]; exact nepre (p := tF) (q := tP) r (by decide) (by decide) (by decide)) (by rw [hl]; exact nepre (p := tF) (q := tC) r (by decide) (by decide) (by decide))
  | I r =>
    have hr : r = [] := base_nil (hdI r) (by rw [← hl]; exact hv)
    have e : eqsF a.toList = true := by
      unfold eqsF
      rw [hv, hl, nepre (p := tI) (q := tL) r (by decide) (by decide) (by decide), nepre (p := tI) (q := tF) r (by decide) (by decide) (by decide)]; rfl
    rw [← hl, e]
    exact req_I a b w ha hb n1 n2 h3 hv (by rw [hl, hr, List.append_nil]; decide)
  | B r =>
    have hr : r = [] := base_nil (hdB r) (by rw [← hl]; exact hv)
    have e : eqsF a.toList = true := by
      unfold eqsF
      rw [hv, hl, nepre (p := tB) (q := tL) r (by decide) (by decide) (by decide), nepre (p := tB) (q := tF) r (by decide) (by decide) (by decide)]; rfl
    rw [← hl, e]
    exact req_B a b w ha hb n1 n2 h3 hv (by rw [hl]; exact nehd (p := tB) (q := tI) _ (by decide) (by decide) (by decide)) (by rw [hl, hr, List.append_nil]; decide)
  | S r =>
    have hr : r = [] := base_nil (hdS r) (by rw [← hl]; exact hv)
    have e : eqsF a.toList = true := by
      unfold eqsF
      rw [hv, hl, nepre (p := tS) (q := tL) r (by decide) (by decide) (by decide), nepre (p := tS) (q := tF) r (by decide) (by decide) (by decide)]; rfl
    rw [← hl, e]
    exact req_S a b w ha hb n1 n2 h3 hv (by rw [hl]; exact nehd (p := tS) (q := tI) _ (by decide) (by decide) (by decide)) (by rw [hl]; exact nehd (p := tS) (q := tB) _ (by decide) (by decide) (by decide)) (by rw [hl, hr, List.append_nil]; decide)
  | P r =>
    have e : eqsF a.toList = true := by
      unfold eqsF
      rw [hv, hl, nepre (p := tP) (q := tL) r (by decide) (by decide) (by decide), nepre (p := tP) (q := tF) r (by decide) (by decide) (by decide)]; rfl
    rw [← hl, e]
    exact req_P a b w ha hb n1 n2 h3 hv (by rw [hl]; exact nehd (p := tP) (q := tI) r (by decide) (by decide) (by decide)) (by rw [hl]; exact nehd (p := tP) (q := tB) r (by decide) (by decide) (by decide)) (by rw [hl]; exact nehd (p := tP) (q := tS) r (by decide) (by decide) (by decide)) (by rw [hl]; exact isp tP r)
  | no =>
    cases hy with
    | wrap h => rw [hx] at h; cases h
    | base h => rw [hx] at h; cases h
    | ptr h => rw [hx] at h; cases h
    | fn0 h => rw [hx] at h; cases h
    | fn1 h => rw [hx] at h; cases h
set_option maxRecDepth 100000 in
set_option maxHeartbeats 400000 in
theorem requals_any (a b : ByteArray) (w : World) (ha : a.size ≤ 10000) (hb : b.size ≤ 10000) :
    Calls Tryd.prog 23 #[.string a, .string b] w fun e w' => e = .returned (.bool (eqF a.toList b.toList)) ∧ Below w.heap.size w w' := by
  have HE : Hid (eqF a.toList b.toList = if (a.toList == [110, 105, 108]) = true then nilF b.toList else if (b.toList == [110, 105, 108]) = true then nilF a.toList else (a.toList == b.toList) && eqsF a.toList) := rfl
  cases h1 : (a.toList == [110, 105, 108]) with
  | true =>
    rw [h1, if_pos rfl] at HE
    have HN := hide (rnil_any b w hb)
    cases hn : nilF b.toList with
    | true =>
      rw [hn] at HN HE
      go_enter Tryd.func23, Tryd.ntmps23
      go_wp2_with fail
      refine (unhide HN).mono ?_
      rintro e w3 ⟨rfl, hb3⟩
      have HB3 := hide hb3
      clear hb3
      go_wp2_with fail
      go_ret
      exact ⟨ret_bool (unhide HE).symm, unhide HB3⟩
    | false =>
      rw [hn] at HN HE
      cases h2 : (b.toList == [110, 105, 108]) with
      | true =>
        have HA0 : Hid (nilF a.toList = false) := by
          show nilF a.toList = false
          rw [beq_iff_eq.1 h1]; exact nil_no
        go_enter Tryd.func23, Tryd.ntmps23
        go_wp2_with fail
        refine (unhide HN).mono ?_
        rintro e w3 ⟨rfl, hb3⟩
        have HB3 := hide hb3
        have HA := hide (rnil_any a w3 ha)
        rw [unhide HA0] at HA
        clear hb3
        go_wp2_with fail
        refine (unhide HA).mono ?_
        rintro e w4 ⟨rfl, hb4⟩
        have HB4 := hide hb4
        clear hb4
        go_wp2_with fail
        go_ret
        exact ⟨ret_bool (unhide HE).symm, bt (unhide HB3) (unhide HB4)⟩
      | false =>
        go_enter Tryd.func23, Tryd.ntmps23
        go_wp2_with fail
        refine (unhide HN).mono ?_
        rintro e w3 ⟨rfl, hb3⟩
        have HB3 := hide hb3
        clear hb3
        go_wp2_with fail
        go_ret
        exact ⟨ret_bool (unhide HE).symm, unhide HB3⟩
  | false =>
    rw [h1, if_neg (by simp)] at HE
    cases h2 : (b.toList == [110, 105, 108]) with
    | true =>
      rw [h2, if_pos rfl] at HE
      have HA := hide (rnil_any a w ha)
      go_enter Tryd.func23, Tryd.ntmps23
      go_wp2_with fail
      refine (unhide HA).mono ?_
      rintro e w4 ⟨rfl, hb4⟩
      have HB4 := hide hb4
      clear hb4
      go_wp2_with fail
      go_ret
      exact ⟨ret_bool (unhide HE).symm, unhide HB4⟩
    | false =>
      rw [h2, if_neg (by simp)] at HE
      cases h3 : (a.toList == b.toList) with
      | false =>
        rw [h3] at HE
        go_enter Tryd.func23, Tryd.ntmps23
        go_wp2_with fail
        go_ret
        exact ⟨ret_bool (by rw [unhide HE]; simp), Below.refl _ _⟩
      | true =>
        rw [h3] at HE
        cases hv : vd a.toList with
        | true =>
          have e : eqF a.toList b.toList = eqsF a.toList := by rw [unhide HE]; simp
          rw [e]; exact req_v a b w ha hb h1 h2 h3 hv
        | false =>
          have HV := hide (rvalid_any a w ha)
          have HX : Hid (eqsF a.toList = false) := by show eqsF a.toList = false; unfold eqsF; rw [hv]; simp
          rw [hv] at HV
          go_enter Tryd.func23, Tryd.ntmps23
          go_wp2_with fail
          refine (unhide HV).mono ?_
          rintro e w4 ⟨rfl, hb4⟩
          have HB4 := hide hb4
          clear hb4
          go_wp2_with fail
          go_ret
          exact ⟨ret_bool (by rw [unhide HE, unhide HX]; simp), unhide HB4⟩
set_option maxRecDepth 100000 in
set_option maxHeartbeats 400000 in
theorem texts_same (ps : List (List UInt8)) (b1 b2 : Nat) (v1 v2 : Value) (w : World) (hn : ps.length ≤ 100000) (h1 : w.ownsRow b1 9 1 v1 ps.length (strs ps)) (h2 : w.ownsRow b2 9 1 v2 ps.length (strs ps)) :
    Calls Tryd.prog 15 #[v1, v2] w fun e w' => e = .returned (.bool true) ∧ w' = w := by
  obtain ⟨a1, c1, e1⟩ := own_form h1
  obtain ⟨a2, c2, e2⟩ := own_form h2
  subst e1
  subst e2
  have H1 := hide h1
  have H2 := hide h2
  clear h1 h2
  go_enter Tryd.func15, Tryd.ntmps15
  go_wp2_with fail
  go_loopg [5, 6, 14] ps.length (fun g _ _ v14 wx => ∃ i : Nat, g = ps.length - i ∧ i ≤ ps.length ∧ v14 = .int .i64 i ∧ wx = w)
  case atStart => exact ⟨0, by omega, by omega, rfl, rfl⟩
  case round =>
    obtain ⟨i, rfl, hi, rfl, hwx⟩ := hrel
    have hw2 := hwx.symm
    clear hwx
    subst hw2
    by_cases hlt : i < ps.length
    · have hltz : (i : Int) < ps.length := by omega
      obtain ⟨g1, p1, q1, _, _, k1⟩ := own_strs (unhide H1) (by omega)
      obtain ⟨g2, p2, q2, _, _, k2⟩ := own_strs (unhide H2) (by omega)
      obtain ⟨rfl, rfl⟩ : a1 = some ⟨g1, 0, none⟩ ∧ c1 = p1 := by simpa using q1
      obtain ⟨rfl, rfl⟩ : a2 = some ⟨g2, 0, none⟩ ∧ c2 = p2 := by simpa using q2
      have d1 := k1 i ps[i] (List.getElem?_eq_getElem hlt)
      have d2 := k2 i ps[i] (List.getElem?_eq_getElem hlt)
      clear k1 k2 q1 q2
      generalize ps[i] = x at *
      go_wp2_with fail
      go_roundg (ps.length - (i + 1))
      case measure => omega
      case rel => exact ⟨i + 1, rfl, by omega, by go_num, rfl⟩
    · have hltz : ¬ (i : Int) < ps.length := by omega
      go_wp2_with fail
      go_ret
      exact ⟨rfl, rfl⟩
end Go.Proofs.YtpmpjbnnjdpbnaaDoor
