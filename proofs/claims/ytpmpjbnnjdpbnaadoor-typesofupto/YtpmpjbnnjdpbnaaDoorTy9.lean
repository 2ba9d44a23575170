/- Contracts of Fits, Equals; the anchor. -/
import Derived.Test.YtpmpjbnnjdpbnaaDoorTy8
namespace Go.Proofs.YtpmpjbnnjdpbnaaDoor
open Go.RowKit Go.Proofs.YtpmpjbnnjdpbnaaDoor.Lx

def tN : List UInt8 := [110, 105, 108]
def fitF (a b : List UInt8) : Bool := ((a == b) && vd b) || ((a == tN) && nilF b)
set_option maxRecDepth 100000 in
set_option maxHeartbeats 400000 in
theorem fits_any (a b : ByteArray) (w : World) (hv : Vars w) (hs : b.size ≤ 1000000) :
    Calls Tryd.prog 20 #[.string a, .string b] w fun e w' => e = .returned (.bool (fitF a.toList b.toList)) ∧ Below w.heap.size w w' := by
  have HE : Hid (fitF a.toList b.toList = (((a.toList == b.toList) && vd b.toList) || ((a.toList == [110, 105, 108]) && nilF b.toList))) := rfl
  have HV := hide hv
  have HVd := hide (valid_any b w hv hs)
  have HNl := hide (nilable_any b w hv hs)
  clear hv
  cases hab : (a.toList == b.toList) with
  | true =>
    rw [hab] at HE
    cases hvd : vd b.toList with
    | true =>
      rw [hvd] at HE HVd
      clear hvd
      go_enter Tryd.func20, Tryd.ntmps20
      go_wp2_with fail
      refine (unhide HVd).mono ?_
      rintro e w2 ⟨rfl, hb2⟩
      have HB := hide hb2
      clear hb2
      go_wp2_with fail
      go_ret
      exact ⟨ret_bool (unhide HE).symm, unhide HB⟩
    | false =>
      rw [hvd] at HE HVd
      clear hvd
      cases hn : (a.toList == [110, 105, 108]) with
      | true =>
        rw [hn] at HE
        go_enter Tryd.func20, Tryd.ntmps20
        go_wp2_with fail
        refine (unhide HVd).mono ?_
        rintro e w2 ⟨rfl, hb2⟩
        have HN2 := hide (nilable_any b w2 ((unhide HV).in hb2) hs)
        have HB := hide hb2
        clear hb2
        go_wp2_with fail
        refine (unhide HN2).mono ?_
        rintro e w3 ⟨rfl, hb3⟩
        have HB3 := hide hb3
        clear hb3
        go_wp2_with fail
        go_ret
        exact ⟨ret_bool (unhide HE).symm, (unhide HB).trans ((unhide HB3).mono (unhide HB).size)⟩
      | false =>
        rw [hn] at HE
        go_enter Tryd.func20, Tryd.ntmps20
        go_wp2_with fail
        refine (unhide HVd).mono ?_
        rintro e w2 ⟨rfl, hb2⟩
        have HB := hide hb2
        clear hb2
        go_wp2_with fail
        go_ret
        exact ⟨ret_bool (unhide HE).symm, unhide HB⟩
  | false =>
    rw [hab] at HE
    cases hn : (a.toList == [110, 105, 108]) with
    | true =>
      rw [hn] at HE
      go_enter Tryd.func20, Tryd.ntmps20
      go_wp2_with fail
      refine (unhide HNl).mono ?_
      rintro e w3 ⟨rfl, hb3⟩
      have HB3 := hide hb3
      clear hb3
      go_wp2_with fail
      go_ret
      exact ⟨ret_bool (unhide HE).symm, unhide HB3⟩
    | false =>
      rw [hn] at HE
      go_enter Tryd.func20, Tryd.ntmps20
      go_wp2_with fail
      go_ret
      exact ⟨ret_bool (unhide HE).symm, Below.refl _ _⟩
def eqsF (l : List UInt8) : Bool := !(tL.isPrefixOf l || tF.isPrefixOf l) && vd l
set_option maxRecDepth 100000 in
set_option maxHeartbeats 400000 in
theorem eqs_any (s : ByteArray) (w : World) (hv : Vars w) (hs : s.size ≤ 1000000) :
    Calls Tryd.prog 35 #[.string s] w fun e w' => e = .returned (.bool (eqsF s.toList)) ∧ Below w.heap.size w w' := by
  have HE : Hid (eqsF s.toList = (!([91, 93].isPrefixOf s.toList || [102, 117, 110, 99, 40].isPrefixOf s.toList) && vd s.toList)) := rfl
  have HVd := hide (valid_any s w hv hs)
  clear hv
  cases hL : ([91, 93] : List UInt8).isPrefixOf s.toList with
  | true =>
    rw [hL] at HE
    have HL := hide (hasP [91, 93] s w true hL)
    clear hL
    go_enter Tryd.func35, Tryd.ntmps35
    go_wp2_with fail
    refine (unhide HL).mono ?_
    rintro e w2 ⟨rfl, rfl⟩
    go_wp2_with fail
    go_ret
    exact ⟨ret_bool (unhide HE).symm, Below.refl _ _⟩
  | false =>
    rw [hL] at HE
    have HL := hide (hasP [91, 93] s w false hL)
    clear hL
    cases hF : ([102, 117, 110, 99, 40] : List UInt8).isPrefixOf s.toList with
    | true =>
      rw [hF] at HE
      have HF := hide (hasP [102, 117, 110, 99, 40] s w true hF)
      clear hF
      go_enter Tryd.func35, Tryd.ntmps35
      go_wp2_with fail
      refine (unhide HL).mono ?_
      rintro e w2 ⟨rfl, rfl⟩
      go_wp2_with fail
      refine (unhide HF).mono ?_
      rintro e w2 ⟨rfl, rfl⟩
      go_wp2_with fail
      go_ret
      exact ⟨ret_bool (unhide HE).symm, Below.refl _ _⟩
    | false =>
      rw [hF] at HE
      have HF := hide (hasP [102, 117, 110, 99, 40] s w false hF)
      clear hF
      go_enter Tryd.func35, Tryd.ntmps35
      go_wp2_with fail
      refine (unhide HL).mono ?_
      rintro e w2 ⟨rfl, rfl⟩
      go_wp2_with fail
      refine (unhide HF).mono ?_
      rintro e w2 ⟨rfl, rfl⟩
      go_wp2_with fail
      refine (unhide HVd).mono ?_
      rintro e w2 ⟨rfl, hb2⟩
      have HB := hide hb2
      clear hb2
      go_wp2_with fail
      go_ret
      exact ⟨ret_bool (by rw [unhide HE]; simp), unhide HB⟩
def eqF (a b : List UInt8) : Bool := if (a == tN) = true then nilF b else if (b == tN) = true then nilF a else (a == b) && eqsF a
set_option maxRecDepth 100000 in
set_option maxHeartbeats 400000 in
theorem equals_any (a b : ByteArray) (w : World) (hv : Vars w) (ha : a.size ≤ 1000000) (hb : b.size ≤ 1000000) :
    Calls Tryd.prog 22 #[.string a, .string b] w fun e w' => e = .returned (.bool (eqF a.toList b.toList)) ∧ Below w.heap.size w w' := by
  have HE : Hid (eqF a.toList b.toList = if (a.toList == [110, 105, 108]) = true then nilF b.toList else if (b.toList == [110, 105, 108]) = true then nilF a.toList else (a.toList == b.toList) && eqsF a.toList) := rfl
  have HA := hide (nilable_any a w hv ha)
  have HB := hide (nilable_any b w hv hb)
  have HQ := hide (eqs_any a w hv ha)
  clear hv
  cases h1 : (a.toList == [110, 105, 108]) with
  | true =>
    rw [h1, if_pos rfl] at HE
    go_enter Tryd.func22, Tryd.ntmps22
    go_wp2_with fail
    refine (unhide HB).mono ?_
    rintro e w2 ⟨rfl, hb2⟩
    have HB2 := hide hb2
    clear hb2
    go_wp2_with fail
    go_ret
    exact ⟨ret_bool (unhide HE).symm, unhide HB2⟩
  | false =>
    rw [h1, if_neg (by simp)] at HE
    cases h2 : (b.toList == [110, 105, 108]) with
    | true =>
      rw [h2, if_pos rfl] at HE
      go_enter Tryd.func22, Tryd.ntmps22
      go_wp2_with fail
      refine (unhide HA).mono ?_
      rintro e w2 ⟨rfl, hb2⟩
      have HB2 := hide hb2
      clear hb2
      go_wp2_with fail
      go_ret
      exact ⟨ret_bool (unhide HE).symm, unhide HB2⟩
    | false =>
      rw [h2, if_neg (by simp)] at HE
      cases h3 : (a.toList == b.toList) with
      | true =>
        rw [h3] at HE
        go_enter Tryd.func22, Tryd.ntmps22
        go_wp2_with fail
        refine (unhide HQ).mono ?_
        rintro e w2 ⟨rfl, hb2⟩
        have HB2 := hide hb2
        clear hb2
        go_wp2_with fail
        go_ret
        exact ⟨ret_bool (by rw [unhide HE]; simp), unhide HB2⟩
      | false =>
        rw [h3] at HE
        go_enter Tryd.func22, Tryd.ntmps22
        go_wp2_with fail
        go_ret
        exact ⟨ret_bool (by rw [unhide HE]; simp), Below.refl _ _⟩
theorem bt {a b c : World} (h : Below a.heap.size a b) (k : Below b.heap.size b c) : Below a.heap.size a c := h.trans (k.mono h.size)
theorem own_strs {w : World} {base n : Nat} {v : Value} {ps : List (List UInt8)} (h : w.ownsRow base 9 1 v n (strs ps)) (hn : 0 < n) : ∃ g cap, v = .slice (some ⟨g, 0, none⟩) n cap ∧ base ≤ g ∧ g < w.heap.size ∧ ∀ (j : Nat) (x : List UInt8), ps[j]? = some x → w.cell? ⟨g, j, none⟩ = some (.string ⟨x.toArray⟩) := by
  obtain ⟨hl, h⟩ := h
  rcases h with ⟨_, h0⟩ | ⟨g, cap, cur, rfl, hg1, hg2, hc1, hc2, hc3, hc4⟩
  · omega
  refine ⟨g, cap, rfl, hg1, blk_lt hg2, ?_⟩
  intro j x hj
  have hlen : (strs ps).length = ps.length := by simp [strs]
  have hjl : j < ps.length := (List.getElem?_eq_some_iff.1 hj).1
  have e : (strs ps)[j]? = some (.string ⟨x.toArray⟩) := by simp [strs, hj]
  rw [← hc4, List.getElem?_take, if_pos (by omega)] at e
  have : w.cell? ⟨g, j, none⟩ = cur[j]? := by simp [World.cell?, hg2]
  rw [this]
  simpa using e
theorem anc_f : fnF [102, 117, 110, 99, 40, 105, 110, 116, 44, 102, 117, 110, 99, 40, 41, 98, 111, 111, 108, 41, 91, 93, 105, 110, 116] = some ([[105, 110, 116], [102, 117, 110, 99, 40, 41, 98, 111, 111, 108]], [91, 93, 105, 110, 116]) := by kernel_rfl
theorem anc_1 : fitF [110, 105, 108] [99, 104, 97, 110, 32, 105, 110, 116] = true := by kernel_rfl
theorem anc_2 : eqF [110, 105, 108] [91, 93, 105, 110, 116] = true := by kernel_rfl
theorem anc_3 : eqF [91, 93, 105, 110, 116] [91, 93, 105, 110, 116] = false := by kernel_rfl
set_option maxRecDepth 100000 in
set_option maxHeartbeats 800000 in
theorem anchor_any (w : World) (hv : Vars w) : Calls Tryd.prog 8 #[] w fun e w' => e = .returned (.bool true) ∧ Below w.heap.size w w' := by
  have HF := hide (func_any ⟨#[102, 117, 110, 99, 40, 105, 110, 116, 44, 102, 117, 110, 99, 40, 41, 98, 111, 111, 108, 41, 91, 93, 105, 110, 116]⟩ w hv (by decide))
  unfold FuncPost at HF
  rw [mk_toL, anc_f] at HF
  have HV := hide hv
  clear hv
  go_enter Tryd.func8, Tryd.ntmps8
  go_wp2_with fail
  refine (unhide HF).mono ?_
  rintro e w1 ⟨hb1, v, r, rfl, hr, hown⟩
  have HV1 := hide ((unhide HV).in hb1)
  simp only [Option.getD_some] at hr hown
  obtain ⟨g, cap, rfl, hg1, hg2, hc⟩ := own_strs hown (by decide)
  have c1 : w1.cell? ⟨g, 1, none⟩ = some (.string ⟨#[102, 117, 110, 99, 40, 41, 98, 111, 111, 108]⟩) := hc 1 _ rfl
  have HB1 := hide hb1
  clear hb1 hc hown
  have hrb : (r.toList == [91, 93, 105, 110, 116]) = true := by rw [hr]; rfl
  clear hr
  have HF1 := hide (fits_any ⟨#[110, 105, 108]⟩ ⟨#[99, 104, 97, 110, 32, 105, 110, 116]⟩ w1 (unhide HV1) (by decide))
  rw [mk_toL, mk_toL, anc_1] at HF1
  go_wp2_with fail
  refine (unhide HF1).mono ?_
  rintro e w2 ⟨rfl, hb2⟩
  have HV2 := hide ((unhide HV1).in hb2)
  have HB2 := hide hb2
  clear hb2
  have HF2 := hide (equals_any ⟨#[110, 105, 108]⟩ ⟨#[91, 93, 105, 110, 116]⟩ w2 (unhide HV2) (by decide) (by decide))
  rw [mk_toL, mk_toL, anc_2] at HF2
  go_wp2_with fail
  refine (unhide HF2).mono ?_
  rintro e w3 ⟨rfl, hb3⟩
  have HV3 := hide ((unhide HV2).in hb3)
  have HB3 := hide hb3
  clear hb3
  have HF3 := hide (equals_any ⟨#[91, 93, 105, 110, 116]⟩ ⟨#[91, 93, 105, 110, 116]⟩ w3 (unhide HV3) (by decide) (by decide))
  rw [mk_toL, anc_3] at HF3
  go_wp2_with fail
  refine (unhide HF3).mono ?_
  rintro e w4 ⟨rfl, hb4⟩
  have HB4 := hide hb4
  clear hb4
  go_wp2_with fail
  go_ret
  exact ⟨rfl, bt (bt (bt (unhide HB1) (unhide HB2)) (unhide HB3)) (unhide HB4)⟩
end Go.Proofs.YtpmpjbnnjdpbnaaDoor
