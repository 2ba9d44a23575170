/- Contracts of Elem, Func, Nilable, Reference, Ordered, Fits, Equals. -/
import Derived.Test.YtpmpjbnnjdpbnaaDoorTy6
namespace Go.Proofs.YtpmpjbnnjdpbnaaDoor
open Go.RowKit Go.Proofs.YtpmpjbnnjdpbnaaDoor.Lx

/-- A slice's or channel's items. -/
def elF (l : List UInt8) : Option (List UInt8) :=
  match cut tL l with
  | some r => if vd r = true then some r else none
  | none => match cut tC l with
    | some r => if vd r = true then some r else none
    | none => none
def ElemPost (l : List UInt8) (w : World) (e : Ending) (w' : World) : Prop :=
  Below w.heap.size w w' ∧ ∃ r : ByteArray, e = .returned (.tuple #[.string r, .bool (elF l).isSome]) ∧ r.toList = (elF l).getD []
theorem nil_toL : (⟨#[]⟩ : ByteArray).toList = [] := mk_toL _
theorem cut_pre {p l r : List UInt8} (h : cut p l = some r) : p.isPrefixOf l = true := by
  unfold cut at h
  split at h
  · assumption
  · cases h
theorem cut_npre {p l : List UInt8} (h : cut p l = none) : p.isPrefixOf l = false := by
  unfold cut at h
  split at h
  · cases h
  · exact Bool.eq_false_iff.2 (by assumption)
theorem cutP_hit (p : List UInt8) (s : ByteArray) (w : World) (r : List UInt8) (h : cut p s.toList = some r) :
    Calls Tryd.prog 27 #[.string s, .string ⟨p.toArray⟩] w fun e w' => ∃ x : ByteArray, e = .returned (.tuple #[.string x, .bool true]) ∧ x.toList = r ∧ x.size ≤ s.size ∧ w' = w := by
  obtain ⟨h1, h2, h3⟩ := cutB_some (s := s) (p := ⟨p.toArray⟩) (r := r) (by rw [arr_toL]; exact h)
  refine (cutPrefix27 s ⟨p.toArray⟩ w).mono ?_
  rintro e w' ⟨rfl, hw⟩
  exact ⟨cutB s ⟨p.toArray⟩, by rw [h1], h2, h3, hw⟩
theorem cutP_miss (p : List UInt8) (s : ByteArray) (w : World) (h : cut p s.toList = none) :
    Calls Tryd.prog 27 #[.string s, .string ⟨p.toArray⟩] w fun e w' => e = .returned (.tuple #[.string s, .bool false]) ∧ w' = w := by
  obtain ⟨h1, h2⟩ := cutB_none (s := s) (p := ⟨p.toArray⟩) (by rw [arr_toL]; exact h)
  refine (cutPrefix27 s ⟨p.toArray⟩ w).mono ?_
  rintro e w' ⟨rfl, hw⟩
  exact ⟨by rw [h1, h2], hw⟩
theorem hasP (p : List UInt8) (s : ByteArray) (w : World) (v : Bool) (h : p.isPrefixOf s.toList = v) :
    Calls Tryd.prog 29 #[.string s, .string ⟨p.toArray⟩] w fun e w' => e = .returned (.bool v) ∧ w' = w := by
  refine (hasPrefix29 s ⟨p.toArray⟩ w).mono ?_
  rintro e w' ⟨rfl, hw⟩
  rw [arr_toL, h]
  exact ⟨rfl, hw⟩
theorem Vars.in {w w' : World} (h : Vars w) (hb : Below w.heap.size w w') : Vars w' := h.below (by have := h.lt; omega) hb

set_option maxRecDepth 100000 in
set_option maxHeartbeats 400000 in
theorem elem_L (s : ByteArray) (w : World) (hv : Vars w) (hs : s.size ≤ 1000000) (r : List UInt8) (h : cut [91, 93] s.toList = some r) :
    Calls Tryd.prog 9 #[.string s] w (ElemPost s.toList w) := by
  have HE : Hid (elF s.toList = if vd r = true then some r else none) := by
    show elF s.toList = _
    unfold elF; rw [show cut tL s.toList = some r from h]
  have HC := hide (cutP_hit [91, 93] s w r h)
  have HV := hide hv
  clear h hv
  go_enter Tryd.func9, Tryd.ntmps9
  go_wp2_with fail
  refine (unhide HC).mono ?_
  rintro e w1 ⟨x, rfl, h1, h2, h3⟩
  subst h3
  have H1 := hide h1
  clear h1
  have HVd := hide (valid_any x w1 (unhide HV) (by omega))
  rw [unhide H1] at HVd
  cases hvr : vd r with
  | true =>
    rw [hvr] at HVd HE
    go_wp2_with fail
    refine (unhide HVd).mono ?_
    rintro e w2 ⟨rfl, hb2⟩
    have HB := hide hb2
    clear hb2
    go_wp2_with fail
    go_ret2
    exact ⟨unhide HB, x, by rw [unhide HE]; rfl, by rw [unhide HE]; exact unhide H1⟩
  | false =>
    rw [hvr] at HVd HE
    go_wp2_with fail
    refine (unhide HVd).mono ?_
    rintro e w2 ⟨rfl, hb2⟩
    have HB := hide hb2
    clear hb2
    go_wp2_with fail
    go_ret2
    exact ⟨unhide HB, ⟨#[]⟩, by rw [unhide HE]; rfl, by rw [unhide HE]; exact nil_toL⟩
set_option maxRecDepth 100000 in
set_option maxHeartbeats 400000 in
theorem elem_C (s : ByteArray) (w : World) (hv : Vars w) (hs : s.size ≤ 1000000) (r : List UInt8) (h0 : cut [91, 93] s.toList = none) (h : cut [99, 104, 97, 110, 32] s.toList = some r) :
    Calls Tryd.prog 9 #[.string s] w (ElemPost s.toList w) := by
  have HE : Hid (elF s.toList = if vd r = true then some r else none) := by
    show elF s.toList = _
    unfold elF; rw [show cut tL s.toList = none from h0, show cut tC s.toList = some r from h]
  have H0 := hide (cutP_miss [91, 93] s w h0)
  have HC := hide (cutP_hit [99, 104, 97, 110, 32] s w r h)
  have HV := hide hv
  clear h hv h0
  go_enter Tryd.func9, Tryd.ntmps9
  go_wp2_with fail
  refine (unhide H0).mono ?_
  rintro e w1 ⟨rfl, rfl⟩
  go_wp2_with fail
  refine (unhide HC).mono ?_
  rintro e w1 ⟨x, rfl, h1, h2, h3⟩
  subst h3
  have H1 := hide h1
  clear h1
  have HVd := hide (valid_any x w1 (unhide HV) (by omega))
  rw [unhide H1] at HVd
  cases hvr : vd r with
  | true =>
    rw [hvr] at HVd HE
    go_wp2_with fail
    refine (unhide HVd).mono ?_
    rintro e w2 ⟨rfl, hb2⟩
    have HB := hide hb2
    clear hb2
    go_wp2_with fail
    go_ret2
    exact ⟨unhide HB, x, by rw [unhide HE]; rfl, by rw [unhide HE]; exact unhide H1⟩
  | false =>
    rw [hvr] at HVd HE
    go_wp2_with fail
    refine (unhide HVd).mono ?_
    rintro e w2 ⟨rfl, hb2⟩
    have HB := hide hb2
    clear hb2
    go_wp2_with fail
    go_ret2
    exact ⟨unhide HB, ⟨#[]⟩, by rw [unhide HE]; rfl, by rw [unhide HE]; exact nil_toL⟩
set_option maxRecDepth 100000 in
set_option maxHeartbeats 400000 in
theorem elem_N (s : ByteArray) (w : World) (h0 : cut [91, 93] s.toList = none) (h : cut [99, 104, 97, 110, 32] s.toList = none) :
    Calls Tryd.prog 9 #[.string s] w (ElemPost s.toList w) := by
  have HE : Hid (elF s.toList = none) := by
    show elF s.toList = _
    unfold elF; rw [show cut tL s.toList = none from h0, show cut tC s.toList = none from h]
  have H0 := hide (cutP_miss [91, 93] s w h0)
  have HC := hide (cutP_miss [99, 104, 97, 110, 32] s w h)
  clear h h0
  go_enter Tryd.func9, Tryd.ntmps9
  go_wp2_with fail
  refine (unhide H0).mono ?_
  rintro e w1 ⟨rfl, rfl⟩
  go_wp2_with fail
  refine (unhide HC).mono ?_
  rintro e w1 ⟨rfl, rfl⟩
  go_wp2_with fail
  go_ret2
  exact ⟨Below.refl _ _, ⟨#[]⟩, by rw [unhide HE]; rfl, by rw [unhide HE]; exact nil_toL⟩
theorem elem_any (s : ByteArray) (w : World) (hv : Vars w) (hs : s.size ≤ 1000000) : Calls Tryd.prog 9 #[.string s] w (ElemPost s.toList w) := by
  cases h0 : cut [91, 93] s.toList with
  | some r => exact elem_L s w hv hs r h0
  | none =>
    cases h : cut [99, 104, 97, 110, 32] s.toList with
    | some r => exact elem_C s w hv hs r h0 h
    | none => exact elem_N s w h0 h
/-- A function's parts. -/
def fnF (l : List UInt8) : Option (List (List UInt8) × List UInt8) :=
  match cut tF l with
  | some r => if vd l = true then some (spl r 0 [] []) else none
  | none => none
def FuncPost (l : List UInt8) (w : World) (e : Ending) (w' : World) : Prop :=
  Below w.heap.size w w' ∧ ∃ (v : Value) (r : ByteArray), e = .returned (.tuple #[v, .string r, .bool (fnF l).isSome]) ∧ r.toList = ((fnF l).getD ([], [])).2 ∧ w'.ownsRow w.heap.size 9 1 v ((fnF l).getD ([], [])).1.length (strs ((fnF l).getD ([], [])).1)
set_option maxRecDepth 100000 in
set_option maxHeartbeats 400000 in
theorem func_any (s : ByteArray) (w : World) (hv : Vars w) (hs : s.size ≤ 1000000) : Calls Tryd.prog 11 #[.string s] w (FuncPost s.toList w) := by
  cases h0 : cut [102, 117, 110, 99, 40] s.toList with
  | none =>
    have HE : Hid (fnF s.toList = none) := by
      show fnF s.toList = _
      unfold fnF; rw [show cut tF s.toList = none from h0]
    have H0 := hide (hasP [102, 117, 110, 99, 40] s w false (cut_npre h0))
    clear h0 hv
    go_enter Tryd.func11, Tryd.ntmps11
    go_wp2_with fail
    refine (unhide H0).mono ?_
    rintro e w1 ⟨rfl, rfl⟩
    go_wp2_with fail
    refine bodyPost_ret (v := .tuple #[.slice none 0 0, .string ⟨#[]⟩, .bool false]) (by simp [results, Tryd.results11, go_sem]) rfl ?_
    refine ⟨Below.refl _ _, .slice none 0 0, ⟨#[]⟩, by rw [unhide HE]; rfl, by rw [unhide HE]; exact nil_toL, by rw [unhide HE]; exact World.ownsRow_nil _ _ _ _⟩
  | some r =>
    have H0 := hide (hasP [102, 117, 110, 99, 40] s w true (cut_pre h0))
    have HVd := hide (valid_any s w hv hs)
    have hl := congrArg List.length (cut_some.1 h0)
    rw [toL_len] at hl
    have h5n : 5 ≤ s.size := by simp at hl; omega
    clear hl
    cases hvd : vd s.toList with
    | false =>
      rw [hvd] at HVd
      have HE : Hid (fnF s.toList = none) := by
        show fnF s.toList = _
        unfold fnF; rw [show cut tF s.toList = some r from h0, hvd]; rfl
      clear h0 hv hvd
      go_enter Tryd.func11, Tryd.ntmps11
      go_wp2_with fail
      refine (unhide H0).mono ?_
      rintro e w1 ⟨rfl, rfl⟩
      go_wp2_with fail
      refine (unhide HVd).mono ?_
      rintro e w2 ⟨rfl, hb2⟩
      have HB := hide hb2
      clear hb2
      go_wp2_with fail
      refine bodyPost_ret (v := .tuple #[.slice none 0 0, .string ⟨#[]⟩, .bool false]) (by simp [results, Tryd.results11, go_sem]) rfl ?_
      refine ⟨unhide HB, .slice none 0 0, ⟨#[]⟩, by rw [unhide HE]; rfl, by rw [unhide HE]; exact nil_toL, by rw [unhide HE]; exact World.ownsRow_nil _ _ _ _⟩
    | true =>
      rw [hvd] at HVd
      have HE : Hid (fnF s.toList = some (spl r 0 [] [])) := by
        show fnF s.toList = _
        unfold fnF; rw [show cut tF s.toList = some r from h0, hvd]; rfl
      have HR : Hid ((s.extract 5 s.size).toList = r) := by
        show (s.extract 5 s.size).toList = r
        rw [ext_drop, cut_some.1 h0]; rfl
      have h5 : (5 : Int) ≤ s.size := by omega
      clear h0 hv hvd
      go_enter Tryd.func11, Tryd.ntmps11
      go_wp2_with fail
      refine (unhide H0).mono ?_
      rintro e w1 ⟨rfl, rfl⟩
      go_wp2_with fail
      refine (unhide HVd).mono ?_
      rintro e w2 ⟨rfl, hb2⟩
      have HB := hide hb2
      clear hb2
      go_wp2_with fail
      refine (split_any _ w2 (by rw [ext_size _ _ _ (Nat.le_refl _)]; omega)).mono ?_
      rintro e w3 ⟨v, x, rfl, hx1, hx2, hx3⟩
      rw [unhide HR] at hx1 hx2
      have X1 := hide hx1
      have X2 := hide hx2
      have X3 := hide hx3
      clear hx1 hx2 hx3
      go_wp2_with fail
      refine bodyPost_ret (v := .tuple #[v, .string x, .bool true]) (by simp [results, Tryd.results11, go_sem]) rfl ?_
      refine ⟨(unhide HB).trans ((unhide X3).mono (unhide HB).size), v, x, by rw [unhide HE]; rfl, by rw [unhide HE]; exact unhide X1, by rw [unhide HE]; exact own_base (unhide HB).size (unhide X2)⟩
end Go.Proofs.YtpmpjbnnjdpbnaaDoor
