/- Contract of the reference's End. -/
import Derived.Test.YtpmpjbnnjdpbnaaDoorRf2
set_option linter.unusedVariables false
namespace Go.Proofs.YtpmpjbnnjdpbnaaDoor
open Go.RowKit Go.Proofs.YtpmpjbnnjdpbnaaDoor.Lx

theorem drop_at {l p r : List UInt8} {a : Nat} (h : l.drop a = p ++ r) (hp : p ≠ []) : r = l.drop (a + p.length) ∧ a + p.length + r.length = l.length := by
  have hl := congrArg List.length h
  rw [List.length_drop, List.length_append] at hl
  have hpl : 0 < p.length := List.length_pos_iff.2 hp
  refine ⟨?_, by omega⟩
  have h2 : (p ++ r).drop p.length = r := List.drop_left
  rw [← h, List.drop_drop] at h2
  exact h2.symm
set_option maxRecDepth 100000 in
set_option maxHeartbeats 400000 in
theorem end_I (n : Nat) (ih : EndC n) (s : ByteArray) (a : Nat) (w : World) (hs : s.size ≤ 10000) (ha : a ≤ s.size) (hn : s.size - a < n + 1) (r : List UInt8) (hl : s.toList.drop a = tI ++ r) :
    Calls Tryd.prog 34 #[.string s, .int .i64 a] w (EndPost s.toList a w) := by
  obtain ⟨hr, hz⟩ := drop_at hl (by decide)
  have hlen : tI.length = 3 := rfl
  rw [hlen] at hr hz
  rw [toL_len] at hz
  have haz : (a : Int) ≤ s.size := by omega
  have HI := hide (beg [105, 110, 116] s a w true (by rw [hl]; exact cut_pre (cut_app tI r)))
  have HX : Hid (enAt s.toList a = (a : Int) + 3) := by
    show enAt s.toList a = _
    have e : rE (s.toList.drop a) = some r := by rw [hl, rE_eq, hdI]
    rw [enAt_some e, toL_len, show s.size - r.length = a + 3 by omega]
    rfl
  clear hl hr
  go_enter Tryd.func34, Tryd.ntmps34
  go_wp2_with fail
  refine (unhide HI).mono ?_
  rintro e w' ⟨rfl, hww⟩
  rw [hww]
  clear hww
  go_wp2_with fail
  go_ret
  exact ⟨by rw [unhide HX]; rfl, Below.refl _ _⟩
set_option maxRecDepth 100000 in
set_option maxHeartbeats 400000 in
theorem end_B (n : Nat) (ih : EndC n) (s : ByteArray) (a : Nat) (w : World) (hs : s.size ≤ 10000) (ha : a ≤ s.size) (hn : s.size - a < n + 1) (r : List UInt8) (hl : s.toList.drop a = tB ++ r) :
    Calls Tryd.prog 34 #[.string s, .int .i64 a] w (EndPost s.toList a w) := by
  obtain ⟨hr, hz⟩ := drop_at hl (by decide)
  have hlen : tB.length = 4 := rfl
  rw [hlen] at hr hz
  rw [toL_len] at hz
  have haz : (a : Int) ≤ s.size := by omega
  have HI := hide (beg [105, 110, 116] s a w false (by rw [hl]; exact cut_npre (cutx (p := tI) (q := tB) r (by decide) (by decide) (by decide))))
  have HB := hide (beg [98, 111, 111, 108] s a w true (by rw [hl]; exact cut_pre (cut_app tB r)))
  have HX : Hid (enAt s.toList a = (a : Int) + 4) := by
    show enAt s.toList a = _
    have e : rE (s.toList.drop a) = some r := by rw [hl, rE_eq, hdB]
    rw [enAt_some e, toL_len, show s.size - r.length = a + 4 by omega]
    rfl
  clear hl hr
  go_enter Tryd.func34, Tryd.ntmps34
  go_wp2_with fail
  refine (unhide HI).mono ?_
  rintro e w' ⟨rfl, hww⟩
  rw [hww]
  clear hww
  go_wp2_with fail
  refine (unhide HB).mono ?_
  rintro e w' ⟨rfl, hww⟩
  rw [hww]
  clear hww
  go_wp2_with fail
  go_ret
  exact ⟨by rw [unhide HX]; rfl, Below.refl _ _⟩
set_option maxRecDepth 100000 in
set_option maxHeartbeats 400000 in
theorem end_S (n : Nat) (ih : EndC n) (s : ByteArray) (a : Nat) (w : World) (hs : s.size ≤ 10000) (ha : a ≤ s.size) (hn : s.size - a < n + 1) (r : List UInt8) (hl : s.toList.drop a = tS ++ r) :
    Calls Tryd.prog 34 #[.string s, .int .i64 a] w (EndPost s.toList a w) := by
  obtain ⟨hr, hz⟩ := drop_at hl (by decide)
  have hlen : tS.length = 6 := rfl
  rw [hlen] at hr hz
  rw [toL_len] at hz
  have haz : (a : Int) ≤ s.size := by omega
  have HI := hide (beg [105, 110, 116] s a w false (by rw [hl]; exact cut_npre (cutx (p := tI) (q := tS) r (by decide) (by decide) (by decide))))
  have HB := hide (beg [98, 111, 111, 108] s a w false (by rw [hl]; exact cut_npre (cutx (p := tB) (q := tS) r (by decide) (by decide) (by decide))))
  have HS := hide (beg [115, 116, 114, 105, 110, 103] s a w true (by rw [hl]; exact cut_pre (cut_app tS r)))
  have HX : Hid (enAt s.toList a = (a : Int) + 6) := by
    show enAt s.toList a = _
    have e : rE (s.toList.drop a) = some r := by rw [hl, rE_eq, hdS]
    rw [enAt_some e, toL_len, show s.size - r.length = a + 6 by omega]
    rfl
  clear hl hr
  go_enter Tryd.func34, Tryd.ntmps34
  go_wp2_with fail
  refine (unhide HI).mono ?_
  rintro e w' ⟨rfl, hww⟩
  rw [hww]
  clear hww
  go_wp2_with fail
  refine (unhide HB).mono ?_
  rintro e w' ⟨rfl, hww⟩
  rw [hww]
  clear hww
  go_wp2_with fail
  refine (unhide HS).mono ?_
  rintro e w' ⟨rfl, hww⟩
  rw [hww]
  clear hww
  go_wp2_with fail
  go_ret
  exact ⟨by rw [unhide HX]; rfl, Below.refl _ _⟩
set_option maxRecDepth 100000 in
set_option maxHeartbeats 400000 in
theorem end_L (n : Nat) (ih : EndC n) (s : ByteArray) (a : Nat) (w : World) (hs : s.size ≤ 10000) (ha : a ≤ s.size) (hn : s.size - a < n + 1) (r : List UInt8) (hl : s.toList.drop a = tL ++ r) :
    Calls Tryd.prog 34 #[.string s, .int .i64 a] w (EndPost s.toList a w) := by
  obtain ⟨hr, hz⟩ := drop_at hl (by decide)
  have hlen : tL.length = 2 := rfl
  rw [hlen] at hr hz
  rw [toL_len] at hz
  have haz : (a : Int) ≤ s.size := by omega
  have HI := hide (beg [105, 110, 116] s a w false (by rw [hl]; exact cut_npre (cutx (p := tI) (q := tL) r (by decide) (by decide) (by decide))))
  have HB := hide (beg [98, 111, 111, 108] s a w false (by rw [hl]; exact cut_npre (cutx (p := tB) (q := tL) r (by decide) (by decide) (by decide))))
  have HS := hide (beg [115, 116, 114, 105, 110, 103] s a w false (by rw [hl]; exact cut_npre (cutx (p := tS) (q := tL) r (by decide) (by decide) (by decide))))
  have HL := hide (beg [91, 93] s a w true (by rw [hl]; exact cut_pre (cut_app tL r)))
  have HX : Hid (enAt s.toList a = enAt s.toList (a + 2)) := by
    show enAt s.toList a = _
    unfold enAt
    rw [hl, rE_eq, hdL, ← hr]
  have HE := hide (ih s (a + 2) w hs (by omega) (by omega))
  clear hl hr
  go_enter Tryd.func34, Tryd.ntmps34
  go_wp2_with fail
  refine (unhide HI).mono ?_
  rintro e w' ⟨rfl, hww⟩
  rw [hww]
  clear hww
  go_wp2_with fail
  refine (unhide HB).mono ?_
  rintro e w' ⟨rfl, hww⟩
  rw [hww]
  clear hww
  go_wp2_with fail
  refine (unhide HS).mono ?_
  rintro e w' ⟨rfl, hww⟩
  rw [hww]
  clear hww
  go_wp2_with fail
  refine (unhide HL).mono ?_
  rintro e w' ⟨rfl, hww⟩
  rw [hww]
  clear hww
  go_wp2_with fail
  refine (unhide HE).mono ?_
  rintro e w3 ⟨rfl, hb3⟩
  have HB3 := hide hb3
  clear hb3
  go_wp2_with fail
  go_ret
  exact ⟨by rw [unhide HX]; rfl, unhide HB3⟩
set_option maxRecDepth 100000 in
set_option maxHeartbeats 400000 in
theorem end_C (n : Nat) (ih : EndC n) (s : ByteArray) (a : Nat) (w : World) (hs : s.size ≤ 10000) (ha : a ≤ s.size) (hn : s.size - a < n + 1) (r : List UInt8) (hl : s.toList.drop a = tC ++ r) :
    Calls Tryd.prog 34 #[.string s, .int .i64 a] w (EndPost s.toList a w) := by
  obtain ⟨hr, hz⟩ := drop_at hl (by decide)
  have hlen : tC.length = 5 := rfl
  rw [hlen] at hr hz
  rw [toL_len] at hz
  have haz : (a : Int) ≤ s.size := by omega
  have HI := hide (beg [105, 110, 116] s a w false (by rw [hl]; exact cut_npre (cutx (p := tI) (q := tC) r (by decide) (by decide) (by decide))))
  have HB := hide (beg [98, 111, 111, 108] s a w false (by rw [hl]; exact cut_npre (cutx (p := tB) (q := tC) r (by decide) (by decide) (by decide))))
  have HS := hide (beg [115, 116, 114, 105, 110, 103] s a w false (by rw [hl]; exact cut_npre (cutx (p := tS) (q := tC) r (by decide) (by decide) (by decide))))
  have HL := hide (beg [91, 93] s a w false (by rw [hl]; exact cut_npre (cutx (p := tL) (q := tC) r (by decide) (by decide) (by decide))))
  have HC := hide (beg [99, 104, 97, 110, 32] s a w true (by rw [hl]; exact cut_pre (cut_app tC r)))
  have HX : Hid (enAt s.toList a = enAt s.toList (a + 5)) := by
    show enAt s.toList a = _
    unfold enAt
    rw [hl, rE_eq, hdC, ← hr]
  have HE := hide (ih s (a + 5) w hs (by omega) (by omega))
  clear hl hr
  go_enter Tryd.func34, Tryd.ntmps34
  go_wp2_with fail
  refine (unhide HI).mono ?_
  rintro e w' ⟨rfl, hww⟩
  rw [hww]
  clear hww
  go_wp2_with fail
  refine (unhide HB).mono ?_
  rintro e w' ⟨rfl, hww⟩
  rw [hww]
  clear hww
  go_wp2_with fail
  refine (unhide HS).mono ?_
  rintro e w' ⟨rfl, hww⟩
  rw [hww]
  clear hww
  go_wp2_with fail
  refine (unhide HL).mono ?_
  rintro e w' ⟨rfl, hww⟩
  rw [hww]
  clear hww
  go_wp2_with fail
  refine (unhide HC).mono ?_
  rintro e w' ⟨rfl, hww⟩
  rw [hww]
  clear hww
  go_wp2_with fail
  refine (unhide HE).mono ?_
  rintro e w3 ⟨rfl, hb3⟩
  have HB3 := hide hb3
  clear hb3
  go_wp2_with fail
  go_ret
  exact ⟨by rw [unhide HX]; rfl, unhide HB3⟩
set_option maxRecDepth 100000 in
set_option maxHeartbeats 400000 in
theorem end_P (n : Nat) (ih : EndC n) (s : ByteArray) (a : Nat) (w : World) (hs : s.size ≤ 10000) (ha : a ≤ s.size) (hn : s.size - a < n + 1) (r : List UInt8) (hl : s.toList.drop a = tP ++ r) :
    Calls Tryd.prog 34 #[.string s, .int .i64 a] w (EndPost s.toList a w) := by
  obtain ⟨hr, hz⟩ := drop_at hl (by decide)
  have hlen : tP.length = 1 := rfl
  rw [hlen] at hr hz
  rw [toL_len] at hz
  have haz : (a : Int) ≤ s.size := by omega
  have HI := hide (beg [105, 110, 116] s a w false (by rw [hl]; exact cut_npre (cutx (p := tI) (q := tP) r (by decide) (by decide) (by decide))))
  have HB := hide (beg [98, 111, 111, 108] s a w false (by rw [hl]; exact cut_npre (cutx (p := tB) (q := tP) r (by decide) (by decide) (by decide))))
  have HS := hide (beg [115, 116, 114, 105, 110, 103] s a w false (by rw [hl]; exact cut_npre (cutx (p := tS) (q := tP) r (by decide) (by decide) (by decide))))
  have HL := hide (beg [91, 93] s a w false (by rw [hl]; exact cut_npre (cutx (p := tL) (q := tP) r (by decide) (by decide) (by decide))))
  have HC := hide (beg [99, 104, 97, 110, 32] s a w false (by rw [hl]; exact cut_npre (cutx (p := tC) (q := tP) r (by decide) (by decide) (by decide))))
  have HP := hide (beg [42] s a w true (by rw [hl]; exact cut_pre (cut_app tP r)))
  have HX : Hid (enAt s.toList a = nmAt s.toList (a + 1)) := by
    show enAt s.toList a = _
    unfold enAt nmAt
    rw [hl, rE_eq, hdP, ← hr]
    rfl
  have HE := hide (named_any s (a + 1) w (by omega) hs)
  clear hl hr
  go_enter Tryd.func34, Tryd.ntmps34
  go_wp2_with fail
  refine (unhide HI).mono ?_
  rintro e w' ⟨rfl, hww⟩
  rw [hww]
  clear hww
  go_wp2_with fail
  refine (unhide HB).mono ?_
  rintro e w' ⟨rfl, hww⟩
  rw [hww]
  clear hww
  go_wp2_with fail
  refine (unhide HS).mono ?_
  rintro e w' ⟨rfl, hww⟩
  rw [hww]
  clear hww
  go_wp2_with fail
  refine (unhide HL).mono ?_
  rintro e w' ⟨rfl, hww⟩
  rw [hww]
  clear hww
  go_wp2_with fail
  refine (unhide HC).mono ?_
  rintro e w' ⟨rfl, hww⟩
  rw [hww]
  clear hww
  go_wp2_with fail
  refine (unhide HP).mono ?_
  rintro e w' ⟨rfl, hww⟩
  rw [hww]
  clear hww
  go_wp2_with fail
  refine (unhide HE).mono ?_
  rintro e w' ⟨rfl, hww⟩
  rw [hww]
  clear hww
  go_wp2_with fail
  go_ret
  exact ⟨by rw [unhide HX]; rfl, Below.refl _ _⟩
set_option maxRecDepth 100000 in
set_option maxHeartbeats 400000 in
theorem end_F (n : Nat) (ih : EndC n) (s : ByteArray) (a : Nat) (w : World) (hs : s.size ≤ 10000) (ha : a ≤ s.size) (hn : s.size - a < n + 1) (r : List UInt8) (hl : s.toList.drop a = tF ++ r) :
    Calls Tryd.prog 34 #[.string s, .int .i64 a] w (EndPost s.toList a w) := by
  obtain ⟨hr, hz⟩ := drop_at hl (by decide)
  have hlen : tF.length = 5 := rfl
  rw [hlen] at hr hz
  rw [toL_len] at hz
  have haz : (a : Int) ≤ s.size := by omega
  have HI := hide (beg [105, 110, 116] s a w false (by rw [hl]; exact cut_npre (cutx (p := tI) (q := tF) r (by decide) (by decide) (by decide))))
  have HB := hide (beg [98, 111, 111, 108] s a w false (by rw [hl]; exact cut_npre (cutx (p := tB) (q := tF) r (by decide) (by decide) (by decide))))
  have HS := hide (beg [115, 116, 114, 105, 110, 103] s a w false (by rw [hl]; exact cut_npre (cutx (p := tS) (q := tF) r (by decide) (by decide) (by decide))))
  have HL := hide (beg [91, 93] s a w false (by rw [hl]; exact cut_npre (cutx (p := tL) (q := tF) r (by decide) (by decide) (by decide))))
  have HC := hide (beg [99, 104, 97, 110, 32] s a w false (by rw [hl]; exact cut_npre (cutx (p := tC) (q := tF) r (by decide) (by decide) (by decide))))
  have HP := hide (beg [42] s a w false (by rw [hl]; exact cut_npre (cutx (p := tP) (q := tF) r (by decide) (by decide) (by decide))))
  have HF := hide (beg [102, 117, 110, 99, 40] s a w true (by rw [hl]; exact cut_pre (cut_app tF r)))
  have HX : Hid (rE (s.toList.drop a) = (rF (s.toList.drop (a + 5))).map (·.1)) := by
    show rE (s.toList.drop a) = _
    rw [hl, rE_eq, hdF, ← hr]
  have HE := hide (function_w n ih s a w hs (by omega) hn)
  unfold FnPost at HE
  clear hl hr
  cases hf : rF (s.toList.drop (a + 5)) with
  | none =>
    rw [hf] at HE HX
    have HX2 := hide (enAt_none (unhide HX))
    clear hf
    go_enter Tryd.func34, Tryd.ntmps34
    go_wp2_with fail
    refine (unhide HI).mono ?_
    rintro e w' ⟨rfl, hww⟩
    rw [hww]
    clear hww
    go_wp2_with fail
    refine (unhide HB).mono ?_
    rintro e w' ⟨rfl, hww⟩
    rw [hww]
    clear hww
    go_wp2_with fail
    refine (unhide HS).mono ?_
    rintro e w' ⟨rfl, hww⟩
    rw [hww]
    clear hww
    go_wp2_with fail
    refine (unhide HL).mono ?_
    rintro e w' ⟨rfl, hww⟩
    rw [hww]
    clear hww
    go_wp2_with fail
    refine (unhide HC).mono ?_
    rintro e w' ⟨rfl, hww⟩
    rw [hww]
    clear hww
    go_wp2_with fail
    refine (unhide HP).mono ?_
    rintro e w' ⟨rfl, hww⟩
    rw [hww]
    clear hww
    go_wp2_with fail
    refine (unhide HF).mono ?_
    rintro e w' ⟨rfl, hww⟩
    rw [hww]
    clear hww
    go_wp2_with fail
    refine (unhide HE).mono ?_
    rintro e w3 ⟨hb3, rfl⟩
    have HB3 := hide hb3
    clear hb3
    go_wp2_with fail
    go_ret
    exact ⟨by rw [unhide HX2]; rfl, unhide HB3⟩
  | some x =>
    obtain ⟨q, ps, res⟩ := x
    rw [hf] at HE HX
    have HX2 := hide (enAt_some (unhide HX))
    clear hf
    go_enter Tryd.func34, Tryd.ntmps34
    go_wp2_with fail
    refine (unhide HI).mono ?_
    rintro e w' ⟨rfl, hww⟩
    rw [hww]
    clear hww
    go_wp2_with fail
    refine (unhide HB).mono ?_
    rintro e w' ⟨rfl, hww⟩
    rw [hww]
    clear hww
    go_wp2_with fail
    refine (unhide HS).mono ?_
    rintro e w' ⟨rfl, hww⟩
    rw [hww]
    clear hww
    go_wp2_with fail
    refine (unhide HL).mono ?_
    rintro e w' ⟨rfl, hww⟩
    rw [hww]
    clear hww
    go_wp2_with fail
    refine (unhide HC).mono ?_
    rintro e w' ⟨rfl, hww⟩
    rw [hww]
    clear hww
    go_wp2_with fail
    refine (unhide HP).mono ?_
    rintro e w' ⟨rfl, hww⟩
    rw [hww]
    clear hww
    go_wp2_with fail
    refine (unhide HF).mono ?_
    rintro e w' ⟨rfl, hww⟩
    rw [hww]
    clear hww
    go_wp2_with fail
    refine (unhide HE).mono ?_
    rintro e w3 ⟨hb3, v, x, rfl, hx, hown⟩
    have HB3 := hide hb3
    clear hb3 hx hown
    go_wp2_with fail
    go_ret
    exact ⟨by rw [unhide HX2]; rfl, unhide HB3⟩
set_option maxRecDepth 100000 in
set_option maxHeartbeats 400000 in
theorem end_no (s : ByteArray) (a : Nat) (w : World) (ha : a ≤ s.size) (hh : hd (s.toList.drop a) = .no) (hI : cut tI (s.toList.drop a) = none) (hB : cut tB (s.toList.drop a) = none) (hS : cut tS (s.toList.drop a) = none) (hL : cut tL (s.toList.drop a) = none) (hC : cut tC (s.toList.drop a) = none) (hP : cut tP (s.toList.drop a) = none) (hF : cut tF (s.toList.drop a) = none) :
    Calls Tryd.prog 34 #[.string s, .int .i64 a] w (EndPost s.toList a w) := by
  have haz : (a : Int) ≤ s.size := by omega
  have HX : Hid (enAt s.toList a = -1) := enAt_none (rE_no hh)
  have HI := hide (beg [105, 110, 116] s a w false (cut_npre (p := tI) hI))
  have HB := hide (beg [98, 111, 111, 108] s a w false (cut_npre (p := tB) hB))
  have HS := hide (beg [115, 116, 114, 105, 110, 103] s a w false (cut_npre (p := tS) hS))
  have HL := hide (beg [91, 93] s a w false (cut_npre (p := tL) hL))
  have HC := hide (beg [99, 104, 97, 110, 32] s a w false (cut_npre (p := tC) hC))
  have HP := hide (beg [42] s a w false (cut_npre (p := tP) hP))
  have HF := hide (beg [102, 117, 110, 99, 40] s a w false (cut_npre (p := tF) hF))
  clear hh hI hB hS hL hC hP hF
  go_enter Tryd.func34, Tryd.ntmps34
  go_wp2_with fail
  refine (unhide HI).mono ?_
  rintro e w' ⟨rfl, hww⟩
  rw [hww]
  clear hww
  go_wp2_with fail
  refine (unhide HB).mono ?_
  rintro e w' ⟨rfl, hww⟩
  rw [hww]
  clear hww
  go_wp2_with fail
  refine (unhide HS).mono ?_
  rintro e w' ⟨rfl, hww⟩
  rw [hww]
  clear hww
  go_wp2_with fail
  refine (unhide HL).mono ?_
  rintro e w' ⟨rfl, hww⟩
  rw [hww]
  clear hww
  go_wp2_with fail
  refine (unhide HC).mono ?_
  rintro e w' ⟨rfl, hww⟩
  rw [hww]
  clear hww
  go_wp2_with fail
  refine (unhide HP).mono ?_
  rintro e w' ⟨rfl, hww⟩
  rw [hww]
  clear hww
  go_wp2_with fail
  refine (unhide HF).mono ?_
  rintro e w' ⟨rfl, hww⟩
  rw [hww]
  clear hww
  go_wp2_with fail
  go_ret
  exact ⟨by rw [unhide HX]; rfl, Below.refl _ _⟩
theorem end_step (n : Nat) (ih : EndC n) : EndC (n + 1) := by
  intro s a w hs ha hn
  have H := hd_is (s.toList.drop a)
  generalize hl : s.toList.drop a = l at H
  generalize hx : hd l = x at H
  cases H with
  | I r => exact end_I n ih s a w hs ha hn r hl
  | B r => exact end_B n ih s a w hs ha hn r hl
  | S r => exact end_S n ih s a w hs ha hn r hl
  | L r => exact end_L n ih s a w hs ha hn r hl
  | C r => exact end_C n ih s a w hs ha hn r hl
  | P r => exact end_P n ih s a w hs ha hn r hl
  | F r => exact end_F n ih s a w hs ha hn r hl
  | no l hL hC hF hI hB hS hP =>
    subst hl
    exact end_no s a w ha hx hI hB hS hL hC hP hF
theorem end_all : ∀ n, EndC n
  | 0 => fun _ _ _ _ _ h => absurd h (Nat.not_lt_zero _)
  | n + 1 => end_step n (end_all n)
theorem end_any (s : ByteArray) (a : Nat) (w : World) (hs : s.size ≤ 10000) (ha : a ≤ s.size) : Calls Tryd.prog 34 #[.string s, .int .i64 a] w (EndPost s.toList a w) := end_all (s.size - a + 1) s a w hs ha (by omega)
theorem function_any (s : ByteArray) (a : Nat) (w : World) (hs : s.size ≤ 10000) (ha : a + 5 ≤ s.size) : Calls Tryd.prog 31 #[.string s, .int .i64 a] w (FnPost s.toList a w) := function_w (s.size - a) (end_all _) s a w hs ha (by omega)
end Go.Proofs.YtpmpjbnnjdpbnaaDoor
