/- ListKeeps, walked. -/
import Derived.Test.YtkclpbbpcicpiaaDoorKe
namespace Go.Proofs.YtkclpbbpcicpiaaDoor
open Go.RowKit Go.Proofs.YtkclpbbpcicpiaaDoor.Hp
variable {w0 w w' w1 w2 : World} {B : HB} {n p m d q : Nat} {A A' A1 A2 : Nat → Kd} {wd wd' wd1 wd2 : Nat → Int} {hv hv1 hv2 : Value} {held : List Int} {cnt cnt' : Nat} {a b lo N c k x room : Nat} {f : Nat → Int} {z y : Int} {rb : Nat → Bool} {ats : Nat → Nat}
theorem none_len (n : Nat) : (blkL (emptyA n) n).length = 0 := by
  have : blkL (emptyA n) n = [] := by
    apply List.eq_nil_iff_forall_not_mem.2
    intro x hx
    exact ((blkL_mem (emptyA_inv n) x n).1 hx).2 (by unfold roomN emptyA; split <;> rfl)
  rw [this]; rfl
theorem keeps_hold (h : Lw w0 w B 64 p A wd hv held cnt) (a : Nat) (ha : a < 100000) (hl : held.length ≤ 10) :
    Calls Tryd.prog 11 #[.pointer (some ⟨p, 0, none⟩), .int .i64 a] w fun e w' => e = .returned (.tuple #[]) ∧ ∃ hv', Lw w0 w' B 64 p A wd hv' (held ++ [(a : Int)]) cnt := by
  refine (HoldT h.sp a (by omega) (by omega)).mono ?_
  rintro e w' ⟨hv', rfl, hs, ht⟩
  exact ⟨rfl, hv', h.step hs ht⟩
theorem keeps_drop (h : Lw w0 w B 64 p A wd hv (held ++ [z]) cnt) :
    Calls Tryd.prog 13 #[.pointer (some ⟨p, 0, none⟩), .int .i64 1] w fun e w' => e = .returned (.tuple #[]) ∧ ∃ hv', Lw w0 w' B 64 p A wd hv' held cnt := by
  refine (DropL h.sp).mono ?_
  rintro e w' ⟨hv', rfl, hs, ht⟩
  exact ⟨rfl, hv', h.step hs ht⟩
theorem keeps_dropZ (h : Lw w0 w B 64 p A wd hv (heldZ k z) cnt) :
    Calls Tryd.prog 13 #[.pointer (some ⟨p, 0, none⟩), .int .i64 1] w fun e w' => e = .returned (.tuple #[]) ∧ ∃ hv', Lw w0 w' B 64 p A wd hv' [] cnt := by
  refine (DropT h.sp 1 (by omega)).mono ?_
  rintro e w' ⟨hv', rfl, hs, ht⟩
  refine ⟨rfl, hv', ?_⟩
  have : (heldZ k z).take (leftN (heldZ k z).length 1) = [] := by
    unfold heldZ
    by_cases h0 : k = 0
    · rw [if_pos h0]; simp
    · rw [if_neg h0]; rfl
  rw [this] at hs
  exact h.step hs ht
theorem keeps_collect (h : Lw w0 w B 64 p A wd hv (heldZ k z) cnt) (hc : cnt < 90000) (hK : Kp A wd z b k k room ats) :
    Calls Tryd.prog 14 #[.pointer (some ⟨p, 0, none⟩)] w fun e w' => ∃ q A1, e = .returned (.int .i64 q) ∧ Kp A1 wd z b k k room ats ∧ Lw w0 w' B 64 p A1 wd hv (heldZ k z) (cnt + 1) ∧ (blkL A1 64).length = (if k = 0 then 0 else k + 2) := by
  refine (SCollect_any h.sp (by omega)).mono ?_
  rintro e w' ⟨rb, A1, hg, rfl, hs, hF⟩
  refine ⟨_, A1, rfl, hK.gc h.sp.inv hg, h.heap hs hF, ?_⟩
  by_cases h0 : k = 0
  · have hz : heldZ k z = [] := if_pos h0
    rw [hz] at hg
    rw [hg.none, if_pos h0]
    exact none_len 64
  · have hz : heldZ k z = [z] := if_neg h0
    rw [hz] at hg
    rw [if_neg h0]
    exact hK.blocks h.sp.inv (by omega) hg
theorem keeps_collect0 (h : Lw w0 w B 64 p A wd hv [] cnt) (hc : cnt < 90000) :
    Calls Tryd.prog 14 #[.pointer (some ⟨p, 0, none⟩)] w fun e w' => ∃ q A1, e = .returned (.int .i64 q) ∧ Lw w0 w' B 64 p A1 wd hv [] (cnt + 1) ∧ (blkL A1 64).length = 0 := by
  refine (SCollect_any h.sp (by omega)).mono ?_
  rintro e w' ⟨rb, A1, hg, rfl, hs, hF⟩
  refine ⟨_, A1, rfl, h.heap hs hF, ?_⟩
  rw [hg.none]
  exact none_len 64
theorem keeps_told (h : Lw w0 w B 64 p A wd hv held cnt) {c : Nat} (hb : (blkL A 64).length = c) :
    Calls Tryd.prog 17 #[.pointer (some ⟨p, 0, none⟩)] w fun e w' => ∃ q : Int, e = .returned (.tuple #[.int .i64 c, .int .i64 cnt, .int .i64 q]) ∧ Lw w0 w' B 64 p A wd hv held cnt := by
  subst hb
  refine (Told_any h.sp).mono ?_
  rintro e w' ⟨rfl, hF⟩
  exact ⟨_, rfl, h.quiet hF⟩
theorem keeps_at (h : Lw w0 w B 64 p A wd hv held cnt) (hK : Kp A wd z b k k room ats) {j : Nat} (hj : j < k) :
    Calls Tryd.prog 15 #[.pointer (some ⟨p, 0, none⟩), .int .i64 z, .int .i64 j] w fun e w' => e = .returned (.tuple #[.int .i64 (ats j), .bool true]) ∧ Lw w0 w' B 64 p A wd hv held cnt := by
  have := At_in h.sp hK.sl (hK.ar (by omega)) hj (by have := hK.le; omega)
  rw [Nat.zero_add, if_pos hj] at this
  exact this.mono fun _ _ x => ⟨x.1, h.quiet x.2⟩
theorem keeps_get (h : Lw w0 w B 64 p A wd hv held cnt) (hK : Kp A wd z b k k room ats) {j : Nat} (hj : j < k) :
    Calls Tryd.prog 16 #[.pointer (some ⟨p, 0, none⟩), .int .i64 (ats j), .int .i64 0] w fun e w' => e = .returned (.int .i64 j) ∧ Lw w0 w' B 64 p A wd hv held cnt := by
  have := Get_any h.sp (ats j) ((0 : Nat) : Int)
  rw [(hK.dt j hj).get (by omega)] at this
  exact this.mono fun _ _ x => ⟨x.1, h.quiet x.2⟩
set_option maxRecDepth 100000 in
set_option maxHeartbeats 8000000 in
theorem keeps_big (x q : Int) (w : World) (hV : Vars w) (hx : x < 0 ∨ (0 ≤ x ∧ 60 < x) ∨ (0 ≤ x ∧ x ≤ 60 ∧ q < 1)) :
    Calls Tryd.prog 3 #[.int .i64 x, .int .i64 q] w fun e w' => e = .returned (.bool true) ∧ Fr (fun _ => False) w w' := by
  have HA := hide (anchor_any w hV)
  clear hV
  rcases hx with h1 | ⟨h1, h2⟩ | ⟨h1, h2, h3⟩
  all_goals
    go_enter Tryd.func3, Tryd.ntmps3
    go_wp2_with fail
    refine (unhide HA).mono ?_
    rintro e w1 ⟨rfl, hF1, _⟩
    have HF1 := hide hF1
    clear hF1
    go_wp2
    go_ret
    exact ⟨rfl, unhide HF1⟩
set_option maxRecDepth 100000 in
set_option maxHeartbeats 16000000 in
theorem keeps_main (n : Nat) (ev : Int) (w : World) (hV : Vars w) (hn : n ≤ 60) (he : 1 ≤ ev) (he2 : ev < 9223372036854775808) :
    Calls Tryd.prog 3 #[.int .i64 n, .int .i64 ev] w fun e w' => e = .returned (.bool true) ∧ Fr (fun _ => False) w w' := by
  have HA := hide (anchor_any w hV)
  have hn0 : (0 : Int) ≤ n := by omega
  have hn1 : (n : Int) ≤ 60 := by omega
  have he0 : ¬ ev = 0 := by omega
  clear hV
  go_enter Tryd.func3, Tryd.ntmps3
  go_wp2_with fail
  refine (unhide HA).mono ?_
  rintro e w1 ⟨rfl, hF1, hV1⟩
  have HF1 := hide hF1
  have HN := hide (SNew_any 4096 w1 (by omega) (by omega) hV1)
  clear hF1 HA hV1
  go_wp2_with fail
  refine (unhide HN).mono ?_
  rintro e w2 ⟨B, p, rfl, hL⟩
  have HL := hide hL
  clear hL HN
  have HKs : Hid (Kp (emptyA 64) (fun _ => 0) 0 0 0 0 0 (fun _ => 0)) := hide Kp.start
  go_wp2
  go_loopg [6, 7] n (fun gh z i wr => ∃ (k : Nat) (zz : Int) (room : Nat), k ≤ n ∧ Hid (gh = n - k) ∧ z = .int .i64 zz ∧ i = .int .i64 k ∧ ∃ (A : Nat → Kd) (wd : Nat → Int) (hv : Value) (b : Nat) (ats : Nat → Nat) (cnt : Nat), cnt ≤ k ∧ Hid (Kp A wd zz b k k room ats ∧ Lw w1 wr B 64 p A wd hv (heldZ k zz) cnt))
  case atStart => exact ⟨0, 0, 0, by omega, hide (by omega), rfl, rfl, _, _, _, 0, fun _ => 0, 0, by omega, hide ⟨unhide HKs, unhide HL⟩⟩
  case round =>
    obtain ⟨k, zz, room, hk, hgh, rfl, rfl, A, wd, hv, b, ats, cnt, hcn, hK⟩ := hrel
    clear HL HKs
    by_cases hlt : k < n
    · have hlt' : (k : Int) < n := by omega
      have HM := hide (keeps_make (unhide hK).2 (by omega) (unhide hK).1 (by omega))
      go_wp2_with fail
      refine (unhide HM).mono ?_
      rintro e w3 ⟨x, A3, wd3, rfl, hM3, hL3, hx3⟩
      have HSt := hide (keeps_set hL3 (unhide hK).2.sp.inv (unhide hK).1 hM3)
      clear hM3 hL3 HM hK
      go_wp2_with fail
      refine (unhide HSt).mono ?_
      rintro e w4 ⟨rfl, wd4, hK4, hL4⟩
      have HH := hide (keeps_hold hL4 x hx3 (by have := heldZ_len k zz; omega))
      have HK4 := hide hK4
      clear hK4 hL4 HSt
      go_wp2_with fail
      refine (unhide HH).mono ?_
      rintro e w5 ⟨rfl, hv5, hL5⟩
      have hq5 := (Fr.refl (fun _ => False) w5).alloc (.cells #[.int .i64 x] 3)
      have hit := it_one hL5.sp (x : Int) 3
      have HAp := hide (keeps_add (hL5.quiet hq5) (by omega) (by have := heldZ_len k zz; simp; omega) (unhide HK4) (by omega) (some ⟨w5.heap.size, 0, none⟩) (by rw [upd_same]; exact hit))
      generalize upd ats k x = at2 at *
      clear hL5 hq5 hit HH HK4
      go_wp2_with fail
      refine (unhide HAp).mono ?_
      rintro e w6 ⟨a, b6, A6, wd6, hv6, rfl, hK6, hL6, ha6⟩
      have HD := hide (keeps_drop hL6)
      have HK6 := hide hK6
      clear hK6 hL6 HAp
      go_wp2_with fail
      refine (unhide HD).mono ?_
      rintro e w7 ⟨rfl, hv7, hL7⟩
      have HD2 := hide (keeps_dropZ hL7)
      clear hL7 HD
      go_wp2_with fail
      refine (unhide HD2).mono ?_
      rintro e w8 ⟨rfl, hv8, hL8⟩
      have HH := hide (keeps_hold hL8 a ha6 (by simp))
      clear hL8 HD2
      go_wp2_with fail
      refine (unhide HH).mono ?_
      rintro e w9 ⟨rfl, hv9, hL9⟩
      have hLz : Lw w1 w9 B 64 p A6 wd6 hv9 (heldZ (k + 1) a) cnt := hL9
      have HC := hide (keeps_collect hLz (by omega) (unhide HK6))
      have HL9 := hide hLz
      clear hLz hL9 HH
      go_wp2_with fail
      · refine (unhide HC).mono ?_
        rintro e w10 ⟨q10, A10, rfl, hK10, hL10, _⟩
        have HK10 := hide (And.intro hK10 hL10)
        clear hK10 hL10 HC HL9 HK6
        go_wp2
        go_roundg (n - (k + 1))
        case measure => have := unhide hgh; omega
        case rel => exact ⟨k + 1, a, _, by omega, hide rfl, rfl, by go_num, A10, wd6, hv9, b6, at2, cnt + 1, by omega, HK10⟩
      · have HK10 := hide (And.intro (unhide HK6) (unhide HL9))
        clear HC HL9 HK6
        go_roundg (n - (k + 1))
        case measure => have := unhide hgh; omega
        case rel => exact ⟨k + 1, a, _, by omega, hide rfl, rfl, by go_num, A6, wd6, hv9, b6, at2, cnt, by omega, HK10⟩
    · obtain rfl : k = n := by omega
      clear hlt hk
      go_wp2
      obtain ⟨wm, rfl⟩ : ∃ wm, wm = wr := ⟨_, rfl⟩
      go_loopg [12] k (fun gh i wr => ∃ j : Nat, j ≤ k ∧ Hid (gh = k - j) ∧ i = .int .i64 j ∧ Hid (Lw w1 wr B 64 p A wd hv (heldZ k zz) cnt))
      case atStart => exact ⟨0, by omega, hide (by omega), rfl, hide (unhide hK).2⟩
      case round =>
        obtain ⟨j, hj, hgh2, rfl, hL⟩ := hrel
        by_cases hlt : j < k
        · have HAt := hide (keeps_at (unhide hL) (unhide hK).1 hlt)
          have hlt' : (j : Int) < k := by omega
          go_wp2_with fail
          refine (unhide HAt).mono ?_
          rintro e w5 ⟨rfl, hL5⟩
          have HG := hide (keeps_get hL5 (unhide hK).1 hlt)
          clear hL5 HAt
          go_wp2_with fail
          refine (unhide HG).mono ?_
          rintro e w6 ⟨rfl, hL6⟩
          have HL6 := hide hL6
          clear hL6 HG
          go_wp2
          go_roundg (k - (j + 1))
          case measure => have := unhide hgh2; omega
          case rel => exact ⟨j + 1, by omega, hide rfl, by go_num, HL6⟩
        · obtain rfl : j = k := by omega
          have HC := hide (keeps_collect (unhide hL) (by omega) (unhide hK).1)
          clear hlt hj
          go_wp2_with fail
          refine (unhide HC).mono ?_
          rintro e w5 ⟨q5, A5, rfl, hK5, hL5, hb5⟩
          have hb : (j = 0 ∧ (blkL A5 64).length = 0) ∨ (0 < j ∧ (blkL A5 64).length = j + 2) := by
            by_cases h0 : j = 0
            · rw [if_pos h0] at hb5; exact .inl ⟨h0, hb5⟩
            · rw [if_neg h0] at hb5; exact .inr ⟨by omega, hb5⟩
          clear hb5 hgh2 hgh
          rcases hb with ⟨rfl, hb5⟩ | ⟨h0, hb5⟩
          all_goals
            have HT := hide (keeps_told hL5 hb5)
            clear hK5 hL5 hb5 HC
            go_wp2_with fail
            refine (unhide HT).mono ?_
            rintro e w6 ⟨q6, rfl, hL6⟩
            have HD := hide (keeps_dropZ hL6)
            clear hL6 HT
            go_wp2_with fail
            refine (unhide HD).mono ?_
            rintro e w7 ⟨rfl, hv7, hL7⟩
            have HC := hide (keeps_collect0 hL7 (by omega))
            clear hL7 HD
            go_wp2_with fail
            refine (unhide HC).mono ?_
            rintro e w8 ⟨q8, A8, rfl, hL8, hb8⟩
            have HT := hide (keeps_told hL8 hb8)
            clear hL8 hb8 HC
            go_wp2_with fail
            refine (unhide HT).mono ?_
            rintro e w9 ⟨q9, rfl, hL9⟩
            have HF9 := hide ((unhide HF1).trans hL9.far)
            clear hL9 HT
            go_wp2
            go_ret
            exact ⟨rfl, unhide HF9⟩
theorem lkeeps_any (x q : Int) (w : World) (hV : Vars w) (_hx : -9223372036854775808 ≤ x ∧ x < 9223372036854775808) (hq : -9223372036854775808 ≤ q ∧ q < 9223372036854775808) :
    Calls Tryd.prog 3 #[.int .i64 x, .int .i64 q] w fun e w' => e = .returned (.bool true) ∧ Below w.heap.size w w' := by
  have key : Calls Tryd.prog 3 #[.int .i64 x, .int .i64 q] w fun e w' => e = .returned (.bool true) ∧ Fr (fun _ => False) w w' := by
    by_cases h : x < 0 ∨ 60 < x ∨ q < 1
    · exact keeps_big x q w hV (by omega)
    · obtain ⟨m, rfl⟩ := Int.eq_ofNat_of_zero_le (show 0 ≤ x by omega)
      exact keeps_main m q w hV (by omega) (by omega) hq.2
  exact key.mono fun _ _ h => ⟨h.1, h.2.below (Nat.le_refl _) (fun _ x => x.elim)⟩
end Go.Proofs.YtkclpbbpcicpiaaDoor
