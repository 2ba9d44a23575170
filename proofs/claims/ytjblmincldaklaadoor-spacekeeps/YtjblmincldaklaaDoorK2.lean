/- SpaceKeeps, walked. -/
import Derived.Test.YtjblmincldaklaaDoorK1
namespace Go.Proofs.YtjblmincldaklaaDoor
open Go.RowKit Go.Proofs.YtjblmincldaklaaDoor.Hp
theorem keeps_start {w0 w : World} {B : HB} {p : Nat} {wd : Nat → Int} {hv : Value} (h : Lw w0 w B 64 p (emptyA 64) wd hv [] 0) : Lw w0 w B 64 p (fillA 64 1 0) wd hv (heldK 0) 0 := by rw [fill_empty]; exact h
set_option maxRecDepth 100000 in
set_option maxHeartbeats 4000000 in
theorem keeps_any (a : Int) (a1 : Option Addr) (cap : Nat) (zs : List Int) (w : World) (hV : Vars w) (ha : (Lit.int .i64 a).wf = true) (hm : zs.length ≤ maxLen) (hz : ∀ z ∈ zs, -9223372036854775808 ≤ z ∧ z < 9223372036854775808)
    (hc : ∀ j, j < zs.length → ∃ b off, a1 = some ⟨b, off, none⟩ ∧ b < w.heap.size ∧ w.cell? ⟨b, off + j, none⟩ = some (.int .i64 (zs.getD j 0))) :
    Calls Tryd.prog 4 #[.int .i64 a, .slice a1 zs.length cap] w fun e w' => e = .returned (.bool true) ∧ Below w.heap.size w w' := by
  have HA := hide (anchor_any w hV)
  have hn := wf_rng ha
  unfold maxLen at hm
  by_cases hb : 1 ≤ a ∧ a ≤ 20 ∧ zs.length ≤ 300
  · obtain ⟨h1, h2, h3⟩ := hb
    obtain ⟨c, rfl⟩ : ∃ c : Nat, a = c := ⟨a.toNat, by omega⟩
    have hc1 : 1 ≤ c := by omega
    have hc20 : c ≤ 20 := by omega
    have HZ := hide hz
    obtain ⟨len, hlen⟩ : ∃ len, len = zs.length := ⟨_, rfl⟩
    have HC := hide hc
    rw [← hlen] at HC h3 ⊢
    have HLn := hide hlen
    clear hn ha hV hz hc hlen hm h1 h2
    go_enter Tryd.func4, Tryd.ntmps4
    go_wp2_with (first | (go_at_call 7; refine (unhide HA).mono ?_; rintro e w1 ⟨rfl, hF1, hV1⟩; have HF1 := hide hF1; have HN := hide (SNew_any 4096 w1 (by omega) (by omega) hV1); clear hF1 hV1) | (go_at_call 8; refine (unhide HN).mono ?_; rintro e w2 ⟨B, p, rfl, hL⟩; have HL := hide (keeps_start hL); clear hL))
    go_loopw [6, 7] (fun f i wr => ∃ k : Nat, k ≤ c ∧ i = .int .i64 k ∧ f = .int .i64 (lastK k) ∧ ∃ wd hv, Hid (Chn k (fillA 64 1 k) wd) ∧ Hid (Lw w1 wr B 64 p (fillA 64 1 k) wd hv (heldK k) 0)) (fun _ i _ => c - (intOf i).toNat)
    case atStart => exact ⟨0, by omega, rfl, rfl, fun _ => 0, _, hide ⟨fun j hj => absurd hj (by omega), fun j hj => absurd hj (by omega), fun j hj => absurd hj (by omega), fun j hj => absurd hj (by omega), fun j hj => absurd hj (by omega)⟩, HL⟩
    case round =>
      obtain ⟨k, hk, rfl, rfl, wd, hv, hCh, hL⟩ := hrel
      by_cases hlt : k < c
      · obtain ⟨x0, e0⟩ : ∃ x0, x0 = (newW wd (64 + 4 * k) (1 + (3 : Int).toNat) (hdr 4 3 2)) := ⟨_, rfl⟩
        obtain ⟨x1, e1⟩ : ∃ x1, x1 = upd x0 (64 + 4 * k + (1 + 0)) (k : Int) := ⟨_, rfl⟩
        obtain ⟨x2, e2⟩ : ∃ x2, x2 = upd x1 (64 + 4 * k + (1 + 1)) (lastK k) := ⟨_, rfl⟩
        obtain ⟨x3, e3⟩ : ∃ x3, x3 = addW wd k := ⟨_, rfl⟩
        have e3' : upd x2 (64 + 4 * k + (1 + 2)) 64 = x3 := by rw [e3, e2, e1, e0]; rfl
        have s0 : hS (x0 (64 + 4 * k)) = 3 := by rw [e0, newW_at, hs432]
        have s1 : hS (x1 (64 + 4 * k)) = 3 := by rw [e1, upd_ne _ _ (by omega), s0]
        have s2 : hS (x2 (64 + 4 * k)) = 3 := by rw [e2, upd_ne _ _ (by omega), s1]
        have HM : Hid (Calls Tryd.prog 12 #[.pointer (some ⟨p, 0, none⟩), .int .i64 4, .int .i64 3, .int .i64 2] wr fun e w' => e = .returned (.tuple #[.int .i64 ((64 + 4 * k : Nat) : Int), .bool true]) ∧ Lw w1 w' B 64 p (fillA 64 1 (k + 1)) x0 hv (heldK k) 0) := hide (by
          rw [e0]
          refine (Make_to (unhide hL).sp (by omega) (k := 4) (s := 3) (m := 2) (by decide) (keeps_goes (k := k) (by omega))).mono ?_
          rintro e w' ⟨rfl, hs, hF⟩
          exact ⟨rfl, (unhide hL).heap hs hF⟩)
        have hr : roomN (fillA 64 1 (k + 1)) (64 + 4 * k) ≠ 0 := by rw [keeps_room (k := k + 1) (by omega) k (by omega)]; omega
        have HS0 : Hid (∀ W hv1 held1, Lw w1 W B 64 p (fillA 64 1 (k + 1)) x0 hv1 held1 0 → Calls Tryd.prog 13 #[.pointer (some ⟨p, 0, none⟩), .int .i64 ((64 + 4 * k : Nat) : Int), .int .i64 0, .int .i64 k] W fun e w' => e = .returned (.bool true) ∧ Lw w1 w' B 64 p (fillA 64 1 (k + 1)) x1 hv1 held1 0) := hide fun W hv1 held1 hl =>
          by rw [e1]; exact Set_to hl (q := 0) k hr (by rw [s0]; decide)
        have HS1 : Hid (∀ W hv1 held1, Lw w1 W B 64 p (fillA 64 1 (k + 1)) x1 hv1 held1 0 → Calls Tryd.prog 13 #[.pointer (some ⟨p, 0, none⟩), .int .i64 ((64 + 4 * k : Nat) : Int), .int .i64 1, .int .i64 (lastK k)] W fun e w' => e = .returned (.bool true) ∧ Lw w1 w' B 64 p (fillA 64 1 (k + 1)) x2 hv1 held1 0) := hide fun W hv1 held1 hl =>
          by rw [e2]; exact Set_to hl (q := 1) (lastK k) hr (by rw [s1]; decide)
        have HS2 : Hid (∀ W hv1 held1, Lw w1 W B 64 p (fillA 64 1 (k + 1)) x2 hv1 held1 0 → Calls Tryd.prog 13 #[.pointer (some ⟨p, 0, none⟩), .int .i64 ((64 + 4 * k : Nat) : Int), .int .i64 2, .int .i64 64] W fun e w' => e = .returned (.bool true) ∧ Lw w1 w' B 64 p (fillA 64 1 (k + 1)) x3 hv1 held1 0) := hide fun W hv1 held1 hl =>
          by rw [← e3']; exact Set_to hl (q := 2) 64 hr (by rw [s2]; decide)
        have HDr : Hid (∀ W hv1, Lw w1 W B 64 p (fillA 64 1 (k + 1)) x3 hv1 (heldK k) 0 → Calls Tryd.prog 14 #[.pointer (some ⟨p, 0, none⟩), .int .i64 1] W fun e w' => e = .returned (.tuple #[]) ∧ ∃ hv2, Lw w1 w' B 64 p (fillA 64 1 (k + 1)) x3 hv2 [] 0) := hide fun W hv1 hl => by
          refine (Drop_to hl 1 (by omega)).mono ?_
          rintro e w' ⟨rfl, hv2, h2⟩
          have : (heldK k).take (leftN (heldK k).length 1) = [] := by unfold heldK leftN; split <;> simp
          rw [this] at h2
          exact ⟨rfl, hv2, h2⟩
        have HHo : Hid (∀ W hv1, Lw w1 W B 64 p (fillA 64 1 (k + 1)) x3 hv1 [] 0 → Calls Tryd.prog 15 #[.pointer (some ⟨p, 0, none⟩), .int .i64 ((64 + 4 * k : Nat) : Int)] W fun e w' => e = .returned (.tuple #[]) ∧ ∃ hv2, Lw w1 w' B 64 p (fillA 64 1 (k + 1)) x3 hv2 (heldK (k + 1)) 0) := hide fun W hv1 hl => by
          refine (Hold_to hl _ (by omega) (by decide)).mono ?_
          rintro e w' ⟨rfl, hv2, h2⟩
          exact ⟨rfl, hv2, h2⟩
        have hl1 : lastK (k + 1) = ((64 + 4 * k : Nat) : Int) := rfl
        have HAd := hide (keeps_add (wd := wd) (k := k) (by omega) (unhide hCh))
        rw [← e3] at HAd
        clear e0 e1 e2 e3 e3' s0 s1 s2 hr
        generalize ((64 + 4 * k : Nat) : Int) = at_ at HM HS0 HS1 HS2 HHo hl1
        generalize lastK k = fi at HS1 ⊢
        go_wp2_with (first | (go_at_call 15; refine (unhide HHo _ _ (unhide HL7)).mono ?_; rintro e w8 ⟨rfl, hv8, hL8⟩; have HL8 := hide hL8; clear hL8) | (go_at_call 14; refine (unhide HDr _ _ (unhide HL6)).mono ?_; rintro e w7 ⟨rfl, hv7, hL7⟩; have HL7 := hide hL7; clear hL7) | (go_at_call 13; refine (unhide HS2 _ _ _ (unhide HL5)).mono ?_; rintro e w6 ⟨rfl, hL6⟩; have HL6 := hide hL6; clear hL6) | (go_at_call 13; refine (unhide HS1 _ _ _ (unhide HL4)).mono ?_; rintro e w5 ⟨rfl, hL5⟩; have HL5 := hide hL5; clear hL5) | (go_at_call 13; refine (unhide HS0 _ _ _ (unhide HL3)).mono ?_; rintro e w4 ⟨rfl, hL4⟩; have HL4 := hide hL4; clear hL4) | (go_at_call 12; refine (unhide HM).mono ?_; rintro e w3 ⟨rfl, hL3⟩; have HL3 := hide hL3; clear hL3))
        go_roundw
        case rel => exact ⟨k + 1, by omega, by go_num, by rw [hl1], _, _, HAd, HL8⟩
        case measure => simp [intOf]; omega
      · obtain rfl : k = c := by omega
        go_wp2
        obtain ⟨wm, rfl⟩ : ∃ wm, wm = wr := ⟨_, rfl⟩
        have hlk : lastK k = ((64 + 4 * (k - 1) : Nat) : Int) := by unfold lastK; rw [if_neg (by omega)]
        have hhk : heldK k = [((64 + 4 * (k - 1) : Nat) : Int)] := by unfold heldK; rw [if_neg (by omega)]
        have HK0 : Hid (Kp w1 wm B p k (fillA 64 1 k) wd hv 0) := hide ⟨by rw [← hhk]; exact unhide hL, unhide hCh⟩
        rw [hlk]
        clear hlk hhk hL hCh
        go_loopg [78] len (fun gh i wr => ∃ j : Nat, j ≤ len ∧ Hid (gh = len - j) ∧ i = .int .i64 j ∧ ∃ A wd hv cnt, cnt ≤ j ∧ Hid (Kp w1 wr B p k A wd hv cnt))
        case atStart => exact ⟨0, by omega, hide (by omega), rfl, fillA 64 1 k, wd, hv, 0, by omega, HK0⟩
        case round =>
          obtain ⟨j, hj, hgh, rfl, A, wd, hv, cnt, hcn, hK⟩ := hrel
          by_cases hlt : j < len
          · obtain ⟨b, off, rfl, hb, hcz⟩ := unhide HC j hlt
            have hz1 : wr.cell? ⟨b, off + j, none⟩ = some (.int .i64 (zs.getD j 0)) := cell_far ((unhide HF1).trans (unhide hK).lw.far) hb hcz
            generalize zs.getD j 0 = z at *
            clear hcz
            by_cases hr : 0 ≤ z ∧ z < 600
            · have HM := hide (keeps_make (unhide hK) (by omega) (by omega) (by omega) hr.1 hr.2)
              obtain ⟨hr1, hr2⟩ := hr
              go_wp2_with (first | (go_at_call 12; refine (unhide HM).mono ?_; rintro e w3 ⟨a3, rfl, A3, wd3, cnt3, hc3, hK3⟩; have HK3 := hide hK3; clear hK3))
              go_roundg (len - (j + 1))
              case measure => have := unhide hgh; omega
              case rel => exact ⟨j + 1, by omega, hide rfl, by go_num, _, _, _, cnt3, by omega, HK3⟩
            · have hr' : z < 0 ∨ 600 ≤ z := by omega
              clear hr
              rcases hr' with hr' | hr'
              · go_wp2
                go_roundg (len - (j + 1))
                case measure => have := unhide hgh; omega
                case rel => exact ⟨j + 1, by omega, hide rfl, by go_num, _, _, _, cnt, by omega, hK⟩
              · have hr0 : 0 ≤ z := by omega
                go_wp2
                go_roundg (len - (j + 1))
                case measure => have := unhide hgh; omega
                case rel => exact ⟨j + 1, by omega, hide rfl, by go_num, _, _, _, cnt, by omega, hK⟩
          · obtain rfl : j = len := by omega
            go_wp2
            obtain ⟨wm, rfl⟩ : ∃ wm, wm = wr := ⟨_, rfl⟩
            go_loopg [14, 15] k (fun gh a i wr => ∃ q : Nat, q ≤ k ∧ Hid (gh = q) ∧ i = .int .i64 ((q : Int) - 1) ∧ a = .int .i64 (lastK q) ∧ Hid (Kp w1 wr B p k A wd hv cnt))
            case atStart => exact ⟨k, by omega, hide rfl, rfl, by unfold lastK; rw [if_neg (by omega)], hK⟩
            case round =>
              clear hK
              obtain ⟨q, hq, hgh3, rfl, rfl, hK⟩ := hrel
              by_cases hlt : 0 < q
              · obtain ⟨r, rfl⟩ : ∃ r, q = r + 1 := ⟨q - 1, by omega⟩
                have hlq : lastK (r + 1) = ((64 + 4 * r : Nat) : Int) := rfl
                have hr : roomN A (64 + 4 * r) ≠ 0 := by rw [(unhide hK).chn.room r (by omega)]; omega
                have hs : hS (wd (64 + 4 * r)) = 3 := by rw [(unhide hK).chn.hd r (by omega), hs432]
                have HG0 : Hid (∀ W, Kp w1 W B p k A wd hv cnt → Calls Tryd.prog 16 #[.pointer (some ⟨p, 0, none⟩), .int .i64 ((64 + 4 * r : Nat) : Int), .int .i64 0] W fun e w' => e = .returned (.int .i64 (r : Int)) ∧ Kp w1 w' B p k A wd hv cnt) := hide fun W hk => by
                  refine (Get_to hk.lw (q := 0) hr (by rw [hs]; decide)).mono ?_
                  rintro e w' ⟨rfl, h2⟩
                  rw [show 64 + 4 * r + (1 + 0) = 64 + 4 * r + 1 by omega, hk.chn.w0 r (by omega)]
                  exact ⟨rfl, h2, hk.chn⟩
                have HG1 : Hid (∀ W, Kp w1 W B p k A wd hv cnt → Calls Tryd.prog 16 #[.pointer (some ⟨p, 0, none⟩), .int .i64 ((64 + 4 * r : Nat) : Int), .int .i64 1] W fun e w' => e = .returned (.int .i64 (lastK r)) ∧ Kp w1 w' B p k A wd hv cnt) := hide fun W hk => by
                  refine (Get_to hk.lw (q := 1) hr (by rw [hs]; decide)).mono ?_
                  rintro e w' ⟨rfl, h2⟩
                  rw [show 64 + 4 * r + (1 + 1) = 64 + 4 * r + 2 by omega, hk.chn.w1 r (by omega)]
                  exact ⟨rfl, h2, hk.chn⟩
                have HG2 : Hid (∀ W, Kp w1 W B p k A wd hv cnt → Calls Tryd.prog 16 #[.pointer (some ⟨p, 0, none⟩), .int .i64 ((64 + 4 * r : Nat) : Int), .int .i64 2] W fun e w' => e = .returned (.int .i64 64) ∧ Kp w1 w' B p k A wd hv cnt) := hide fun W hk => by
                  refine (Get_to hk.lw (q := 2) hr (by rw [hs]; decide)).mono ?_
                  rintro e w' ⟨rfl, h2⟩
                  rw [show 64 + 4 * r + (1 + 2) = 64 + 4 * r + 3 by omega, hk.chn.w2 r (by omega)]
                  exact ⟨rfl, h2, hk.chn⟩
                rw [hlq]
                clear hlq hr hs
                generalize ((64 + 4 * r : Nat) : Int) = at_ at HG0 HG1 HG2 ⊢
                go_wp2_with (first | (go_at_call 16; refine (unhide HG1 _ (unhide HK4)).mono ?_; rintro e w5 ⟨rfl, hK5⟩; have HK5 := hide hK5; clear hK5) | (go_at_call 16; refine (unhide HG2 _ (unhide HK3)).mono ?_; rintro e w4 ⟨rfl, hK4⟩; have HK4 := hide hK4; clear hK4) | (go_at_call 16; refine (unhide HG0 _ (unhide hK)).mono ?_; rintro e w3 ⟨rfl, hK3⟩; have HK3 := hide hK3; clear hK3))
                go_roundg r
                case measure => have := unhide hgh3; omega
                case rel => exact ⟨r, by omega, hide rfl, by go_num, rfl, HK5⟩
              · obtain rfl : q = 0 := by omega
                have hl0 : lastK 0 = 0 := rfl
                have HCo := hide (keeps_collect (unhide hK) (by omega) (by omega))
                have HDr : Hid (∀ W A1 hv1, Lw w1 W B 64 p A1 wd hv1 [((64 + 4 * (k - 1) : Nat) : Int)] (cnt + 1) → Calls Tryd.prog 14 #[.pointer (some ⟨p, 0, none⟩), .int .i64 1] W fun e w' => e = .returned (.tuple #[]) ∧ ∃ hv2, Lw w1 w' B 64 p A1 wd hv2 [] (cnt + 1)) := hide fun W A1 hv1 hl => by
                  refine (Drop_to hl 1 (by omega)).mono ?_
                  rintro e w' ⟨rfl, hv2, h2⟩
                  exact ⟨rfl, hv2, h2⟩
                rw [hl0]
                clear hl0
                go_wp2_with (first | (go_at_call 18; refine (none_told (unhide HL7)).mono ?_; rintro e w8 ⟨rfl, hL8⟩; have HL8 := hide hL8; clear hL8) | (go_at_call 17; refine (none_collect (unhide HL6) (by omega)).mono ?_; rintro e w7 ⟨q7, rfl, hL7⟩; have HL7 := hide hL7; clear hL7) | (go_at_call 14; refine (unhide HDr _ _ _ (unhide HL5)).mono ?_; rintro e w6 ⟨rfl, hv6, hL6⟩; have HL6 := hide hL6; clear hL6) | (go_at_call 18; refine (live_told (unhide HL4) (unhide HLi)).mono ?_; rintro e w5 ⟨q5, rfl, hL5⟩; have HL5 := hide hL5; clear hL5) | (go_at_call 17; refine (unhide HCo).mono ?_; rintro e w4 ⟨q4, A4, rfl, hLi, hL4⟩; have HL4 := hide hL4; have HLi := hide hLi; clear hL4 hLi))
                go_ret
                exact ⟨rfl, ((unhide HF1).trans (unhide HL8).far).below (Nat.le_refl _) (fun _ x => x.elim)⟩
  · have hb' : a < 1 ∨ 20 < a ∨ 300 < zs.length := by omega
    have HR : Hid (∀ W, Fr (fun _ => False) w W → Below w.heap.size w W) := hide fun W hF => hF.below (Nat.le_refl _) (fun _ x => x.elim)
    obtain ⟨len, hlen⟩ : ∃ len, len = zs.length := ⟨_, rfl⟩
    rw [← hlen] at hb' hm ⊢
    clear hV hz hc hlen hb ha
    go_enter Tryd.func4, Tryd.ntmps4
    go_wp2_with (first | (go_at_call 7; refine (unhide HA).mono ?_; rintro e w1 ⟨rfl, hF1, hV1⟩; have HF1 := hide hF1; clear hF1 hV1))
    all_goals first | (exfalso; omega) | (go_ret; exact ⟨rfl, unhide HR _ (unhide HF1)⟩)
end Go.Proofs.YtjblmincldaklaaDoor
