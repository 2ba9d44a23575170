/- SpaceDrops, walked. -/
import Derived.Test.YtjblmincldaklaaDoorD0
import Derived.Test.YtjblmincldaklaaDoorOq
namespace Go.Proofs.YtjblmincldaklaaDoor
open Go.RowKit Go.Proofs.YtjblmincldaklaaDoor.Hp
theorem drops_start {w0 w : World} {B : HB} {p : Nat} {wd : Nat → Int} {hv : Value} (h : Lw w0 w B 64 p (emptyA 64) wd hv [] 0) : Lw w0 w B 64 p (fillA 64 0 0) wd hv (heldN 0) 0 := by rw [fill_empty]; exact h
/-- A block is made and held twice. -/
theorem drops_goes {k : Nat} (hk : k < 30) : Goes 64 (fillA 64 0 k) (1 + (1 : Int).toNat) (64 + 2 * k) (fillA 64 0 (k + 1)) := by
  have := fill_goes (n := 64) (m := 2) (k := k) (by decide) (by rw [show 2 ^ (5 - clOf 2) * (64 - 1) = 2016 by decide]; omega)
  rw [show clOf 2 = 0 by decide] at this
  rw [show 64 + 2 * k = 64 + k * 2 ^ (0 + 1) by omega]
  exact this
set_option maxRecDepth 100000 in
set_option maxHeartbeats 4000000 in
theorem drops_any (a : Int) (a1 : Option Addr) (cap : Nat) (zs : List Int) (w : World) (hV : Vars w) (ha : (Lit.int .i64 a).wf = true) (hm : zs.length ≤ maxLen) (hz : ∀ z ∈ zs, -9223372036854775808 ≤ z ∧ z < 9223372036854775808)
    (hc : ∀ j, j < zs.length → ∃ b off, a1 = some ⟨b, off, none⟩ ∧ b < w.heap.size ∧ w.cell? ⟨b, off + j, none⟩ = some (.int .i64 (zs.getD j 0))) :
    Calls Tryd.prog 6 #[.int .i64 a, .slice a1 zs.length cap] w fun e w' => e = .returned (.bool true) ∧ Below w.heap.size w w' := by
  have HA := hide (anchor_any w hV)
  have hn := wf_rng ha
  unfold maxLen at hm
  by_cases hb : 0 ≤ a ∧ a ≤ 30 ∧ zs.length ≤ 30
  · obtain ⟨h1, h2, h3⟩ := hb
    obtain ⟨n, rfl⟩ : ∃ n : Nat, a = n := ⟨a.toNat, by omega⟩
    have hn30 : n ≤ 30 := by omega
    have HZ := hide hz
    obtain ⟨len, hlen⟩ : ∃ len, len = zs.length := ⟨_, rfl⟩
    have HC := hide hc
    rw [← hlen] at HC h3 ⊢
    have HLn := hide hlen
    clear hn ha hV hz hc hlen hm h1 h2
    go_enter Tryd.func6, Tryd.ntmps6
    go_wp2_with (first | (go_at_call 7; refine (unhide HA).mono ?_; rintro e w1 ⟨rfl, hF1, hV1⟩; have HF1 := hide hF1; have HN := hide (SNew_any 4096 w1 (by omega) (by omega) hV1); clear hF1 hV1) | (go_at_call 8; refine (unhide HN).mono ?_; rintro e w2 ⟨B, p, rfl, hL⟩; have HL := hide (drops_start hL); clear hL))
    go_loopw [6] (fun i wr => ∃ k : Nat, k ≤ n ∧ i = .int .i64 k ∧ ∃ wd hv, Hid (∀ j, j < k → wd (64 + 2 * j) = hdr 1 1 0) ∧ Hid (Lw w1 wr B 64 p (fillA 64 0 k) wd hv (heldN k) 0)) (fun i _ => n - (intOf i).toNat)
    case atStart => exact ⟨0, by omega, rfl, fun _ => 0, _, hide (fun j hj => absurd hj (by omega)), HL⟩
    case round =>
      obtain ⟨k, hk, rfl, wd, hv, hW, hL⟩ := hrel
      by_cases hlt : k < n
      · have HM := hide (Make_to (unhide hL).sp (by omega) (k := 1) (s := 1) (m := 0) (by decide) (drops_goes (k := k) (by omega)))
        have HHo : Hid (∀ W wd1 hv1 held1, Lw w1 W B 64 p (fillA 64 0 (k + 1)) wd1 hv1 held1 0 → held1.length < 900 → Calls Tryd.prog 15 #[.pointer (some ⟨p, 0, none⟩), .int .i64 ((64 + 2 * k : Nat) : Int)] W fun e w' => e = .returned (.tuple #[]) ∧ ∃ hv2, Lw w1 w' B 64 p (fillA 64 0 (k + 1)) wd1 hv2 (held1 ++ [((64 + 2 * k : Nat) : Int)]) 0) := hide fun W wd1 hv1 held1 hl hh => by
          refine (Hold_any hl.sp _ (by omega) hh).mono ?_
          rintro e w' ⟨hv2, rfl, hs, hF, hg⟩
          exact ⟨rfl, hv2, hl.to hs hF hg⟩
        have hlk := heldN_len k
        go_wp2_with (first | (go_at_call 12; refine (unhide HM).mono ?_; rintro e w3 ⟨rfl, hs, hF⟩; have HL3 := hide ((unhide hL).heap hs hF); clear hs hF) | (go_at_call 15; refine (unhide HHo _ _ _ _ (unhide HL4) (by rw [List.length_append, hlk]; simp; omega)).mono ?_; rintro e w5 ⟨rfl, hv5, hL5⟩; have HL5 := hide hL5; clear hL5) | (go_at_call 15; refine (unhide HHo _ _ _ _ (unhide HL3) (by omega)).mono ?_; rintro e w4 ⟨rfl, hv4, hL4⟩; have HL4 := hide hL4; clear hL4))
        go_roundw
        case rel =>
          refine ⟨k + 1, by omega, by go_num, _, hv5, hide fun j hj => ?_, hide (by have := unhide HL5; rw [heldN_succ] at this; exact this)⟩
          by_cases e : j = k
          · subst e; exact newW_at
          · rw [newW_low (by omega)]; exact unhide hW j (by omega)
        case measure => simp [intOf]; omega
      · obtain rfl : k = n := by omega
        go_wp2
        obtain ⟨wm, rfl⟩ : ∃ wm, wm = wr := ⟨_, rfl⟩
        go_loopw [9, 53] (fun l i wr => ∃ j left : Nat, j ≤ len ∧ i = .int .i64 j ∧ l = .int .i64 left ∧ left ≤ 60 ∧ ∃ A wd hv, Hid (Drp k A wd left) ∧ Hid (Lw w1 wr B 64 p A wd hv ((heldN k).take left) j)) (fun _ i _ => len - (intOf i).toNat)
        case atStart =>
          refine ⟨0, 2 * k, by omega, rfl, by go_num, by omega, fillA 64 0 k, wd, hv, hide ⟨by omega, ?_, unhide hW⟩, hide ?_⟩
          · have := fill_live (n := 64) (m := 2) (by decide) k (by rw [show 2 ^ (5 - clOf 2) * (64 - 1) = 2016 by decide]; omega)
            rw [show clOf 2 = 0 by decide] at this
            rw [show (2 * k + 1) / 2 = k by omega]
            exact this
          · rw [show (heldN k).take (2 * k) = heldN k by rw [← heldN_len k, List.take_length]]
            exact unhide hL
        case round =>
          clear hL hW
          obtain ⟨j, left, hj, rfl, rfl, hl60, A, wd, hv, hD, hL⟩ := hrel
          by_cases hlt : j < len
          · obtain ⟨b, off, rfl, hb, hcz⟩ := unhide HC j hlt
            have hjz : j < zs.length := by have := unhide HLn; omega
            have hzr := unhide HZ _ (getD_mem hjz)
            have hz1 : wr.cell? ⟨b, off + j, none⟩ = some (.int .i64 (zs.getD j 0)) := cell_far ((unhide HF1).trans (unhide hL).far) hb hcz
            generalize zs.getD j 0 = z at *
            obtain ⟨l2, hl2⟩ : ∃ l2, l2 = leftN left z := ⟨_, rfl⟩
            have hl2' : l2 ≤ left := by rw [hl2]; unfold leftN; omega
            have hwr : (left : Int) - min (max 0 z) left = l2 := by rw [hl2]; unfold leftN; omega
            have HDr : Hid (Calls Tryd.prog 14 #[.pointer (some ⟨p, 0, none⟩), .int .i64 z] wr fun e w' => e = .returned (.tuple #[]) ∧ ∃ hv2, Lw w1 w' B 64 p A wd hv2 ((heldN k).take l2) j) := hide (by
              refine (Drop_any (unhide hL).sp z hzr).mono ?_
              rintro e w' ⟨hv2, rfl, hs, hF, hg⟩
              rw [take_left (unhide hD).le, ← hl2] at hs
              exact ⟨rfl, hv2, (unhide hL).to hs (hF.mono fun k e => .inr (.inl e)) (fun g e => .inl (by rw [← hg]; exact e))⟩)
            have HCo : Hid (∀ W hv2, Lw w1 W B 64 p A wd hv2 ((heldN k).take l2) j → Calls Tryd.prog 17 #[.pointer (some ⟨p, 0, none⟩)] W fun e w' => ∃ q A1, e = .returned (.int .i64 q) ∧ Drp k A1 wd l2 ∧ Lw w1 w' B 64 p A1 wd hv2 ((heldN k).take l2) (j + 1)) := hide fun W hv2 hl => by
              refine (SCollect_any hl.sp (by omega)).mono ?_
              rintro e w' ⟨rb, A1, hg, rfl, hs, hF⟩
              exact ⟨_, A1, rfl, (unhide hD).gc hl2' hg, hl.heap hs hF⟩
            have HTo : Hid (∀ W A1 hv2, Drp k A1 wd l2 → Lw w1 W B 64 p A1 wd hv2 ((heldN k).take l2) (j + 1) → Calls Tryd.prog 18 #[.pointer (some ⟨p, 0, none⟩)] W fun e w' => ∃ q, e = .returned (.tuple #[.int .i64 (((l2 : Int) + 1) / 2), .int .i64 ((j + 1 : Nat) : Int), .int .i64 q]) ∧ Lw w1 w' B 64 p A1 wd hv2 ((heldN k).take l2) (j + 1)) := hide fun W A1 hv2 hd hl => by
              refine (Told_any hl.sp).mono ?_
              rintro e w' ⟨rfl, hF⟩
              rw [live_len hl.sp.inv hd.live (by decide), show (((l2 + 1) / 2 : Nat) : Int) = ((l2 : Int) + 1) / 2 by omega]
              exact ⟨_, rfl, hl.quiet hF⟩
            have h3 : z < 0 ∨ z = 0 ∨ (0 < z ∧ z ≤ left) ∨ (left : Int) < z := by omega
            clear hl2 hcz
            rcases h3 with h3 | h3 | ⟨h3, h4⟩ | h3
            · obtain rfl : left = l2 := by omega
              clear hwr
              go_wp2_with (first | (go_at_call 14; refine (unhide HDr).mono ?_; rintro e w3 ⟨rfl, hv3, hL3⟩; have HL3 := hide hL3; clear hL3) | (go_at_call 17; refine (unhide HCo _ _ (unhide HL3)).mono ?_; rintro e w4 ⟨q4, A4, rfl, hD4, hL4⟩; have HL4 := hide hL4; have HD4 := hide hD4; clear hL4 hD4) | (go_at_call 18; refine (unhide HTo _ _ _ (unhide HD4) (unhide HL4)).mono ?_; rintro e w5 ⟨q5, rfl, hL5⟩; have HL5 := hide hL5; clear hL5))
              go_roundw
              case rel => exact ⟨j + 1, _, by omega, by go_num, by go_num, by omega, _, _, _, HD4, HL5⟩
              case measure => simp [intOf]; omega
            · obtain rfl : left = l2 := by omega
              clear hwr
              subst h3
              go_wp2_with (first | (go_at_call 14; refine (unhide HDr).mono ?_; rintro e w3 ⟨rfl, hv3, hL3⟩; have HL3 := hide hL3; clear hL3) | (go_at_call 17; refine (unhide HCo _ _ (unhide HL3)).mono ?_; rintro e w4 ⟨q4, A4, rfl, hD4, hL4⟩; have HL4 := hide hL4; have HD4 := hide hD4; clear hL4 hD4) | (go_at_call 18; refine (unhide HTo _ _ _ (unhide HD4) (unhide HL4)).mono ?_; rintro e w5 ⟨q5, rfl, hL5⟩; have HL5 := hide hL5; clear hL5))
              go_roundw
              case rel => exact ⟨j + 1, _, by omega, by go_num, by go_num, by omega, _, _, _, HD4, HL5⟩
              case measure => simp [intOf]; omega
            · obtain ⟨q, rfl⟩ : ∃ q : Nat, z = q := ⟨z.toNat, by omega⟩
              obtain rfl : l2 = left - q := by omega
              clear hwr
              have hsub : ((left - q : Nat) : Int) = (left : Int) - q := by omega
              rw [hsub] at HTo
              clear hsub
              go_wp2_with (first | (go_at_call 14; refine (unhide HDr).mono ?_; rintro e w3 ⟨rfl, hv3, hL3⟩; have HL3 := hide hL3; clear hL3) | (go_at_call 17; refine (unhide HCo _ _ (unhide HL3)).mono ?_; rintro e w4 ⟨q4, A4, rfl, hD4, hL4⟩; have HL4 := hide hL4; have HD4 := hide hD4; clear hL4 hD4) | (go_at_call 18; refine (unhide HTo _ _ _ (unhide HD4) (unhide HL4)).mono ?_; rintro e w5 ⟨q5, rfl, hL5⟩; have HL5 := hide hL5; clear hL5))
              go_roundw
              case rel => exact ⟨j + 1, _, by omega, by go_num, by go_num, by omega, _, _, _, HD4, HL5⟩
              case measure => simp [intOf]; omega
            · obtain rfl : l2 = 0 := by omega
              clear hwr
              go_wp2_with (first | (go_at_call 14; refine (unhide HDr).mono ?_; rintro e w3 ⟨rfl, hv3, hL3⟩; have HL3 := hide hL3; clear hL3) | (go_at_call 17; refine (unhide HCo _ _ (unhide HL3)).mono ?_; rintro e w4 ⟨q4, A4, rfl, hD4, hL4⟩; have HL4 := hide hL4; have HD4 := hide hD4; clear hL4 hD4) | (go_at_call 18; refine (unhide HTo _ _ _ (unhide HD4) (unhide HL4)).mono ?_; rintro e w5 ⟨q5, rfl, hL5⟩; have HL5 := hide hL5; clear hL5))
              go_roundw
              case rel => exact ⟨j + 1, _, by omega, by go_num, by go_num, by omega, _, _, _, HD4, HL5⟩
              case measure => simp [intOf]; omega
          · have HR : Hid (Below w.heap.size w wr) := hide (((unhide HF1).trans (unhide hL).far).below (Nat.le_refl _) (fun _ x => x.elim))
            go_wp2
            go_ret
            exact ⟨rfl, unhide HR⟩
  · have hb' : a < 0 ∨ 30 < a ∨ 30 < zs.length := by omega
    have HR : Hid (∀ W, Fr (fun _ => False) w W → Below w.heap.size w W) := hide fun W hF => hF.below (Nat.le_refl _) (fun _ x => x.elim)
    obtain ⟨len, hlen⟩ : ∃ len, len = zs.length := ⟨_, rfl⟩
    rw [← hlen] at hb' hm ⊢
    clear hV hz hc hlen hb ha
    go_enter Tryd.func6, Tryd.ntmps6
    go_wp2_with (first | (go_at_call 7; refine (unhide HA).mono ?_; rintro e w1 ⟨rfl, hF1, hV1⟩; have HF1 := hide hF1; clear hF1 hV1))
    all_goals first | (exfalso; omega) | (go_ret; exact ⟨rfl, unhide HR _ (unhide HF1)⟩)
end Go.Proofs.YtjblmincldaklaaDoor
