/- ListGrows, walked. -/
import Derived.Test.YtkclpbbpcicpiaaDoorGr
namespace Go.Proofs.YtkclpbbpcicpiaaDoor
open Go.RowKit Go.Proofs.YtkclpbbpcicpiaaDoor.Hp
variable {w0 w w' w1 w2 : World} {B : HB} {n p m d q : Nat} {A A' A1 A2 : Nat → Kd} {wd wd' wd1 wd2 : Nat → Int} {hv hv1 hv2 : Value} {held : List Int} {cnt cnt' : Nat} {a b lo N c k room : Nat} {f : Nat → Int} {z : Int}
theorem nums_drop (h : Lw w0 w B 512 p A wd hv (heldZ k z) 0) (d : Int) (hd : d = min (k : Int) 1) :
    Calls Tryd.prog 13 #[.pointer (some ⟨p, 0, none⟩), .int .i64 d] w fun e w' => e = .returned (.tuple #[]) ∧ ∃ hv', Lw w0 w' B 512 p A wd hv' [] 0 := by
  refine (DropT h.sp d (by omega)).mono ?_
  rintro e w' ⟨hv', rfl, hs, ht⟩
  refine ⟨rfl, hv', ?_⟩
  have : (heldZ k z).take (leftN (heldZ k z).length d) = [] := by
    unfold heldZ
    by_cases h0 : k = 0
    · rw [if_pos h0]; simp
    · rw [if_neg h0]
      have : leftN [z].length d = 0 := by
        unfold leftN
        simp
        omega
      rw [this]; rfl
  rw [this] at hs
  exact h.step hs ht
theorem nums_hold (h : Lw w0 w B 512 p A wd hv [] 0) (a : Nat) (ha : a < 100000) :
    Calls Tryd.prog 11 #[.pointer (some ⟨p, 0, none⟩), .int .i64 a] w fun e w' => e = .returned (.tuple #[]) ∧ ∃ hv', Lw w0 w' B 512 p A wd hv' (heldZ (k + 1) a) 0 := by
  refine (HoldT h.sp a (by omega) (by simp)).mono ?_
  rintro e w' ⟨hv', rfl, hs, ht⟩
  exact ⟨rfl, hv', h.step hs ht⟩
theorem nums_size (h : Lw w0 w B 512 p A wd hv held 0) (hN : Nums 512 A wd z k room) :
    Calls Tryd.prog 20 #[.pointer (some ⟨p, 0, none⟩), .int .i64 z] w fun e w' => e = .returned (.tuple #[.int .i64 k, .int .i64 room]) ∧ Lw w0 w' B 512 p A wd hv held 0 := by
  obtain ⟨b, hs, _⟩ := hN.sl
  exact (Size_to h.sp hs).mono fun _ _ x => ⟨x.1, h.quiet x.2⟩
theorem nums_at (h : Lw w0 w B 512 p A wd hv held 0) (hN : Nums 512 A wd z k room) {i : Nat} (hi : i < k) :
    Calls Tryd.prog 15 #[.pointer (some ⟨p, 0, none⟩), .int .i64 z, .int .i64 i] w fun e w' => e = .returned (.tuple #[.int .i64 i, .bool true]) ∧ Lw w0 w' B 512 p A wd hv held 0 := by
  obtain ⟨b, hs, ha⟩ := hN.sl
  obtain ⟨f, hf, hfj⟩ := ha (by omega)
  have := At_in h.sp hs hf hi (by have := hN.le; omega)
  rw [Nat.zero_add, hfj i hi] at this
  exact this.mono fun _ _ x => ⟨x.1, h.quiet x.2⟩
set_option maxRecDepth 100000 in
set_option maxHeartbeats 8000000 in
theorem grows_big (x : Int) (w : World) (hV : Vars w) (hx : x < 0 ∨ 300 < x) :
    Calls Tryd.prog 6 #[.int .i64 x] w fun e w' => e = .returned (.bool true) ∧ Fr (fun _ => False) w w' := by
  have HA := hide (anchor_any w hV)
  clear hV
  rcases hx with hx | hx
  · go_enter Tryd.func6, Tryd.ntmps6
    go_wp2_with fail
    refine (unhide HA).mono ?_
    rintro e w1 ⟨rfl, hF1, _⟩
    have HF1 := hide hF1
    clear hF1
    go_wp2
    go_ret
    exact ⟨rfl, unhide HF1⟩
  · have h0 : 0 ≤ x := by omega
    go_enter Tryd.func6, Tryd.ntmps6
    go_wp2_with fail
    refine (unhide HA).mono ?_
    rintro e w1 ⟨rfl, hF1, _⟩
    have HF1 := hide hF1
    clear hF1
    go_wp2
    go_ret
    exact ⟨rfl, unhide HF1⟩
set_option maxRecDepth 100000 in
set_option maxHeartbeats 16000000 in
theorem grows_main (n : Nat) (w : World) (hV : Vars w) (hn : n ≤ 300) :
    Calls Tryd.prog 6 #[.int .i64 n] w fun e w' => e = .returned (.bool true) ∧ Fr (fun _ => False) w w' := by
  have HA := hide (anchor_any w hV)
  have hn0 : (0 : Int) ≤ n := by omega
  have hn1 : (n : Int) ≤ 300 := by omega
  clear hV
  go_enter Tryd.func6, Tryd.ntmps6
  go_wp2_with fail
  refine (unhide HA).mono ?_
  rintro e w1 ⟨rfl, hF1, hV1⟩
  have HF1 := hide hF1
  have HN := hide (SNew_any 32768 w1 (by omega) (by omega) hV1)
  clear hF1 HA hV1
  go_wp2_with fail
  refine (unhide HN).mono ?_
  rintro e w2 ⟨B, p, rfl, hL⟩
  have HL := hide hL
  clear hL HN
  have HNu : Hid (Nums 512 (emptyA 512) (fun _ => 0) 0 0 0) := hide ⟨⟨0, .inl ⟨rfl, rfl, rfl, rfl, rfl⟩, fun h => by omega⟩, by omega, fun _ => rfl, .inl rfl, Suf.start 512⟩
  go_wp2
  go_loopg [4, 5, 6] n (fun gh z r i wr => ∃ (k : Nat) (zz : Int) (room : Nat), k ≤ n ∧ Hid (gh = n - k) ∧ z = .int .i64 zz ∧ r = .int .i64 room ∧ i = .int .i64 k ∧ k ≤ room ∧ ∃ A wd hv, Hid (Nums 512 A wd zz k room ∧ Lw w1 wr B 512 p A wd hv (heldZ k zz) 0))
  case atStart => exact ⟨0, 0, 0, by omega, hide (by omega), rfl, rfl, rfl, by omega, _, _, _, hide ⟨unhide HNu, unhide HL⟩⟩
  case round =>
    obtain ⟨k, zz, room, hk, hgh, rfl, rfl, rfl, hkr, A, wd, hv, hK⟩ := hrel
    clear HL HNu
    by_cases hlt : k < n
    · have hlt' : (k : Int) < n := by omega
      have hq1 := (Fr.refl (fun _ => False) wr).alloc (.cells #[.int .i64 k] 3)
      have HAp := hide (nums_add ((unhide hK).2.quiet hq1) (by have := heldZ_len k zz; omega) (unhide hK).1 (by omega) (some ⟨wr.heap.size, 0, none⟩) (it_one (unhide hK).2.sp k 3))
      clear hq1
      go_wp2_with fail
      refine (unhide HAp).mono ?_
      rintro e w3 ⟨a, A3, wd3, hv3, rfl, hne, hN3, hL3, ha⟩
      have HN3 := hide hN3
      have HD : Hid (∀ d, d = min (k : Int) 1 → _) := hide fun d hd => nums_drop hL3 d hd
      clear hN3 hL3 HAp hK
      rcases (show (k < room ∧ nxR room k = room) ∨ (k = 0 ∧ room = 0 ∧ nxR room k = 1) ∨ (0 < k ∧ k = room ∧ nxR room k = 2 * k) by
        unfold nxR
        by_cases e : k = room
        · rw [if_pos e]; omega
        · rw [if_neg e]; omega) with ⟨c1, c2⟩ | ⟨rfl, rfl, c2⟩ | ⟨c0, rfl, c2⟩
      · rw [c2] at HN3
        have c3 : ¬ (k : Int) = room := by omega
        clear c2
        rcases (show (k : Int) ≤ 1 ∨ (1 : Int) < k by omega) with c5 | c5
        all_goals
          go_wp2_with fail
          refine (unhide HD _ (by omega)).mono ?_
          rintro e w4 ⟨rfl, hv4, hL4⟩
          have HH := hide (nums_hold (k := k) hL4 a ha)
          clear hL4
          go_wp2_with fail
          refine (unhide HH).mono ?_
          rintro e w5 ⟨rfl, hv5, hL5⟩
          have HS := hide (nums_size hL5 (unhide HN3))
          clear hL5 HH
          go_wp2_with fail
          refine (unhide HS).mono ?_
          rintro e w6 ⟨rfl, hL6⟩
          have HK6 := hide (And.intro (unhide HN3) hL6)
          clear hL6 HS HN3
          go_wp2
          go_roundg (n - (k + 1))
          case measure => have := unhide hgh; omega
          case rel => exact ⟨k + 1, a, room, by omega, hide rfl, rfl, rfl, by go_num, by omega, _, _, _, HK6⟩
      · rw [c2] at HN3
        clear c2
        go_wp2_with fail
        refine (unhide HD _ (by first | omega | decide | (split <;> omega))).mono ?_
        rintro e w4 ⟨rfl, hv4, hL4⟩
        have HH := hide (nums_hold (k := 0) hL4 a ha)
        clear hL4
        go_wp2_with fail
        refine (unhide HH).mono ?_
        rintro e w5 ⟨rfl, hv5, hL5⟩
        have HS := hide (nums_size hL5 (unhide HN3))
        clear hL5 HH
        go_wp2_with fail
        refine (unhide HS).mono ?_
        rintro e w6 ⟨rfl, hL6⟩
        have HK6 := hide (And.intro (unhide HN3) hL6)
        clear hL6 HS HN3
        go_wp2
        go_roundg (n - (0 + 1))
        case measure => have := unhide hgh; omega
        case rel => exact ⟨0 + 1, a, 1, by omega, hide rfl, rfl, rfl, by go_num, by omega, _, _, _, HK6⟩
      · rw [c2] at HN3
        obtain ⟨r2, hr2⟩ : ∃ r2 : Nat, r2 = 2 * k := ⟨_, rfl⟩
        have c4 : 2 * (k : Int) = r2 := by omega
        have c3 : ¬ (r2 : Int) < k + 1 := by omega
        rw [← hr2] at HN3
        have HR2 := hide hr2
        clear c2 hkr hr2
        rcases (show (k : Int) ≤ 1 ∨ (1 : Int) < k by omega) with c5 | c5
        all_goals
          go_wp2_with fail
          refine (unhide HD _ (by omega)).mono ?_
          rintro e w4 ⟨rfl, hv4, hL4⟩
          have HH := hide (nums_hold (k := k) hL4 a ha)
          clear hL4
          go_wp2_with fail
          refine (unhide HH).mono ?_
          rintro e w5 ⟨rfl, hv5, hL5⟩
          have HS := nums_size hL5 (unhide HN3)
          have HS := hide HS
          clear hL5 HH
          go_wp2_with fail
          refine (unhide HS).mono ?_
          rintro e w6 ⟨rfl, hL6⟩
          have HK6 := hide (And.intro (unhide HN3) hL6)
          clear hL6 HS HN3
          go_wp2
          go_roundg (n - (k + 1))
          case measure => have := unhide hgh; omega
          case rel => exact ⟨k + 1, a, r2, by omega, hide rfl, rfl, rfl, by go_num, by have := unhide HR2; omega, _, _, _, HK6⟩
    · obtain rfl : k = n := by omega
      have hge : ¬ (k : Int) < k := by omega
      clear hlt hge hk
      go_wp2
      obtain ⟨wm, rfl⟩ : ∃ wm, wm = wr := ⟨_, rfl⟩
      go_loopg [11] k (fun gh i wr => ∃ j : Nat, j ≤ k ∧ Hid (gh = k - j) ∧ i = .int .i64 j ∧ Hid (Lw w1 wr B 512 p A wd hv (heldZ k zz) 0))
      case atStart => exact ⟨0, by omega, hide (by omega), rfl, hide (unhide hK).2⟩
      case round =>
        obtain ⟨j, hj, hgh2, rfl, hL⟩ := hrel
        by_cases hlt : j < k
        · have HAt := hide (nums_at (unhide hL) (unhide hK).1 hlt)
          have hlt' : (j : Int) < k := by omega
          go_wp2_with fail
          refine (unhide HAt).mono ?_
          rintro e w5 ⟨rfl, hL5⟩
          have HL5 := hide hL5
          clear hL5 HAt
          go_wp2
          go_roundg (k - (j + 1))
          case measure => have := unhide hgh2; omega
          case rel => exact ⟨j + 1, by omega, hide rfl, by go_num, HL5⟩
        · obtain rfl : j = k := by omega
          have HF5 := hide ((unhide HF1).trans (unhide hL).far)
          clear hlt hj
          go_wp2
          go_ret
          exact ⟨rfl, unhide HF5⟩
theorem grows_any (x : Int) (w : World) (hV : Vars w) (_hx : -9223372036854775808 ≤ x ∧ x < 9223372036854775808) :
    Calls Tryd.prog 6 #[.int .i64 x] w fun e w' => e = .returned (.bool true) ∧ Below w.heap.size w w' := by
  have key : Calls Tryd.prog 6 #[.int .i64 x] w fun e w' => e = .returned (.bool true) ∧ Fr (fun _ => False) w w' := by
    by_cases h : x < 0 ∨ 300 < x
    · exact grows_big x w hV h
    · obtain ⟨n, rfl⟩ := Int.eq_ofNat_of_zero_le (show 0 ≤ x by omega)
      exact grows_main n w hV (by omega)
  exact key.mono fun _ _ h => ⟨h.1, h.2.below (Nat.le_refl _) (fun _ x => x.elim)⟩
end Go.Proofs.YtkclpbbpcicpiaaDoor
