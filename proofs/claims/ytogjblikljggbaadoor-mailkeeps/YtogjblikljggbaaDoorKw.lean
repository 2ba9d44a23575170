/- MailKeeps, walked. -/
import Derived.Test.YtogjblikljggbaaDoorKe
namespace Go.Proofs.YtogjblikljggbaaDoor
open Go.RowKit Go.Proofs.YtogjblikljggbaaDoor.Hp
variable {w0 w w' w1 w2 : World} {B : HB} {n p : Nat} {A A' A1 : Nat → Kd} {wd wd' wd1 : Nat → Int} {hv hv1 hv2 : Value} {held : List Int} {cnt : Nat} {a P b cl s x c : Nat} {r : Bool} {l : List Int} {ats : List Nat} {y : Int} {rb : Nat → Bool}
structure MkD (A : Nat → Kd) (wd : Nat → Int) (A1 : Nat → Kd) (wd1 : Nat → Int) (x : Nat) : Prop where
  go : Goes 64 A 2 x A1
  olds : Olds (fun _ => False) A wd A1 wd1
  room : roomN A1 x ≠ 0
  hd : wd1 x = hdr 1 1 0
  nb : roomN A x = 0
theorem k_make (h : Lw w0 w B 64 p A wd hv held cnt) (hc : cnt < 90000) (hS : Suf 64 A c) (hk : c < 60) :
    Calls Tryd.prog 19 #[.pointer (some ⟨p, 0, none⟩), .int .i64 1, .int .i64 1, .int .i64 0] w fun e w' => ∃ (x : Nat) (A1 : Nat → Kd) (wd1 : Nat → Int), e = .returned (.tuple #[.int .i64 (x : Int), .bool true]) ∧ MkD A wd A1 wd1 x ∧ Suf 64 A1 (c + 1) ∧ Lw w0 w' B 64 p A1 wd1 hv held cnt := by
  have hR : Right 1 1 0 := by unfold Right; omega
  have hp := hS.place (m := 2) (d := 1) (by omega) (by omega) (by omega)
  have e1 : 1 + (1 : Int).toNat = 2 := rfl
  refine (MakeV h.sp (by omega) hR).mono ?_
  rintro e w' ⟨A1, wd1, cnt1, hm, hs, ht⟩
  cases hm with
  | no he hm hcn =>
    obtain ⟨_, ea, _⟩ := mks_to hm hR (by rw [e1]; exact hp)
    cases (tup_inj ea).2
  | yes x he hm hr hsz hcn =>
    obtain ⟨x', ea, g, rfl, rfl⟩ := mks_to hm hR (by rw [e1]; exact hp)
    obtain rfl : x = x' := by have := (tup_inj ea).1; omega
    rw [e1] at g
    exact ⟨x, A1, _, he, ⟨g, Olds.new _ h.sp.inv hs.inv g (by omega) _, hr, newW_at, (room_goes h.sp.inv g).1⟩, hS.goes g (by omega) (by omega), h.step hs ht⟩
theorem k_push (h : Lw w0 w B 64 p A1 wd1 hv held cnt) (hK : Kx A wd a P r ats 0) (hM : MkD A wd A1 wd1 x) (hl : ats.length < P) :
    Calls Tryd.prog 11 #[.pointer (some ⟨p, 0, none⟩), .int .i64 a, .int .i64 x] w fun e w' => e = .returned (.bool true) ∧ ∃ wd2, Kx A1 wd2 a P r (ats ++ [x]) 0 ∧ Lw w0 w' B 64 p A1 wd2 hv held cnt := by
  obtain ⟨b, hc⟩ := hK.ch
  have hn := hK.push_n hM.olds hM.room hM.hd hM.nb
  have hc1 := hc.keep hM.olds id
  refine (l_push h hc1 (by simp [castL]; omega) x).mono ?_
  rintro e w' ⟨rfl, wd2, hc2, ho, hL⟩
  refine ⟨rfl, wd2, ⟨⟨b, ?_⟩, hn.1, fun z hz => ?_⟩, hL⟩
  · have e : castL (ats.drop 0) ++ [(x : Int)] = castL ((ats ++ [x]).drop 0) := by simp [castL]
    rw [← e]
    exact hc2
  · have hd := hn.2 z hz
    have hne : z ≠ a := fun e => by have := hn.1; rw [List.nodup_cons] at this; exact this.1 (e ▸ hz)
    obtain ⟨_, e1⟩ := ho z hd.1 hne
    exact ⟨hd.1, by rw [e1 z (by omega) (by omega)]; exact hd.2⟩
theorem k_shift (h : Lw w0 w B n p A wd hv held cnt) (hK : Kx A wd a P r ats s) (hl : s < ats.length) :
    Calls Tryd.prog 12 #[.pointer (some ⟨p, 0, none⟩), .int .i64 a] w fun e w' => ∃ v : Int, e = .returned (.tuple #[.int .i64 v, .bool true]) ∧ ∃ wd2, Kx A wd2 a P r ats (s + 1) ∧ Lw w0 w' B n p A wd2 hv held cnt := by
  obtain ⟨b, hc⟩ := hK.ch
  have e : castL (ats.drop s) = ((ats[s] : Nat) : Int) :: castL (ats.drop (s + 1)) := by
    rw [List.drop_eq_getElem_cons hl]; rfl
  rw [e] at hc
  refine (l_shift h hc).mono ?_
  rintro e w' ⟨rfl, wd2, hc2, ho, hL⟩
  exact ⟨_, rfl, wd2, hK.to ho hc2, hL⟩
theorem k_hold (h : Lw w0 w B 64 p A wd hv held cnt) (a : Nat) (ha : a < 100000) (hl : held.length ≤ 10) :
    Calls Tryd.prog 18 #[.pointer (some ⟨p, 0, none⟩), .int .i64 a] w fun e w' => e = .returned (.tuple #[]) ∧ ∃ hv', Lw w0 w' B 64 p A wd hv' (held ++ [(a : Int)]) cnt := by
  refine (HoldT h.sp a (by omega) (by omega)).mono ?_
  rintro e w' ⟨hv', rfl, hs, ht⟩
  exact ⟨rfl, hv', h.step hs ht⟩
theorem k_drop {z : Int} (h : Lw w0 w B 64 p A wd hv [z] cnt) :
    Calls Tryd.prog 22 #[.pointer (some ⟨p, 0, none⟩), .int .i64 1] w fun e w' => e = .returned (.tuple #[]) ∧ ∃ hv', Lw w0 w' B 64 p A wd hv' [] cnt := by
  refine (DropL (held := []) h.sp).mono ?_
  rintro e w' ⟨hv', rfl, hs, ht⟩
  exact ⟨rfl, hv', h.step hs ht⟩
theorem k_collect (h : Lw w0 w B 64 p A wd hv [(a : Int)] cnt) (hc : cnt < 90000) (hK : Kx A wd a P r ats s) :
    Calls Tryd.prog 20 #[.pointer (some ⟨p, 0, none⟩)] w fun e w' => ∃ q A1, e = .returned (.int .i64 q) ∧ Lw w0 w' B 64 p A1 wd hv [(a : Int)] (cnt + 1) ∧ (blkL A1 64).length = wantN r ats.length s := by
  refine (SCollect_any h.sp (by omega)).mono ?_
  rintro e w' ⟨rb, A1, hg, rfl, hs, hF⟩
  exact ⟨_, A1, rfl, h.heap hs hF, hK.blocks h.sp.inv h.sp.hd hg⟩
theorem k_collect0 (h : Lw w0 w B 64 p A wd hv [] cnt) (hc : cnt < 90000) :
    Calls Tryd.prog 20 #[.pointer (some ⟨p, 0, none⟩)] w fun e w' => ∃ q A1, e = .returned (.int .i64 q) ∧ Lw w0 w' B 64 p A1 wd hv [] (cnt + 1) ∧ (blkL A1 64).length = 0 := by
  refine (SCollect_any h.sp (by omega)).mono ?_
  rintro e w' ⟨rb, A1, hg, rfl, hs, hF⟩
  refine ⟨_, A1, rfl, h.heap hs hF, ?_⟩
  rw [hg.none]
  exact none_len 64
theorem k_told (h : Lw w0 w B 64 p A wd hv held cnt) {c : Nat} (hb : (blkL A 64).length = c) :
    Calls Tryd.prog 21 #[.pointer (some ⟨p, 0, none⟩)] w fun e w' => ∃ q : Int, e = .returned (.tuple #[.int .i64 c, .int .i64 cnt, .int .i64 q]) ∧ Lw w0 w' B 64 p A wd hv held cnt := by
  subst hb
  refine (Told_any h.sp).mono ?_
  rintro e w' ⟨rfl, hF⟩
  exact ⟨_, rfl, h.quiet hF⟩
set_option maxRecDepth 100000 in
set_option maxHeartbeats 8000000 in
theorem mk_big (x q t : Int) (r : Bool) (w : World) (hV : Vars w) (hx : x < 0 ∨ (0 ≤ x ∧ 50 < x) ∨ (0 ≤ x ∧ x ≤ 50 ∧ q < 0) ∨ (0 ≤ x ∧ x ≤ 50 ∧ 0 ≤ q ∧ x < q) ∨ (0 ≤ x ∧ x ≤ 50 ∧ 0 ≤ q ∧ q ≤ x ∧ t < 0) ∨ (0 ≤ x ∧ x ≤ 50 ∧ 0 ≤ q ∧ q ≤ x ∧ 0 ≤ t ∧ q < t)) :
    Calls Tryd.prog 4 #[.int .i64 x, .int .i64 q, .int .i64 t, .bool r] w fun e w' => e = .returned (.bool true) ∧ Fr (fun _ => False) w w' := by
  have HA := hide (anchor_any w hV)
  clear hV
  rcases hx with h1 | ⟨h1, h2⟩ | ⟨h1, h2, h3⟩ | ⟨h1, h2, h3, h4⟩ | ⟨h1, h2, h3, h4, h5⟩ | ⟨h1, h2, h3, h4, h5, h6⟩
  all_goals
    go_enter Tryd.func4, Tryd.ntmps4
    go_wp2_with fail
    refine (unhide HA).mono ?_
    rintro e w1 ⟨rfl, hF1, _⟩
    have HF1 := hide hF1
    clear hF1
    go_wp2
    go_ret
    exact ⟨rfl, unhide HF1⟩
set_option maxRecDepth 100000 in
set_option maxHeartbeats 16000000 in
theorem mk_main (P N S : Nat) (r : Bool) (w : World) (hV : Vars w) (hP : P ≤ 50) (hN : N ≤ P) (hS : S ≤ N) :
    Calls Tryd.prog 4 #[.int .i64 P, .int .i64 N, .int .i64 S, .bool r] w fun e w' => e = .returned (.bool true) ∧ Fr (fun _ => False) w w' := by
  have HA := hide (anchor_any w hV)
  have q1 : (0 : Int) ≤ P := by omega
  have q2 : (P : Int) ≤ 50 := by omega
  have q3 : (0 : Int) ≤ N := by omega
  have q4 : (N : Int) ≤ P := by omega
  have q5 : (0 : Int) ≤ S := by omega
  have q6 : (S : Int) ≤ N := by omega
  clear hV
  go_enter Tryd.func4, Tryd.ntmps4
  go_wp2_with fail
  refine (unhide HA).mono ?_
  rintro e w1 ⟨rfl, hF1, hV1⟩
  have HF1 := hide hF1
  have HN := hide (SNew_any 4096 w1 (by omega) (by omega) hV1)
  clear hF1 HA hV1
  go_wp2_with fail
  refine (unhide HN).mono ?_
  rintro e w2 ⟨B, p, rfl, hL⟩
  have HC := hide (l_new hL (by omega) P (by omega) r ((Suf.start 64).place (d := 1) (by omega) (by omega) (by omega)))
  clear hL HN
  go_wp2_with fail
  refine (unhide HC).mono ?_
  rintro e w3 ⟨a, A3, wd3, rfl, hn3, hL3⟩
  have HH := hide (k_hold hL3 a (hL3.sp.b_lt hn3.ch.room) (by simp))
  have HK3 : Hid (Kx A3 wd3 a P r [] 0 ∧ Suf 64 A3 1) := hide ⟨Kx.start hn3.ch, (Suf.start 64).goes hn3.go (d := 1) (by omega) (by omega)⟩
  clear hL3 hn3 HC
  go_wp2_with fail
  refine (unhide HH).mono ?_
  rintro e w4 ⟨rfl, hv4, hL4⟩
  have hL4' : Lw w1 w4 B 64 p A3 wd3 hv4 [(a : Int)] 0 := hL4
  have HL4 := hide hL4'
  clear hL4 hL4' HH
  go_wp2
  generalize (decide ((P : Int) < 0)) = d1
  generalize (decide ((50 : Int) < P)) = d2
  generalize (decide ((N : Int) < 0)) = d3
  generalize (decide ((S : Int) < 0)) = d4
  go_loopg [12] N (fun gh i wr => ∃ k : Nat, k ≤ N ∧ Hid (gh = N - k) ∧ i = .int .i64 k ∧ ∃ (A : Nat → Kd) (wd : Nat → Int) (ats : List Nat), Hid (Kx A wd a P r ats 0 ∧ Suf 64 A (1 + k) ∧ Lw w1 wr B 64 p A wd hv4 [(a : Int)] 0 ∧ ats.length = k))
  case atStart => exact ⟨0, by omega, hide (by omega), rfl, A3, wd3, [], hide ⟨(unhide HK3).1, (unhide HK3).2, unhide HL4, rfl⟩⟩
  case round =>
    obtain ⟨k, hk, hgh, rfl, A, wd, ats, hK⟩ := hrel
    clear HK3 HL4
    by_cases hlt : k < N
    · have hlt' : (k : Int) < N := by omega
      have HM := hide (k_make (unhide hK).2.2.1 (by omega) (unhide hK).2.1 (by omega))
      go_wp2_with fail
      refine (unhide HM).mono ?_
      rintro e w5 ⟨x, A5, wd5, rfl, hM5, hS5, hL5⟩
      have HPu := hide (k_push hL5 (unhide hK).1 hM5 (by rw [(unhide hK).2.2.2]; omega))
      have HS5 := hide (show Suf 64 A5 (1 + (k + 1)) from by rw [show 1 + (k + 1) = 1 + k + 1 by omega]; exact hS5)
      have HLen := hide (show (ats ++ [x]).length = k + 1 by have := (unhide hK).2.2.2; simp; omega)
      clear hM5 hS5 hL5 HM hK
      go_wp2_with fail
      refine (unhide HPu).mono ?_
      rintro e w6 ⟨rfl, wd6, hK6, hL6⟩
      have HK6 := hide (And.intro hK6 (And.intro (unhide HS5) (And.intro hL6 (unhide HLen))))
      clear hK6 hL6 HPu HS5 HLen
      go_wp2
      go_roundg (N - (k + 1))
      case measure => have := unhide hgh; omega
      case rel => exact ⟨k + 1, by omega, hide rfl, by go_num, A5, wd6, ats ++ [x], HK6⟩
    · obtain ⟨hn, hlen⟩ : k = N ∧ ats.length = N := ⟨by omega, by have := (unhide hK).2.2.2; omega⟩
      subst hn
      have HLen := hide hlen
      clear hlt hk hlen
      go_wp2
      obtain ⟨wm, rfl⟩ : ∃ wm, wm = wr := ⟨_, rfl⟩
      go_loopg [15] S (fun gh i wr => ∃ j : Nat, j ≤ S ∧ Hid (gh = S - j) ∧ i = .int .i64 j ∧ ∃ (wd : Nat → Int), Hid (Kx A wd a P r ats j ∧ Lw w1 wr B 64 p A wd hv4 [(a : Int)] 0))
      case atStart => exact ⟨0, by omega, hide (by omega), rfl, wd, hide ⟨(unhide hK).1, (unhide hK).2.2.1⟩⟩
      case round =>
        obtain ⟨j, hj, hgh2, rfl, wd2, hK2⟩ := hrel
        clear hK
        by_cases hlt : j < S
        · have hlt' : (j : Int) < S := by omega
          have HSh := hide (k_shift (unhide hK2).2 (unhide hK2).1 (by rw [unhide HLen]; omega))
          clear hK2
          go_wp2_with fail
          refine (unhide HSh).mono ?_
          rintro e w6 ⟨v6, rfl, wd6, hK6, hL6⟩
          have HK6 := hide (And.intro hK6 hL6)
          clear hK6 hL6 HSh
          go_wp2
          go_roundg (S - (j + 1))
          case measure => have := unhide hgh2; omega
          case rel => exact ⟨j + 1, by omega, hide rfl, by go_num, wd6, HK6⟩
        · obtain rfl : j = S := by omega
          have HC := hide (k_collect (unhide hK2).2 (by omega) (unhide hK2).1)
          clear hlt hj hgh hgh2
          go_wp2_with fail
          refine (unhide HC).mono ?_
          rintro e w5 ⟨q5, A5, rfl, hL5, hb5⟩
          rw [unhide HLen] at hb5
          have HT := hide (k_told hL5 hb5)
          clear hL5 hb5 HC hK2
          cases r with
          | false =>
            rw [show wantN false k j = 1 from rfl] at HT
            go_wp2_with fail
            refine (unhide HT).mono ?_
            rintro e w6 ⟨q6, rfl, hL6⟩
            have HD := hide (k_drop hL6)
            clear hL6 HT
            go_wp2_with fail
            refine (unhide HD).mono ?_
            rintro e w7 ⟨rfl, hv7, hL7⟩
            have HC := hide (k_collect0 hL7 (by omega))
            clear hL7 HD
            go_wp2_with fail
            refine (unhide HC).mono ?_
            rintro e w8 ⟨q8, A8, rfl, hL8, hb8⟩
            have HT := hide (k_told hL8 hb8)
            clear hL8 hb8 HC
            go_wp2_with fail
            refine (unhide HT).mono ?_
            rintro e w9 ⟨q9, rfl, hL9⟩
            have HF9 := hide ((unhide HF1).trans hL9.far)
            clear hL9 HT
            go_wp2
            go_ret
            exact ⟨rfl, unhide HF9⟩
          | true =>
            obtain ⟨c, hc⟩ : ∃ c : Nat, wantN true k j = c := ⟨_, rfl⟩
            have hc1 : c = 1 + (k - j) := by rw [← hc]; rfl
            rw [hc] at HT
            have g1 : 1 + ((k : Int) - j) = c := by omega
            have g2 : -9223372036854775808 ≤ (k : Int) - j ∧ (k : Int) - j < 9223372036854775808 := by omega
            have g3 : (c : Int) < 9223372036854775808 := by omega
            clear hc hc1
            go_wp2_with fail
            refine (unhide HT).mono ?_
            rintro e w6 ⟨q6, rfl, hL6⟩
            have HD := hide (k_drop hL6)
            clear hL6 HT
            go_wp2_with fail
            refine (unhide HD).mono ?_
            rintro e w7 ⟨rfl, hv7, hL7⟩
            have HC := hide (k_collect0 hL7 (by omega))
            clear hL7 HD
            go_wp2_with fail
            refine (unhide HC).mono ?_
            rintro e w8 ⟨q8, A8, rfl, hL8, hb8⟩
            have HT := hide (k_told hL8 hb8)
            clear hL8 hb8 HC
            go_wp2_with fail
            refine (unhide HT).mono ?_
            rintro e w9 ⟨q9, rfl, hL9⟩
            have HF9 := hide ((unhide HF1).trans hL9.far)
            clear hL9 HT
            go_wp2
            go_ret
            exact ⟨rfl, unhide HF9⟩
theorem mkeeps_any (x q t : Int) (r : Bool) (w : World) (hV : Vars w) (_hx : -9223372036854775808 ≤ x ∧ x < 9223372036854775808) (_hq : -9223372036854775808 ≤ q ∧ q < 9223372036854775808) (_ht : -9223372036854775808 ≤ t ∧ t < 9223372036854775808) :
    Calls Tryd.prog 4 #[.int .i64 x, .int .i64 q, .int .i64 t, .bool r] w fun e w' => e = .returned (.bool true) ∧ Below w.heap.size w w' := by
  have key : Calls Tryd.prog 4 #[.int .i64 x, .int .i64 q, .int .i64 t, .bool r] w fun e w' => e = .returned (.bool true) ∧ Fr (fun _ => False) w w' := by
    by_cases h : x < 0 ∨ 50 < x ∨ q < 0 ∨ x < q ∨ t < 0 ∨ q < t
    · exact mk_big x q t r w hV (by omega)
    · obtain ⟨P, rfl⟩ := Int.eq_ofNat_of_zero_le (show 0 ≤ x by omega)
      obtain ⟨N, rfl⟩ := Int.eq_ofNat_of_zero_le (show 0 ≤ q by omega)
      obtain ⟨S, rfl⟩ := Int.eq_ofNat_of_zero_le (show 0 ≤ t by omega)
      exact mk_main P N S r w hV (by omega) (by omega) (by omega)
  exact key.mono fun _ _ h => ⟨h.1, h.2.below (Nat.le_refl _) (fun _ x => x.elim)⟩
end Go.Proofs.YtogjblikljggbaaDoor
