/- MailTwo, walked. -/
import Derived.Test.YtogjblikljggbaaDoorM6
namespace Go.Proofs.YtogjblikljggbaaDoor
open Go.RowKit Go.Proofs.YtogjblikljggbaaDoor.Hp
variable {w0 w w' w1 w2 : World} {B : HB} {n p : Nat} {A A' : Nat → Kd} {wd wd' : Nat → Int} {hv hv1 hv2 : Value} {held : List Int} {cnt : Nat} {a a1 a2 P b cl : Nat} {r : Bool} {l : List Int}
set_option maxRecDepth 100000 in
set_option maxHeartbeats 4000000 in
theorem two_big (x : Int) (ao : Option Addr) (len cp : Nat) (w : World) (hV : Vars w) (hx : x < 1 ∨ (1 ≤ x ∧ 20 < x) ∨ (1 ≤ x ∧ x ≤ 20 ∧ (60 : Int) < len)) :
    Calls Tryd.prog 6 #[.int .i64 x, .slice ao len cp] w fun e w' => e = .returned (.bool true) ∧ Fr (fun _ => False) w w' := by
  have HA := hide (anchor_any w hV)
  clear hV
  rcases hx with h1 | ⟨h1, h2⟩ | ⟨h1, h2, h3⟩
  all_goals
    go_enter Tryd.func6, Tryd.ntmps6
    go_wp2_with fail
    refine (unhide HA).mono ?_
    rintro e w1 ⟨rfl, hF1, _⟩
    have HF1 := hide hF1
    clear hF1
    go_wp2
    go_ret
    exact ⟨rfl, unhide HF1⟩
/-- The two channels: how many items each has. -/
structure TwC (A : Nat → Kd) (wd : Nat → Int) (a1 a2 P n m : Nat) : Prop where
  ne : a1 ≠ a2
  one : ∃ l, ChAt A wd a1 P false 0 0 l ∧ l.length = n
  two : ∃ l, ChAt A wd a2 P false 0 0 l ∧ l.length = m
theorem TwC.le {n m : Nat} (h : TwC A wd a1 a2 P n m) : n ≤ P ∧ m ≤ P := by
  obtain ⟨l1, c1, e1⟩ := h.one
  obtain ⟨l2, c2, e2⟩ := h.two
  have := c1.cnt
  have := c2.cnt
  omega
theorem tw_push1 {N M : Nat} (h : Lw w0 w B n p A wd hv held cnt) (hT : TwC A wd a1 a2 P N M) (hl : N < P) (v : Int) :
    Calls Tryd.prog 11 #[.pointer (some ⟨p, 0, none⟩), .int .i64 a1, .int .i64 v] w fun e w' => e = .returned (.bool true) ∧ ∃ wd', TwC A wd' a1 a2 P (N + 1) M ∧ Lw w0 w' B n p A wd' hv held cnt := by
  obtain ⟨l1, c1, e1⟩ := hT.one
  obtain ⟨l2, c2, e2⟩ := hT.two
  refine (l_push h c1 (by omega) v).mono ?_
  rintro e w' ⟨rfl, wd', hc, ho, hL⟩
  exact ⟨rfl, wd', ⟨hT.ne, ⟨_, hc, by simp; omega⟩, ⟨l2, c2.keep ho hT.ne.symm, e2⟩⟩, hL⟩
theorem tw_push2 {N M : Nat} (h : Lw w0 w B n p A wd hv held cnt) (hT : TwC A wd a1 a2 P N M) (hl : M < P) (v : Int) :
    Calls Tryd.prog 11 #[.pointer (some ⟨p, 0, none⟩), .int .i64 a2, .int .i64 v] w fun e w' => e = .returned (.bool true) ∧ ∃ wd', TwC A wd' a1 a2 P N (M + 1) ∧ Lw w0 w' B n p A wd' hv held cnt := by
  obtain ⟨l1, c1, e1⟩ := hT.one
  obtain ⟨l2, c2, e2⟩ := hT.two
  refine (l_push h c2 (by omega) v).mono ?_
  rintro e w' ⟨rfl, wd', hc, ho, hL⟩
  exact ⟨rfl, wd', ⟨hT.ne, ⟨l1, c1.keep ho hT.ne, e1⟩, ⟨_, hc, by simp; omega⟩⟩, hL⟩
theorem tw_no1 {N M : Nat} (h : Lw w0 w B n p A wd hv held cnt) (hT : TwC A wd a1 a2 P N M) (hl : N = P) (v : Int) :
    Calls Tryd.prog 11 #[.pointer (some ⟨p, 0, none⟩), .int .i64 a1, .int .i64 v] w fun e w' => e = .returned (.bool false) ∧ Lw w0 w' B n p A wd hv held cnt := by
  obtain ⟨l1, c1, e1⟩ := hT.one
  exact l_push_no h c1 (by omega) v
theorem tw_no2 {N M : Nat} (h : Lw w0 w B n p A wd hv held cnt) (hT : TwC A wd a1 a2 P N M) (hl : M = P) (v : Int) :
    Calls Tryd.prog 11 #[.pointer (some ⟨p, 0, none⟩), .int .i64 a2, .int .i64 v] w fun e w' => e = .returned (.bool false) ∧ Lw w0 w' B n p A wd hv held cnt := by
  obtain ⟨l2, c2, e2⟩ := hT.two
  exact l_push_no h c2 (by omega) v
set_option maxRecDepth 100000 in
set_option maxHeartbeats 16000000 in
theorem two_main (P : Nat) (ao : Option Addr) (len cp : Nat) (fb : Nat → Bool) (w : World) (hV : Vars w) (hP1 : 1 ≤ P) (hP2 : P ≤ 20) (hlen : len ≤ 60) (hcell : ∀ j, j < len → ∃ b off, ao = some ⟨b, off, none⟩ ∧ b < w.heap.size ∧ w.cell? ⟨b, off + j, none⟩ = some (.bool (fb j))) :
    Calls Tryd.prog 6 #[.int .i64 P, .slice ao len cp] w fun e w' => e = .returned (.bool true) ∧ Fr (fun _ => False) w w' := by
  obtain ⟨bb, off, hao⟩ : ∃ b off, 0 < len → ao = some ⟨b, off, none⟩ := by
    by_cases h0 : 0 < len
    · obtain ⟨b, off, e, _⟩ := hcell 0 h0
      exact ⟨b, off, fun _ => e⟩
    · exact ⟨0, 0, fun h => absurd h h0⟩
  have HCe : Hid (∀ W j, Fr (fun _ => False) w W → j < len → ao = some ⟨bb, off, none⟩ ∧ W.cell? ⟨bb, off + j, none⟩ = some (.bool (fb j))) := hide fun W j hF hj => by
    obtain ⟨b2, off2, e, hb, hc⟩ := hcell j hj
    have e2 := hao (by omega)
    rw [e] at e2
    obtain ⟨rfl, rfl⟩ : b2 = bb ∧ off2 = off := by simpa using e2
    exact ⟨e, (World.cell?_of_block (w := w) (a := ⟨b2, off2 + j, none⟩) (hF.block b2 hb id)).trans hc⟩
  have HA := hide (anchor_any w hV)
  have q1 : (1 : Int) ≤ P := by omega
  have q2 : (P : Int) ≤ 20 := by omega
  have q3 : (len : Int) ≤ 60 := by omega
  clear hV hcell hao
  go_enter Tryd.func6, Tryd.ntmps6
  go_wp2_with fail
  refine (unhide HA).mono ?_
  rintro e w1 ⟨rfl, hF1, hV1⟩
  have HF1 := hide hF1
  have HN := hide (SNew_any 4096 w1 (by omega) (by omega) hV1)
  clear hF1 HA hV1
  go_wp2_with fail
  refine (unhide HN).mono ?_
  rintro e w2 ⟨B, p, rfl, hL⟩
  have HC := hide (l_new hL (by omega) P (by omega) false ((Suf.start 64).place (d := 1) (by omega) (by omega) (by omega)))
  clear hL HN
  go_wp2_with fail
  refine (unhide HC).mono ?_
  rintro e w3 ⟨a1, A3, wd3, rfl, hn3, hL3⟩
  have HH := hide (HoldT hL3.sp a1 (by have := hL3.sp.b_lt hn3.ch.room; omega) (by simp))
  have HN3 := hide hn3
  have HL3 := hide hL3
  clear hL3 hn3 HC
  go_wp2_with fail
  refine (unhide HH).mono ?_
  rintro e w4 ⟨hv4, rfl, hs4, ht4⟩
  have hL4 := (unhide HL3).step hs4 ht4
  have HC := hide (l_new hL4 (by omega) P (by omega) false (((Suf.start 64).goes (unhide HN3).go (d := 1) (by omega) (by omega)).place (d := 1) (by omega) (by omega) (by omega)))
  clear hs4 ht4 hL4 HH HL3
  go_wp2_with fail
  refine (unhide HC).mono ?_
  rintro e w5 ⟨a2, A5, wd5, rfl, hn5, hL5⟩
  have hne : a1 ≠ a2 := fun e => (unhide HN3).ch.room (by rw [e]; exact hn5.nb)
  have HT5 : Hid (TwC A5 wd5 a1 a2 P 0 0) := hide ⟨hne, ⟨[], (unhide HN3).ch.keep hn5.olds id, rfl⟩, ⟨[], hn5.ch, rfl⟩⟩
  have HL5 := hide hL5
  have hne' : ¬ (a1 : Int) = a2 := by omega
  have HNe := hide hne
  clear hn5 hL5 HC hne
  go_wp2
  have HQ := hide (And.intro q1 (And.intro q2 q3))
  clear q1 q2 q3 HN3 hne'
  generalize ((a1 : Int) == a2) = dd
  go_loopg [10, 11, 62] len (fun gh n m i wr => ∃ (k N M : Nat), k ≤ len ∧ Hid (gh = len - k) ∧ n = .int .i64 N ∧ m = .int .i64 M ∧ i = .int .i64 k ∧ ∃ (wd : Nat → Int), Hid (TwC A5 wd a1 a2 P N M ∧ Lw w1 wr B 64 p A5 wd hv4 ([] ++ [(a1 : Int)]) 0))
  case atStart => exact ⟨0, 0, 0, by omega, hide (by omega), rfl, rfl, rfl, wd5, hide ⟨unhide HT5, unhide HL5⟩⟩
  case round =>
    obtain ⟨k, N, M, hk, hgh, rfl, rfl, rfl, wd, hK⟩ := hrel
    clear HT5 HL5
    have hb60 : (k : Int) ≤ 60 := by omega
    by_cases hlt : k < len
    · have hlt' : (k : Int) < len := by omega
      obtain ⟨rfl, hce⟩ := unhide HCe _ k ((unhide HF1).trans (unhide hK).2.far) hlt
      clear HCe
      cases hfb : fb k with
      | true =>
        rw [hfb] at hce
        clear hfb
        by_cases hfull : N < P
        · have hf1 : (N : Int) < P := by omega
          have hf2 : (N : Int) + 1 ≤ P := by omega
          have HPu := hide (tw_push1 (unhide hK).2 (unhide hK).1 hfull k)
          clear hK
          go_wp2_with fail
          refine (unhide HPu).mono ?_
          rintro e w6 ⟨rfl, wd6, hT6, hL6⟩
          have HK6 := hide (And.intro hT6 hL6)
          clear hT6 hL6 HPu
          go_wp2
          go_roundg (len - (k + 1))
          case measure => have := unhide hgh; omega
          case rel => exact ⟨k + 1, N + 1, M, by omega, hide rfl, by go_num, by go_num, by go_num, wd6, HK6⟩
        · obtain rfl : P = N := by have := (unhide hK).1.le; omega
          have hf2 : (P : Int) < P + 1 := by omega
          have HPu := hide (tw_no1 (unhide hK).2 (unhide hK).1 rfl k)
          have HT6 := hide (unhide hK).1
          clear hK hfull
          go_wp2_with fail
          refine (unhide HPu).mono ?_
          rintro e w6 ⟨rfl, hL6⟩
          have HK6 := hide (And.intro (unhide HT6) hL6)
          clear hL6 HPu HT6
          go_wp2
          go_roundg (len - (k + 1))
          case measure => have := unhide hgh; omega
          case rel => exact ⟨k + 1, P, M, by omega, hide rfl, by go_num, by go_num, by go_num, wd, HK6⟩
      | false =>
        rw [hfb] at hce
        clear hfb
        by_cases hfull : M < P
        · have hf1 : (M : Int) < P := by omega
          have hf2 : (M : Int) + 1 ≤ P := by omega
          have HPu := hide (tw_push2 (unhide hK).2 (unhide hK).1 hfull k)
          clear hK
          go_wp2_with fail
          refine (unhide HPu).mono ?_
          rintro e w6 ⟨rfl, wd6, hT6, hL6⟩
          have HK6 := hide (And.intro hT6 hL6)
          clear hT6 hL6 HPu
          go_wp2
          go_roundg (len - (k + 1))
          case measure => have := unhide hgh; omega
          case rel => exact ⟨k + 1, N, M + 1, by omega, hide rfl, by go_num, by go_num, by go_num, wd6, HK6⟩
        · obtain rfl : P = M := by have := (unhide hK).1.le; omega
          have hf2 : (P : Int) < P + 1 := by omega
          have HPu := hide (tw_no2 (unhide hK).2 (unhide hK).1 rfl k)
          have HT6 := hide (unhide hK).1
          clear hK hfull
          go_wp2_with fail
          refine (unhide HPu).mono ?_
          rintro e w6 ⟨rfl, hL6⟩
          have HK6 := hide (And.intro (unhide HT6) hL6)
          clear hL6 HPu HT6
          go_wp2
          go_roundg (len - (k + 1))
          case measure => have := unhide hgh; omega
          case rel => exact ⟨k + 1, N, P, by omega, hide rfl, by go_num, by go_num, by go_num, wd, HK6⟩
    · obtain rfl : k = len := by omega
      clear hlt hk
      obtain ⟨l1, c1, e1⟩ := (unhide hK).1.one
      have HCl := hide (l_close (unhide hK).2 c1)
      have HT := hide (unhide hK).1.two
      have HE1 := hide e1
      clear hK c1 e1
      go_wp2_with fail
      refine (unhide HCl).mono ?_
      rintro e w6 ⟨rfl, wd6, hc6, ho6, hL6⟩
      have HCo := hide (l_count hL6 hc6)
      have HC6 := hide hc6
      obtain ⟨l2, c2, e2⟩ := unhide HT
      have HD6 := hide (c2.keep ho6 (unhide HNe).symm)
      have HE2 := hide e2
      rw [unhide HE1] at HCo
      clear hc6 hL6 ho6 HCl c2 e2 HT
      go_wp2_with fail
      refine (unhide HCo).mono ?_
      rintro e w7 ⟨rfl, hL7⟩
      have HCo := hide (l_count hL7 (unhide HD6))
      rw [unhide HE2] at HCo
      clear hL7
      go_wp2_with fail
      refine (unhide HCo).mono ?_
      rintro e w8 ⟨rfl, hL8⟩
      have HCd := hide (l_closed hL8 (unhide HC6))
      clear hL8 HCo
      go_wp2_with fail
      refine (unhide HCd).mono ?_
      rintro e w9 ⟨rfl, hL9⟩
      have HCd := hide (l_closed hL9 (unhide HD6))
      clear hL9
      go_wp2_with fail
      refine (unhide HCd).mono ?_
      rintro e w10 ⟨rfl, hL10⟩
      have HI := hide (l_items hL10 (unhide HC6))
      rw [unhide HE1] at HI
      clear hL10 HCd
      go_wp2_with fail
      refine (unhide HI).mono ?_
      rintro e w11 ⟨Mb, rfl, _, _, _, hL11, _⟩
      have HE := hide ((unhide HF1).trans hL11.far)
      clear hL11 HI
      go_wp2
      go_ret
      exact ⟨rfl, unhide HE⟩
theorem two_any (x : Int) (ao : Option Addr) (len cp : Nat) (fb : Nat → Bool) (w : World) (hV : Vars w) (_hx : -9223372036854775808 ≤ x ∧ x < 9223372036854775808) (_hm : len < 9223372036854775808) (hcell : ∀ j, j < len → ∃ b off, ao = some ⟨b, off, none⟩ ∧ b < w.heap.size ∧ w.cell? ⟨b, off + j, none⟩ = some (.bool (fb j))) :
    Calls Tryd.prog 6 #[.int .i64 x, .slice ao len cp] w fun e w' => e = .returned (.bool true) ∧ Below w.heap.size w w' := by
  have key : Calls Tryd.prog 6 #[.int .i64 x, .slice ao len cp] w fun e w' => e = .returned (.bool true) ∧ Fr (fun _ => False) w w' := by
    by_cases h : x < 1 ∨ 20 < x ∨ (60 : Int) < len
    · exact two_big x ao len cp w hV (by omega)
    · obtain ⟨P, rfl⟩ := Int.eq_ofNat_of_zero_le (show 0 ≤ x by omega)
      exact two_main P ao len cp fb w hV (by omega) (by omega) (by omega) hcell
  exact key.mono fun _ _ h => ⟨h.1, h.2.below (Nat.le_refl _) (fun _ x => x.elim)⟩
end Go.Proofs.YtogjblikljggbaaDoor
