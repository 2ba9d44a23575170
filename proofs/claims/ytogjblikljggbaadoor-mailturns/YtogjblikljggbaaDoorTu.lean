/- MailTurns, walked. -/
import Derived.Test.YtogjblikljggbaaDoorM6
namespace Go.Proofs.YtogjblikljggbaaDoor
open Go.RowKit Go.Proofs.YtogjblikljggbaaDoor.Hp
variable {w0 w w' w1 w2 : World} {B : HB} {n p : Nat} {A A' : Nat → Kd} {wd wd' : Nat → Int} {hv hv1 hv2 : Value} {held : List Int} {cnt : Nat} {a P b cl : Nat} {r : Bool} {l : List Int}
set_option maxRecDepth 100000 in
set_option maxHeartbeats 4000000 in
theorem turns_big (x : Int) (ao : Option Addr) (len cp : Nat) (w : World) (hV : Vars w) (hx : x < 1 ∨ (1 ≤ x ∧ 30 < x) ∨ (1 ≤ x ∧ x ≤ 30 ∧ (100 : Int) < len)) :
    Calls Tryd.prog 7 #[.int .i64 x, .slice ao len cp] w fun e w' => e = .returned (.bool true) ∧ Fr (fun _ => False) w w' := by
  have HA := hide (anchor_any w hV)
  clear hV
  rcases hx with h1 | ⟨h1, h2⟩ | ⟨h1, h2, h3⟩
  all_goals
    go_enter Tryd.func7, Tryd.ntmps7
    go_wp2_with fail
    refine (unhide HA).mono ?_
    rintro e w1 ⟨rfl, hF1, _⟩
    have HF1 := hide hF1
    clear hF1
    go_wp2
    go_ret
    exact ⟨rfl, unhide HF1⟩
/-- The numbers from o on. -/
def seqL (o N : Nat) : List Int := (List.range N).map fun j => ((o + j : Nat) : Int)
theorem seqL_len (o N : Nat) : (seqL o N).length = N := by simp [seqL]
theorem seqL_push (o N : Nat) : seqL o N ++ [((o + N : Nat) : Int)] = seqL o (N + 1) := by simp [seqL, List.range_succ]
theorem seqL_cons (o N : Nat) : seqL o (N + 1) = (o : Int) :: seqL (o + 1) N := by
  simp only [seqL, List.range_succ_eq_map, List.map_cons, List.map_map, Nat.add_zero]
  congr 1
  apply List.map_congr_left
  intro j _
  simp only [Function.comp]
  congr 1
  omega
/-- The channel has the numbers from o to i. -/
structure TuC (A : Nat → Kd) (wd : Nat → Int) (a P i o : Nat) : Prop where
  le : o ≤ i
  ch : ∃ b, ChAt A wd a P false 0 b (seqL o (i - o))
theorem TuC.full {i o : Nat} (h : TuC A wd a P i o) : i - o ≤ P := by
  obtain ⟨b, hc⟩ := h.ch
  have := hc.cnt
  rw [seqL_len] at this
  exact this
theorem tu_push {i o : Nat} (h : Lw w0 w B n p A wd hv held cnt) (hT : TuC A wd a P i o) (hl : i - o < P) :
    Calls Tryd.prog 11 #[.pointer (some ⟨p, 0, none⟩), .int .i64 a, .int .i64 i] w fun e w' => e = .returned (.bool true) ∧ ∃ wd', TuC A wd' a P (i + 1) o ∧ Lw w0 w' B n p A wd' hv held cnt := by
  obtain ⟨b, hc⟩ := hT.ch
  have hle := hT.le
  refine (l_push h hc (by rw [seqL_len]; exact hl) i).mono ?_
  rintro e w' ⟨rfl, wd', hc', _, hL⟩
  refine ⟨rfl, wd', ⟨by omega, b, ?_⟩, hL⟩
  have := seqL_push o (i - o)
  rw [show o + (i - o) = i by omega, show i - o + 1 = i + 1 - o by omega] at this
  rw [← this]
  exact hc'
theorem tu_full {i o : Nat} (h : Lw w0 w B n p A wd hv held cnt) (hT : TuC A wd a P i o) (hl : ¬ i - o < P) (v : Int) :
    Calls Tryd.prog 11 #[.pointer (some ⟨p, 0, none⟩), .int .i64 a, .int .i64 v] w fun e w' => e = .returned (.bool false) ∧ Lw w0 w' B n p A wd hv held cnt := by
  obtain ⟨b, hc⟩ := hT.ch
  have := hT.full
  exact l_push_no h hc (by rw [seqL_len]; omega) v
theorem tu_shift {i o : Nat} (h : Lw w0 w B n p A wd hv held cnt) (hT : TuC A wd a P i o) (hl : o < i) :
    Calls Tryd.prog 12 #[.pointer (some ⟨p, 0, none⟩), .int .i64 a] w fun e w' => e = .returned (.tuple #[.int .i64 o, .bool true]) ∧ ∃ wd', TuC A wd' a P i (o + 1) ∧ Lw w0 w' B n p A wd' hv held cnt := by
  obtain ⟨b, hc⟩ := hT.ch
  rw [show i - o = i - (o + 1) + 1 by omega, seqL_cons] at hc
  refine (l_shift h hc).mono ?_
  rintro e w' ⟨rfl, wd', hc', _, hL⟩
  exact ⟨rfl, wd', ⟨by omega, _, hc'⟩, hL⟩
theorem tu_none {i o : Nat} (h : Lw w0 w B n p A wd hv held cnt) (hT : TuC A wd a P i o) (hl : ¬ o < i) :
    Calls Tryd.prog 12 #[.pointer (some ⟨p, 0, none⟩), .int .i64 a] w fun e w' => e = .returned (.tuple #[.int .i64 0, .bool false]) ∧ Lw w0 w' B n p A wd hv held cnt := by
  obtain ⟨b, hc⟩ := hT.ch
  rw [show i - o = 0 by omega] at hc
  exact l_shift_no h hc
theorem tu_count {i o : Nat} (h : Lw w0 w B n p A wd hv held cnt) (hT : TuC A wd a P i o) :
    Calls Tryd.prog 14 #[.pointer (some ⟨p, 0, none⟩), .int .i64 a] w fun e w' => e = .returned (.tuple #[.int .i64 ((i : Int) - o), .int .i64 P]) ∧ Lw w0 w' B n p A wd hv held cnt := by
  obtain ⟨b, hc⟩ := hT.ch
  have := l_count h hc
  have hle := hT.le
  rw [seqL_len, show ((i - o : Nat) : Int) = (i : Int) - o by omega] at this
  exact this
set_option maxRecDepth 100000 in
set_option maxHeartbeats 16000000 in
theorem turns_main (P : Nat) (ao : Option Addr) (len cp : Nat) (zs : Nat → Int) (w : World) (hV : Vars w) (hP1 : 1 ≤ P) (hP2 : P ≤ 30) (hlen : len ≤ 100) (hcell : ∀ j, j < len → ∃ b off, ao = some ⟨b, off, none⟩ ∧ b < w.heap.size ∧ w.cell? ⟨b, off + j, none⟩ = some (.int .i64 (zs j))) :
    Calls Tryd.prog 7 #[.int .i64 P, .slice ao len cp] w fun e w' => e = .returned (.bool true) ∧ Fr (fun _ => False) w w' := by
  obtain ⟨bb, off, hao⟩ : ∃ b off, 0 < len → ao = some ⟨b, off, none⟩ := by
    by_cases h0 : 0 < len
    · obtain ⟨b, off, e, _⟩ := hcell 0 h0
      exact ⟨b, off, fun _ => e⟩
    · exact ⟨0, 0, fun h => absurd h h0⟩
  have HCe : Hid (∀ W j, Fr (fun _ => False) w W → j < len → ao = some ⟨bb, off, none⟩ ∧ W.cell? ⟨bb, off + j, none⟩ = some (.int .i64 (zs j))) := hide fun W j hF hj => by
    obtain ⟨b2, off2, e, hb, hc⟩ := hcell j hj
    have e2 := hao (by omega)
    rw [e] at e2
    obtain ⟨rfl, rfl⟩ : b2 = bb ∧ off2 = off := by simpa using e2
    exact ⟨e, (World.cell?_of_block (w := w) (a := ⟨b2, off2 + j, none⟩) (hF.block b2 hb id)).trans hc⟩
  have HA := hide (anchor_any w hV)
  have q1 : (1 : Int) ≤ P := by omega
  have q2 : (P : Int) ≤ 30 := by omega
  have q3 : (len : Int) ≤ 100 := by omega
  clear hV hcell hao
  go_enter Tryd.func7, Tryd.ntmps7
  go_wp2_with fail
  refine (unhide HA).mono ?_
  rintro e w1 ⟨rfl, hF1, hV1⟩
  have HF1 := hide hF1
  have HN := hide (SNew_any 2048 w1 (by omega) (by omega) hV1)
  clear hF1 HA hV1
  go_wp2_with fail
  refine (unhide HN).mono ?_
  rintro e w2 ⟨B, p, rfl, hL⟩
  have HC := hide (l_new hL (by omega) P (by omega) false ((Suf.start 32).place (d := 1) (by omega) (by omega) (by omega)))
  clear hL HN
  go_wp2_with fail
  refine (unhide HC).mono ?_
  rintro e w3 ⟨a, A3, wd3, rfl, hn3, hL3⟩
  have HT3 : Hid (TuC A3 wd3 a P 0 0) := hide ⟨by omega, 0, hn3.ch⟩
  have HL3 := hide hL3
  clear hL3 hn3 HC
  go_wp2
  have HQ := hide (And.intro q1 (And.intro q2 q3))
  clear q1 q2 q3
  go_loopg [8, 9, 43] len (fun gh vi vo i wr => ∃ (k I O : Nat), k ≤ len ∧ Hid (gh = len - k) ∧ vi = .int .i64 I ∧ vo = .int .i64 O ∧ i = .int .i64 k ∧ I ≤ 100 * k ∧ ∃ (wd : Nat → Int), Hid (TuC A3 wd a P I O ∧ Lw w1 wr B 32 p A3 wd (.slice none 0 0) [] 0))
  case atStart => exact ⟨0, 0, 0, by omega, hide (by omega), rfl, rfl, rfl, by omega, wd3, hide ⟨unhide HT3, unhide HL3⟩⟩
  case round =>
    obtain ⟨k, I, O, hk, hgh, rfl, rfl, rfl, hIk, wd, hK⟩ := hrel
    clear HT3 HL3
    by_cases hlt : k < len
    · have hlt' : (k : Int) < len := by omega
      obtain ⟨rfl, hce⟩ := unhide HCe _ k ((unhide HF1).trans (unhide hK).2.far) hlt
      clear HCe
      generalize zs k = z at *
      rcases (show (k : Int) % 2 = 0 ∨ (k : Int) % 2 = 1 by omega) with hpar | hpar
      · skip
        go_wp2
        obtain ⟨wm, rfl⟩ : ∃ wm, wm = wr := ⟨_, rfl⟩
        go_loopg [8, 9, 12] 100 (fun gh vi vo kk wr => ∃ (j I2 O2 : Nat), j ≤ 100 ∧ Hid (gh = 100 - j) ∧ vi = .int .i64 I2 ∧ vo = .int .i64 O2 ∧ kk = .int .i64 j ∧ I2 ≤ 100 * k + j ∧ ∃ (wd : Nat → Int), Hid (TuC A3 wd a P I2 O2 ∧ Lw w1 wr B 32 p A3 wd (.slice none 0 0) [] 0))
        case atStart => exact ⟨0, I, O, by omega, hide (by omega), by go_num, by go_num, rfl, by omega, wd, hK⟩
        case round =>
          obtain ⟨j, I2, O2, hj, hgh2, rfl, rfl, rfl, hI2, wd2, HK⟩ := hrel
          clear hK
          have hcell' : True := trivial
          by_cases hjz : (j : Int) < z
          · by_cases hj1 : j < 100
            · have hj1' : (j : Int) < 100 := by omega
              by_cases hfull : I2 - O2 < P
              · have hI3 : (I2 : Int) + 1 < 9223372036854775808 := by omega
                have HPu := hide (tu_push (unhide HK).2 (unhide HK).1 hfull)
                clear HK
                go_wp2_with fail
                refine (unhide HPu).mono ?_
                rintro e w6 ⟨rfl, wd6, hT6, hL6⟩
                have HK6 := hide (And.intro hT6 hL6)
                clear hT6 hL6 HPu
                go_wp2
                go_roundg (100 - (j + 1))
                case measure => have := unhide hgh2; omega
                case rel => exact ⟨j + 1, I2 + 1, O2, by omega, hide rfl, by go_num, by go_num, by go_num, by omega, wd6, HK6⟩
              · have HPu := hide (tu_full (unhide HK).2 (unhide HK).1 hfull I2)
                have HT6 := hide (unhide HK).1
                clear HK
                go_wp2_with fail
                refine (unhide HPu).mono ?_
                rintro e w6 ⟨rfl, hL6⟩
                have HK := hide (And.intro (unhide HT6) hL6)
                clear hL6 HPu HT6
                clear hcell'
                have hio : (O2 : Int) ≤ I2 := by have := (unhide HK).1.le; omega
                have hfu : ¬ (P : Int) < (I2 : Int) - O2 := by have := (unhide HK).1.full; omega
                have hwr : -9223372036854775808 ≤ (I2 : Int) - O2 ∧ (I2 : Int) - O2 < 9223372036854775808 := by omega
                have HCo := hide (tu_count (unhide HK).2 (unhide HK).1)
                go_wp2_with fail
                refine (unhide HCo).mono ?_
                rintro e w9 ⟨rfl, hL9⟩
                have HK9 := hide (And.intro (unhide HK).1 hL9)
                clear hL9 HCo HK
                go_wp2
                go_roundg (len - (k + 1))
                case measure => have := unhide hgh; omega
                case rel => exact ⟨k + 1, I2, O2, by omega, hide rfl, by go_num, by go_num, by go_num, by omega, _, HK9⟩
            · have hj1' : ¬ (j : Int) < 100 := by omega
              clear hcell'
              have hio : (O2 : Int) ≤ I2 := by have := (unhide HK).1.le; omega
              have hfu : ¬ (P : Int) < (I2 : Int) - O2 := by have := (unhide HK).1.full; omega
              have hwr : -9223372036854775808 ≤ (I2 : Int) - O2 ∧ (I2 : Int) - O2 < 9223372036854775808 := by omega
              have HCo := hide (tu_count (unhide HK).2 (unhide HK).1)
              go_wp2_with fail
              refine (unhide HCo).mono ?_
              rintro e w9 ⟨rfl, hL9⟩
              have HK9 := hide (And.intro (unhide HK).1 hL9)
              clear hL9 HCo HK
              go_wp2
              go_roundg (len - (k + 1))
              case measure => have := unhide hgh; omega
              case rel => exact ⟨k + 1, I2, O2, by omega, hide rfl, by go_num, by go_num, by go_num, by omega, _, HK9⟩
          · have hj2 : True := trivial
            clear hcell'
            have hio : (O2 : Int) ≤ I2 := by have := (unhide HK).1.le; omega
            have hfu : ¬ (P : Int) < (I2 : Int) - O2 := by have := (unhide HK).1.full; omega
            have hwr : -9223372036854775808 ≤ (I2 : Int) - O2 ∧ (I2 : Int) - O2 < 9223372036854775808 := by omega
            have HCo := hide (tu_count (unhide HK).2 (unhide HK).1)
            go_wp2_with fail
            refine (unhide HCo).mono ?_
            rintro e w9 ⟨rfl, hL9⟩
            have HK9 := hide (And.intro (unhide HK).1 hL9)
            clear hL9 HCo HK
            go_wp2
            go_roundg (len - (k + 1))
            case measure => have := unhide hgh; omega
            case rel => exact ⟨k + 1, I2, O2, by omega, hide rfl, by go_num, by go_num, by go_num, by omega, _, HK9⟩
      · skip
        go_wp2
        obtain ⟨wm, rfl⟩ : ∃ wm, wm = wr := ⟨_, rfl⟩
        go_loopg [8, 9, 12] 100 (fun gh vi vo kk wr => ∃ (j I2 O2 : Nat), j ≤ 100 ∧ Hid (gh = 100 - j) ∧ vi = .int .i64 I2 ∧ vo = .int .i64 O2 ∧ kk = .int .i64 j ∧ I2 ≤ 100 * k + j ∧ ∃ (wd : Nat → Int), Hid (TuC A3 wd a P I2 O2 ∧ Lw w1 wr B 32 p A3 wd (.slice none 0 0) [] 0))
        case atStart => exact ⟨0, I, O, by omega, hide (by omega), by go_num, by go_num, rfl, by omega, wd, hK⟩
        case round =>
          obtain ⟨j, I2, O2, hj, hgh2, rfl, rfl, rfl, hI2, wd2, HK⟩ := hrel
          clear hK
          have hcell' : True := trivial
          by_cases hjz : (j : Int) < z
          · by_cases hj1 : j < 100
            · have hj1' : (j : Int) < 100 := by omega
              by_cases hfull : O2 < I2
              · have hI3 : (O2 : Int) + 1 < 9223372036854775808 := by omega
                have HPu := hide (tu_shift (unhide HK).2 (unhide HK).1 hfull)
                clear HK
                go_wp2_with fail
                refine (unhide HPu).mono ?_
                rintro e w6 ⟨rfl, wd6, hT6, hL6⟩
                have HK6 := hide (And.intro hT6 hL6)
                clear hT6 hL6 HPu
                go_wp2
                go_roundg (100 - (j + 1))
                case measure => have := unhide hgh2; omega
                case rel => exact ⟨j + 1, I2, O2 + 1, by omega, hide rfl, by go_num, by go_num, by go_num, by omega, wd6, HK6⟩
              · have HPu := hide (tu_none (unhide HK).2 (unhide HK).1 hfull)
                have HT6 := hide (unhide HK).1
                clear HK
                go_wp2_with fail
                refine (unhide HPu).mono ?_
                rintro e w6 ⟨rfl, hL6⟩
                have HK := hide (And.intro (unhide HT6) hL6)
                clear hL6 HPu HT6
                clear hcell'
                have hio : (O2 : Int) ≤ I2 := by have := (unhide HK).1.le; omega
                have hfu : ¬ (P : Int) < (I2 : Int) - O2 := by have := (unhide HK).1.full; omega
                have hwr : -9223372036854775808 ≤ (I2 : Int) - O2 ∧ (I2 : Int) - O2 < 9223372036854775808 := by omega
                have HCo := hide (tu_count (unhide HK).2 (unhide HK).1)
                go_wp2_with fail
                refine (unhide HCo).mono ?_
                rintro e w9 ⟨rfl, hL9⟩
                have HK9 := hide (And.intro (unhide HK).1 hL9)
                clear hL9 HCo HK
                go_wp2
                go_roundg (len - (k + 1))
                case measure => have := unhide hgh; omega
                case rel => exact ⟨k + 1, I2, O2, by omega, hide rfl, by go_num, by go_num, by go_num, by omega, _, HK9⟩
            · have hj1' : ¬ (j : Int) < 100 := by omega
              clear hcell'
              have hio : (O2 : Int) ≤ I2 := by have := (unhide HK).1.le; omega
              have hfu : ¬ (P : Int) < (I2 : Int) - O2 := by have := (unhide HK).1.full; omega
              have hwr : -9223372036854775808 ≤ (I2 : Int) - O2 ∧ (I2 : Int) - O2 < 9223372036854775808 := by omega
              have HCo := hide (tu_count (unhide HK).2 (unhide HK).1)
              go_wp2_with fail
              refine (unhide HCo).mono ?_
              rintro e w9 ⟨rfl, hL9⟩
              have HK9 := hide (And.intro (unhide HK).1 hL9)
              clear hL9 HCo HK
              go_wp2
              go_roundg (len - (k + 1))
              case measure => have := unhide hgh; omega
              case rel => exact ⟨k + 1, I2, O2, by omega, hide rfl, by go_num, by go_num, by go_num, by omega, _, HK9⟩
          · have hj2 : True := trivial
            clear hcell'
            have hio : (O2 : Int) ≤ I2 := by have := (unhide HK).1.le; omega
            have hfu : ¬ (P : Int) < (I2 : Int) - O2 := by have := (unhide HK).1.full; omega
            have hwr : -9223372036854775808 ≤ (I2 : Int) - O2 ∧ (I2 : Int) - O2 < 9223372036854775808 := by omega
            have HCo := hide (tu_count (unhide HK).2 (unhide HK).1)
            go_wp2_with fail
            refine (unhide HCo).mono ?_
            rintro e w9 ⟨rfl, hL9⟩
            have HK9 := hide (And.intro (unhide HK).1 hL9)
            clear hL9 HCo HK
            go_wp2
            go_roundg (len - (k + 1))
            case measure => have := unhide hgh; omega
            case rel => exact ⟨k + 1, I2, O2, by omega, hide rfl, by go_num, by go_num, by go_num, by omega, _, HK9⟩
    · have hge : ¬ (k : Int) < len := by omega
      have HE := hide ((unhide HF1).trans (unhide hK).2.far)
      clear hK
      go_wp2
      go_ret
      exact ⟨rfl, unhide HE⟩
theorem turns_any (x : Int) (ao : Option Addr) (len cp : Nat) (zs : List Int) (w : World) (hV : Vars w) (_hx : -9223372036854775808 ≤ x ∧ x < 9223372036854775808) (_hm : len < 9223372036854775808) (hcell : ∀ j, j < len → ∃ b off, ao = some ⟨b, off, none⟩ ∧ b < w.heap.size ∧ w.cell? ⟨b, off + j, none⟩ = some (.int .i64 (zs.getD j 0))) :
    Calls Tryd.prog 7 #[.int .i64 x, .slice ao len cp] w fun e w' => e = .returned (.bool true) ∧ Below w.heap.size w w' := by
  have key : Calls Tryd.prog 7 #[.int .i64 x, .slice ao len cp] w fun e w' => e = .returned (.bool true) ∧ Fr (fun _ => False) w w' := by
    by_cases h : x < 1 ∨ 30 < x ∨ (100 : Int) < len
    · exact turns_big x ao len cp w hV (by omega)
    · obtain ⟨P, rfl⟩ := Int.eq_ofNat_of_zero_le (show 0 ≤ x by omega)
      exact turns_main P ao len cp (fun j => zs.getD j 0) w hV (by omega) (by omega) (by omega) hcell
  exact key.mono fun _ _ h => ⟨h.1, h.2.below (Nat.le_refl _) (fun _ x => x.elim)⟩
end Go.Proofs.YtogjblikljggbaaDoor
