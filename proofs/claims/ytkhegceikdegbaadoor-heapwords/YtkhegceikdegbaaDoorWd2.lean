/- HeapWords, walked. -/
import Derived.Test.YtkhegceikdegbaaDoorWd1
namespace Go.Proofs.YtkhegceikdegbaaDoor
open Go.RowKit Go.Proofs.YtkhegceikdegbaaDoor.Hp
set_option maxRecDepth 100000 in
set_option maxHeartbeats 8000000 in
theorem words_big (a0 : Option Addr) (len0 cap0 : Nat) (zs : List Int) (v : Int) (w : World) (hV : Vars w) (hl : len0 ≤ 60)
    (hz : ∀ j, j < len0 → ∃ b off, a0 = some ⟨b, off, none⟩ ∧ b < w.heap.size ∧ w.cell? ⟨b, off + j, none⟩ = some (.int .i64 (zs.getD j 0))) :
    Calls Tryd.prog 7 #[.slice a0 len0 cap0, .int .i64 v] w fun e w' => e = .returned (.bool true) ∧ Below w.heap.size w w' := by
  have HAn := hide (anchor_any w hV)
  have HZ := hide hz
  have hsz := hV.size
  clear hV hz
  obtain ⟨i0, hi, hz0, hz1, hz2⟩ := info_parts Tryd.info3
  go_enter Tryd.func7, Tryd.ntmps7
  go_wp2_with fail
  refine (unhide HAn).mono ?_
  rintro e w1 ⟨rfl, hF1, hV1⟩
  have HN : Hid (Calls Tryd.prog 9 #[.int .i64 4096] w1 fun e w' => NewP 4096 w1 e w') := hide (New_any 4096 w1 (by decide) (by decide))
  have HF1 := hide hF1
  have HV1 := hide hV1
  clear hF1 hV1 HAn
  go_wp2_with fail
  refine (unhide HN).mono ?_
  rintro e w2 ⟨B, rfl, hlo, hF2, hA2⟩
  have hs2 := (unhide HF1).size
  have hs3 := hF2.size
  have HBm : Hid (∀ j, B.mem j → w.heap.size ≤ j ∧ j < w2.heap.size) := hide fun j hj => ⟨by have := hlo j hj; omega, hA2.lt hj⟩
  have HL0 : Hid (L1 w w2 B w2.heap.size 64 (fun _ => 0) (emptyA 64) 0 (.slice none 0 0)) := hide ⟨by have := World.ownsRow_nil w2 w2.heap.size 3 1; exact this, ⟨_, hA2⟩, (unhide HF1).trans hF2, (unhide HV1).fr hF2 id id, Nat.le_refl _⟩
  have HS : Hid (w.heap.size ≤ w2.heap.size) := hide (by omega)
  obtain ⟨base, hbase⟩ : ∃ base, base = w2.heap.size := ⟨_, rfl⟩
  rw [← hbase] at HBm HL0 HS
  clear hbase hlo hF2 hA2 HF1 HV1 HN hs2 hs3
  have H0 : Hid (∀ k, B.mem k → 2 ≤ k) := hide fun j hj => by have := (unhide HBm j hj).1; omega
  unfold HB.ptr
  go_wp2
  go_loopw [6] (fun t wr => ∃ r : Nat, r ≤ 2 ∧ t = .int .i64 r ∧ Hid (L1 w wr B base 64 (fun _ => 0) (emptyA 64) 0 (.slice none 0 0))) (fun t _ => 2 - (intOf t).toNat)
  case atStart => exact ⟨0, by omega, rfl, HL0⟩
  case round =>
    obtain ⟨r, hr, rfl, hL⟩ := hrel
    by_cases hlt : r < 2
    · have HB0 : Hid (Bk 64 0 (fun _ => 0) (fun _ => false) (emptyA 64)) := hide (Bk.empty 64 _)
      go_wp2
      have HLT := hide hlt
      have HDC := hide (decide_eq_true (show (r : Int) < 2 by omega))
      clear hlt
      go_loopw [7, 33] (fun l iv wr => ∃ i : Nat, i ≤ len0 ∧ iv = .int .i64 i ∧ ∃ k : Nat, k ≤ i ∧ ∃ ao cp ad A, l = .slice ao k cp ∧ Hid (L1 w wr B base 64 ad A k (.slice ao k cp)) ∧ Hid (Bk 64 k ad (fun _ => false) A)) (fun _ iv _ => len0 - (intOf iv).toNat)
      case atStart => exact ⟨0, by omega, rfl, 0, by omega, none, 0, _, _, rfl, hL, HB0⟩
      case round =>
        obtain ⟨i, hi', rfl, k, hk, ao, cp, ad, A, rfl, hL2, hB2⟩ := hrel
        by_cases hlt2 : i < len0
        · obtain ⟨b, off, ha0, hbw, hcz⟩ := unhide HZ i hlt2
          subst ha0
          have cz : wr.cell? ⟨b, off + i, none⟩ = some (.int .i64 (zs.getD i 0)) := by
            rw [← hcz]
            exact World.cell?_of_block (w := w) (a := ⟨b, off + i, none⟩) ((unhide hL2).far.block b hbw id)
          clear hcz
          generalize zs.getD i 0 = z at *
          obtain ⟨wd, hAt⟩ := (unhide hL2).hp
          have HC := hide (Alloc_or B 64 A wd z wr hAt (unhide hB2).inv (unhide hL2).vars (unhide H0))
          unfold HB.ptr at HC
          clear hAt
          go_wp2_with fail
          refine (unhide HC).mono ?_
          rintro e w3 ⟨hF3, hV3, ⟨a, A', h1, h2, hg, hI', rfl, hA3⟩ | ⟨rfl, hA3⟩⟩
          · have hL3 := (unhide hL2).heap (unhide HBm) hF3 hV3 hA3
            obtain ⟨ad', had'⟩ : ∃ ad', ad' = upd ad k a := ⟨_, rfl⟩
            have hL4 : L1 w w3 B base 64 ad' A' k (.slice ao k cp) := hL3.re (fun j hj => by rw [had', upd_ne _ _ (by omega)])
            have hB3 : Bk 64 (k + 1) ad' (fun _ => false) A' := by rw [had']; exact (unhide hB2).push (by omega) hg
            have hak : ad' k = a := by rw [had', upd_same]
            have hrn := room_new (unhide hB2).inv hg
            have hin := room_in hI' (x := a) (by rw [hrn]; have := roomOfM_pos z.toNat; omega)
            rw [hrn] at hin
            obtain ⟨r0, hr0⟩ : ∃ r0, r0 = roomOfM z.toNat := ⟨_, rfl⟩
            rw [← hr0] at hrn hin hA3
            have HA3 := hide hA3
            have HL4 := hide hL4
            have HB3 := hide hB3
            have HAk := hide hak
            have HRn := hide hrn
            have HI' := hide hI'
            have ha4 : a + r0 ≤ 4096 := by omega
            clear had' hL3 hL4 hB3 hak hrn hin hg hI' hF3 hV3 hA3 hL2 hB2 HC hr0 h1 h2
            go_wp2_with (first | (at_builtin; refine wpList_append_own _ rfl _ _ 34 rfl base 3 i0 (.int .i64 0) 1 8 Tryd.underlying34 hi hz0 hz1 hz2 rfl (by decide) _ _ _ rfl ((unhide HL4).own.alloc _) ⟨w3.heap.size, 0, none⟩ 1 1 [.int .i64 (a : Int)] rfl rfl ?c1 ?c2 ?c3 ?c4 ?c5 ?_))
            case c1 =>
              intro j u hj
              match j, hj with
              | 0, hj => simp at hj; subst hj; simp [Addr.add]
            case c2 => intro u hu; simp at hu; subst hu; rfl
            case c3 => unfold maxLen; omega
            case c4 => omega
            case c5 => have := (unhide HL4).le; simp; omega
            · intro v' w5 hown' hgrow _
              have hA5 := (unhide HL4).grow (unhide HBm) _ hgrow (unhide HA3)
              have hP := (unhide HL4).push (unhide HBm) hsz (unhide HS) _ (by rw [unhide HAk]; exact hown') hgrow
              obtain ⟨ao', cp', hv', _⟩ := own_form hP.own
              subst hv'
              have HP := hide hP
              have HA5 := hide hA5
              have HW0 : Hid (∀ j, a + 0 ≤ j → j < a + r0 → clearW wd a r0 j = 0) := hide fun j h1 h2 => by unfold clearW; rw [if_pos (by omega)]
              clear hP hown' hgrow HL4 hA5 HA3
              go_wp2
              go_loopw [12] (fun t wr => ∃ q : Nat, q ≤ r0 ∧ t = .int .i64 q ∧ ∃ wd, Hid (At wr B 64 (hrOf A' wd)) ∧ Hid (∀ j, a + q ≤ j → j < a + r0 → wd j = 0) ∧ Hid (L1 w wr B base 64 ad' A' (k + 1) (.slice ao' (k + 1) cp'))) (fun t _ => r0 - (intOf t).toNat)
              case atStart => exact ⟨0, by omega, rfl, _, HA5, HW0, HP⟩
              case round =>
                obtain ⟨q, hq, rfl, wd5, hA, hW, hL5⟩ := hrel
                have HRm := hide (Room_in B 64 A' wd5 a wr (unhide hA) (unhide HI'))
                rw [unhide HRn] at HRm
                unfold HB.ptr at HRm
                by_cases hlt3 : q < r0
                · go_wp2_with fail
                  refine (unhide HRm).mono ?_
                  rintro e w6 ⟨rfl, hF6⟩
                  have hA6 := (unhide hA).quiet hF6
                  have hL6 := (unhide hL5).quiet hF6
                  have HLd := hide (Load_in B 64 A' wd5 a r0 q w6 hA6 (unhide HI') (unhide HRn) hlt3)
                  rw [unhide hW (a + q) (by omega) (by omega)] at HLd
                  unfold HB.ptr at HLd
                  have HA6 := hide hA6
                  have HL6 := hide hL6
                  clear hF6 hA6 hL6 HRm
                  go_wp2_with fail
                  refine (unhide HLd).mono ?_
                  rintro e w7 ⟨rfl, hF7⟩
                  have hA7 := (unhide HA6).quiet hF7
                  have hL7 := (unhide HL6).quiet hF7
                  have HSt := hide (Store_in B 64 A' wd5 a r0 q v w7 hA7 (unhide HI') (unhide HRn) hlt3)
                  unfold HB.ptr at HSt
                  have HL7 := hide hL7
                  clear hF7 hA7 hL7 HLd HA6 HL6
                  go_wp2_with fail
                  refine (unhide HSt).mono ?_
                  rintro e w8 ⟨rfl, hF8, hA8⟩
                  have hV8 := (unhide HL7).vars.fr hF8 (fun x => by have := unhide H0 0 x; omega) (fun x => by have := unhide H0 1 x; omega)
                  have hL8 := (unhide HL7).heap (unhide HBm) hF8 hV8 hA8
                  have HLd2 := hide (Load_in B 64 A' _ a r0 q w8 hA8 (unhide HI') (unhide HRn) hlt3)
                  rw [upd_same] at HLd2
                  unfold HB.ptr at HLd2
                  have HA8 := hide hA8
                  have HL8 := hide hL8
                  clear hF8 hA8 hV8 hL8 HSt HL7
                  go_wp2_with fail
                  refine (unhide HLd2).mono ?_
                  rintro e w9 ⟨rfl, hF9⟩
                  have HA9 := hide ((unhide HA8).quiet hF9)
                  have HL9 := hide ((unhide HL8).quiet hF9)
                  clear hF9 HLd2 HA8 HL8
                  go_wp2
                  go_roundw
                  case rel => exact ⟨q + 1, by omega, by go_num, _, HA9, hide fun j h1 h2 => by rw [upd_ne _ _ (by omega)]; exact unhide hW j (by omega) h2, HL9⟩
                  case measure => simp [intOf]; omega
                · have eq : q = r0 := by omega
                  subst eq
                  go_wp2_with fail
                  refine (unhide HRm).mono ?_
                  rintro e w6 ⟨rfl, hF6⟩
                  have HL6 := hide ((unhide hL5).quiet hF6)
                  clear hF6 HRm
                  go_wp2
                  go_roundw
                  case rel =>
                    simp only [unhide HDC]
                    refine ⟨_, _, _, _, _, _, _, _, _, _, _, _, _, _, _, _, _, _, _, _, _, _, _, _, _, _, _, _, _, _, _, _, _, _, _, _, _, _, _, _, _, _, _, _, _, _, _, _, _, _, _, _, _, _, _, _, _, _, _, _, _, _, _, _, _, ?_, rfl⟩
                    exact ⟨i + 1, by omega, by go_num, k + 1, by omega, ao', cp', ad', A', rfl, HL6, HB3⟩
                  case measure => simp [intOf]; omega
          · have HL3 := hide ((unhide hL2).heap (unhide HBm) hF3 hV3 hA3)
            clear hF3 hV3 hA3 HC
            go_wp2
            go_roundw
            case rel =>
              simp only [unhide HDC]
              refine ⟨_, _, _, _, _, _, _, _, _, _, _, _, _, _, _, _, _, _, _, _, _, _, _, _, _, _, _, _, _, _, _, _, _, _, _, _, _, _, _, _, _, _, _, _, _, _, _, _, _, _, _, _, _, _, _, _, _, _, _, _, _, _, _, _, _, ?_, rfl⟩
              exact ⟨i + 1, by omega, by go_num, k, by omega, ao, cp, ad, A, rfl, HL3, hB2⟩
            case measure => simp [intOf]; omega
        · have HB4 : Hid (Bk 64 k ad (fun j => decide (j < 0)) A) := hide ((unhide hB2).goneAs fun j _ => by simp)
          have hk60 : k ≤ 60 := by omega
          go_wp2
          clear hlt2
          go_loopw [90] (fun t wr => ∃ q : Nat, q ≤ k ∧ t = .int .i64 q ∧ ∃ A, Hid (L1 w wr B base 64 ad A k (.slice ao k cp)) ∧ Hid (Bk 64 k ad (fun j => decide (j < q)) A)) (fun t _ => k - (intOf t).toNat)
          case atStart => exact ⟨0, by omega, rfl, _, hL2, HB4⟩
          case round =>
            obtain ⟨q, hq, rfl, A5, hL5, hB5⟩ := hrel
            by_cases hlt3 : q < k
            · obtain ⟨ao2, cp2, hv2, hg2⟩ := own_form (unhide hL5).own
              obtain ⟨g, hg⟩ := hg2 (by omega)
              obtain ⟨rfl, rfl⟩ : ao = ao2 ∧ cp = cp2 := by injection hv2 with h1 h2 h3; exact ⟨h1, h3⟩
              subst hg
              clear hv2 hg2
              have cq := (unhide hL5).cell hlt3
              have hst := (unhide hB5).step hlt3 (by simp)
              obtain ⟨wd, hAt⟩ := (unhide hL5).hp
              have HC := hide (Free_to B 64 A5 wd (ad q) wr hAt (unhide hB5).inv (unhide hL5).vars (unhide H0) hst.1)
              unfold HB.ptr at HC
              have HST : Hid (Bk 64 k ad (fun j => decide (j < q + 1)) (freeA A5 (ad q))) := hide (hst.2.goneAs fun j _ => by
                unfold upd
                by_cases e : j = q
                · simp [e]
                · simp [e]; omega)
              have hin := room_in (unhide hB5).inv hst.1
              clear hAt hst
              go_wp2_with fail
              refine (unhide HC).mono ?_
              rintro e w7 ⟨rfl, hF7, hV7, hI7, hA7⟩
              have H7 := hide ((unhide hL5).heap (unhide HBm) hF7 hV7 hA7)
              clear hF7 hV7 hI7 hA7 HC
              go_wp2
              go_roundw
              case rel =>
                simp only [unhide HDC]
                refine ⟨_, _, _, _, _, _, _, _, _, _, _, ?_, rfl⟩
                exact ⟨q + 1, by omega, by go_num, _, H7, HST⟩
              case measure => simp [intOf]; omega
            · have eq : q = k := by omega
              subst eq
              have hAe := (unhide hB5).done (fun j hj => by simp [hj])
              subst hAe
              have HF5 : Hid (L1 w wr B base 64 (fun _ => 0) (emptyA 64) 0 (.slice none 0 0)) := hide (unhide hL5).fresh
              go_wp2
              go_roundw
              case rel => exact ⟨r + 1, by have := unhide HLT; omega, by go_num, HF5⟩
              case measure => have := unhide HLT; simp [intOf]; omega
    · obtain ⟨wd, hAt⟩ := (unhide hL).hp
      have HBl := hide (Blocks_empty B 64 wd wr hAt)
      have HSp : Hid (∀ w', Fr (fun _ => False) wr w' → Calls Tryd.prog 19 #[B.ptr] w' fun e w'' => e = .returned (.int .i64 63) ∧ w'' = w') := hide fun w' q => Spans_empty B 64 wd w' (hAt.quiet q)
      unfold HB.ptr at HSp HBl
      have HFar := hide (unhide hL).far
      clear hAt
      go_wp2_with fail
      refine (unhide HBl).mono ?_
      rintro e w8 ⟨rfl, hF8⟩
      have HSp2 := hide (unhide HSp w8 hF8)
      go_wp2_with (first | (go_at_call 19; refine (unhide HSp2).mono ?_; rintro e w9 ⟨rfl, hw9⟩; obtain rfl := hw9.symm; clear hw9))
      go_ret
      exact ⟨rfl, ((unhide HFar).trans hF8).below (Nat.le_refl _) (fun _ x => x.elim)⟩
end Go.Proofs.YtkhegceikdegbaaDoor
