/- HeapApart, walked. -/
import Derived.Test.YtkhegceikdegbaaDoorAp1
namespace Go.Proofs.YtkhegceikdegbaaDoor
open Go.RowKit Go.Proofs.YtkhegceikdegbaaDoor.Hp
theorem Ap.mk2 {w0 w w' : World} {B : HB} {base N k : Nat} {ad rm : Nat → Nat} {A A1 A' : Nat → Kd} {v vr : Value} {wd1 wd : Nat → Int} (hB : ∀ j, B.mem j → w0.heap.size ≤ j ∧ j < base) (h : Mid w0 w B base N k ad rm A1 v vr wd1) (ne : ∀ g, v.ownBlock = some g → vr.ownBlock ≠ some g) (bk : Bk N k ad (fun _ => false) A) (hrm : ∀ j, j < k → roomN A (ad j) = rm j) (cn : cntB A N = k)
    (hI : Inv N A') (hr : ∀ x, roomN A' x = roomN A x) (hF : Fr B.mem w w') (hV : Vars w') (hA : At w' B N (hrOf A' wd)) (hw : ∀ j, j < k → ∀ x, x < rm j → wd (ad j + x) = ad j) : Ap w0 w' B base N k ad rm A' v vr := by
  refine ⟨h.l1.heap hB hF hV hA, own_fr h.rr hF (fun j hj => (hB j hj).2), ne, ⟨hI, fun j hj hg => by rw [hr]; exact bk.live j hj hg, fun j hj hg => by rw [hr]; exact bk.dead j hj hg, fun x hx => bk.only x (by rw [← hr]; exact hx), bk.inj⟩, fun j hj => by rw [hr]; exact hrm j hj, ⟨wd, hA, hw⟩, ?_⟩
  rw [← cn]
  unfold cntB
  exact cntN_ext fun x _ => by unfold isB; rw [hr]
theorem news1 {w : World} (x : Int) (t : Nat) : ∀ j u, ([.int .i64 x] : List Value)[j]? = some u → (w.alloc (.cells #[.int .i64 x] t)).cell? ((⟨w.heap.size, 0, none⟩ : Addr).add j) = some u := by
  intro j u hj
  match j, hj with
  | 0, hj => simp at hj; subst hj; simp [Addr.add]
theorem one1 (x : Int) : ∀ u ∈ ([.int .i64 x] : List Value), u.oneCell' = true := by
  intro u hu; simp at hu; subst hu; rfl
set_option maxRecDepth 100000 in
set_option maxHeartbeats 16000000 in
theorem apart_big (xw N : Nat) (a0 : Option Addr) (len0 cap0 : Nat) (zs : List Int) (a1 : Option Addr) (len1 cap1 : Nat) (fb : Nat → Bool) (w : World) (hV : Vars w) (hx1 : 128 ≤ xw) (hx2 : xw ≤ 8192) (hN : xw / 64 = N) (hl : len0 ≤ 300)
    (hz : ∀ j, j < len0 → ∃ b off, a0 = some ⟨b, off, none⟩ ∧ b < w.heap.size ∧ w.cell? ⟨b, off + j, none⟩ = some (.int .i64 (zs.getD j 0)))
    (hy : ∀ j, j < len1 → ∃ b off, a1 = some ⟨b, off, none⟩ ∧ b < w.heap.size ∧ w.cell? ⟨b, off + j, none⟩ = some (.bool (fb j))) :
    Calls Tryd.prog 4 #[.int .i64 xw, .slice a0 len0 cap0, .slice a1 len1 cap1] w fun e w' => e = .returned (.bool true) ∧ Below w.heap.size w w' := by
  have HAn := hide (anchor_any w hV)
  have HZ := hide hz
  have HY := hide hy
  have hsz := hV.size
  have hn2 : 2 ≤ N := by omega
  have hn3 : N ≤ 128 := by omega
  have hn4 : 64 * N ≤ xw := by omega
  clear hV hz hy
  obtain ⟨i0, hi, hz0, hz1, hz2⟩ := info_parts Tryd.info3
  go_enter Tryd.func4, Tryd.ntmps4
  go_wp2_with fail
  refine (unhide HAn).mono ?_
  rintro e w1 ⟨rfl, hF1, hV1⟩
  have HN := hide (New_any xw w1 (by omega) (by omega))
  have HF1 := hide hF1
  have HV1 := hide hV1
  clear hF1 hV1 HAn
  go_wp2_with fail
  refine (unhide HN).mono ?_
  rintro e w2 ⟨B, rfl, hlo, hF2, hA2⟩
  rw [hN] at hA2
  have hs2 := (unhide HF1).size
  have hs3 := hF2.size
  have HBm : Hid (∀ j, B.mem j → w.heap.size ≤ j ∧ j < w2.heap.size) := hide fun j hj => ⟨by have := hlo j hj; omega, hA2.lt hj⟩
  have HL0 : Hid (Ap w w2 B w2.heap.size N 0 (fun _ => 0) (fun _ => 0) (emptyA N) (.slice none 0 0) (.slice none 0 0)) := hide ⟨⟨by have := World.ownsRow_nil w2 w2.heap.size 3 1; exact this, ⟨_, hA2⟩, (unhide HF1).trans hF2, (unhide HV1).fr hF2 id id, Nat.le_refl _⟩, by have := World.ownsRow_nil w2 w2.heap.size 3 1; exact this, fun g hg => by simp [Value.ownBlock] at hg, Bk.empty N _, fun j hj => by omega, ⟨_, hA2, fun j hj => by omega⟩, cntB_empty N⟩
  have HS : Hid (w.heap.size ≤ w2.heap.size) := hide (by omega)
  obtain ⟨base, hbase⟩ : ∃ base, base = w2.heap.size := ⟨_, rfl⟩
  rw [← hbase] at HBm HL0 HS
  clear hbase hlo hF2 hA2 HF1 HV1 HN hs2 hs3 hN
  have H0 : Hid (∀ k, B.mem k → 2 ≤ k) := hide fun j hj => by have := (unhide HBm j hj).1; omega
  unfold HB.ptr
  go_wp2
  go_loopw [8, 9, 44] (fun v vr iv wr => ∃ i : Nat, i ≤ len0 ∧ iv = .int .i64 i ∧ ∃ k : Nat, k ≤ i ∧ ∃ ao cp ar cr ad rm A, v = .slice ao k cp ∧ vr = .slice ar k cr ∧ Hid (Ap w wr B base N k ad rm A (.slice ao k cp) (.slice ar k cr))) (fun _ _ iv _ => len0 - (intOf iv).toNat)
  case atStart => exact ⟨0, by omega, rfl, 0, by omega, none, 0, none, 0, _, _, _, rfl, rfl, HL0⟩
  case round =>
    obtain ⟨i, hi', rfl, k, hk, ao, cp, ar, cr, ad, rm, A, rfl, rfl, hP⟩ := hrel
    by_cases hlt2 : i < len0
    · obtain ⟨b, off, ha0, hbw, hcz⟩ := unhide HZ i hlt2
      subst ha0
      have cz : wr.cell? ⟨b, off + i, none⟩ = some (.int .i64 (zs.getD i 0)) := by
        rw [← hcz]
        exact World.cell?_of_block (w := w) (a := ⟨b, off + i, none⟩) ((unhide hP).l1.far.block b hbw id)
      clear hcz
      generalize zs.getD i 0 = z at *
      obtain ⟨wd, hAt, hw⟩ := (unhide hP).wd_
      have HC := hide (Alloc_or B N A wd z wr hAt (unhide hP).bk.inv (unhide hP).l1.vars (unhide H0))
      have HW := hide hw
      unfold HB.ptr at HC
      clear hAt hw
      go_wp2_with fail
      refine (unhide HC).mono ?_
      rintro e w3 ⟨hF3, hV3, ⟨a, A', h1, h2, hg, hI', rfl, hA3⟩ | ⟨rfl, hA3⟩⟩
      · have hO := Off.of (unhide hP).bk (unhide hP).rm_ (by omega) hg
        have hrn := room_new (unhide hP).bk.inv hg
        have hge := roomOfM_ge z.toNat
        have hpos := roomOfM_pos z.toNat
        have hB3 := (unhide hP).bk.push (by omega) hg
        have hcn := cntB_goes (unhide hP).bk.inv (by omega) hg
        rw [(unhide hP).cn] at hcn
        have hrg := room_goes (unhide hP).bk.inv hg
        obtain ⟨r, hr⟩ : ∃ r, r = roomOfM z.toNat := ⟨_, rfl⟩
        rw [← hr] at hO hrn hA3 hge hpos
        have hin := room_in hI' (x := a) (by omega)
        rw [hrn] at hin
        have HRg : Hid (∀ y, roomN A' y = if y = a then r else roomN A y) := hide (by rw [hr]; exact hrg.2)
        have HR0 : Hid (roomN A a = 0) := hide hrg.1
        have hM : Mid w w3 B base N k ad rm A' (.slice ao k cp) (.slice ar k cr) (clearW wd a r) := ⟨(unhide hP).l1.heap (unhide HBm) hF3 hV3 hA3, own_fr (unhide hP).rr hF3 (fun j hj => (unhide HBm j hj).2), hA3⟩
        have HW3 := hide (W3.start hO (unhide HW))
        have HRm := hide (Room_in B N A' _ a w3 hA3 hI')
        rw [hrn] at HRm
        unfold HB.ptr at HRm
        have HM := hide hM
        have HO := hide hO
        have HRn := hide hrn
        have HI' := hide hI'
        have HB3 := hide hB3
        have HCn := hide hcn
        have HNe := hide (unhide hP).ne
        have HBk := hide (unhide hP).bk
        have HRm0 := hide (unhide hP).rm_
        have HCk := hide (unhide hP).cn
        have hzr : z ≤ (r : Int) := by omega
        have ham : (a : Int) % 2 = 0 := by omega
        have ha64 : 64 ≤ a := hin.1
        have har : a + r ≤ xw := by omega
        have hari : (a : Int) + (r : Int) ≤ (xw : Int) := by omega
        have hrl : a + r ≤ 8192 := by omega
        have HRmA : Hid (∀ j, j < k → roomN A (ad j) = rm j ∧ ad j + rm j ≤ 8192) := hide fun j hj => ⟨(unhide hP).rm_ j hj, by
          have := room_in (unhide hP).bk.inv ((unhide hP).bk.live j hj rfl)
          rw [(unhide hP).rm_ j hj] at this
          omega⟩
        clear hO hrn hge hB3 hcn hrg hin hM hI' hF3 hV3 hA3 hg hr HC HW
        go_wp2_with fail
        refine (unhide HRm).mono ?_
        rintro e w4 ⟨rfl, hF4⟩
        have HM4 := hide ((unhide HM).quiet hF4)
        clear hF4 HRm HM
        go_wp2
        go_loop [83] (fun t => ∃ q : Nat, q ≤ k ∧ t = .int .i64 q) (fun t => k - (intOf t).toNat)
        case atStart => exact ⟨0, by omega, rfl⟩
        case round =>
          obtain ⟨q, hq, rfl⟩ := hrel
          by_cases hlt3 : q < k
          · obtain ⟨ao2, cp2, hv2, hg2⟩ := own_form (unhide HM4).l1.own
            obtain ⟨g, hg⟩ := hg2 (by omega)
            obtain ⟨rfl, rfl⟩ : ao = ao2 ∧ cp = cp2 := by injection hv2 with h1 h2 h3; exact ⟨h1, h3⟩
            obtain ⟨ar2, cr2, hv3, hg3⟩ := own_form (unhide HM4).rr
            obtain ⟨g', hg'⟩ := hg3 (by omega)
            obtain ⟨rfl, rfl⟩ : ar = ar2 ∧ cr = cr2 := by injection hv3 with h1 h2 h3; exact ⟨h1, h3⟩
            subst hg
            subst hg'
            clear hv2 hg2 hv3 hg3
            have ca := (unhide HM4).l1.cell hlt3
            have cb := (unhide HM4).cellR hlt3
            have hqb := (unhide HRmA q hlt3).2
            rcases unhide HO q hlt3 with ho | ho
            · have t2 : decide ((ad q : Int) < (a : Int) + (r : Int)) = false := by simp; omega
              go_wp2
              go_round
              case rel => exact ⟨q + 1, by omega, by go_num⟩
              case measure => simp [intOf]; omega
            · have t2 : decide ((a : Int) < (ad q : Int) + (rm q : Int)) = false := by simp; omega
              go_wp2
              go_round
              case rel => exact ⟨q + 1, by omega, by go_num⟩
              case measure => simp [intOf]; omega
          · have HI0 : Hid (W3 ad rm k a r 0 (clearW wd a r)) := HW3
            go_wp2
            go_loopw [17] (fun t wr => ∃ q : Nat, q ≤ r ∧ t = .int .i64 q ∧ ∃ wd5, Hid (Mid w wr B base N k ad rm A' (.slice ao k cp) (.slice ar k cr) wd5) ∧ Hid (W3 ad rm k a r q wd5)) (fun t _ => r - (intOf t).toNat)
            case atStart => exact ⟨0, by omega, rfl, _, HM4, HI0⟩
            case round =>
              obtain ⟨x, hx, rfl, wd5, hM5, hW5⟩ := hrel
              by_cases hlt4 : x < r
              · have HLd := hide (Load_in B N A' wd5 a r x wr (unhide hM5).at_ (unhide HI') (unhide HRn) hlt4)
                rw [(unhide hW5).2.1 x (Nat.le_refl _) hlt4] at HLd
                unfold HB.ptr at HLd
                go_wp2_with fail
                refine (unhide HLd).mono ?_
                rintro e w6 ⟨rfl, hF6⟩
                have hM6 := (unhide hM5).quiet hF6
                have HSt := hide (Store_in B N A' wd5 a r x (a : Int) w6 hM6.at_ (unhide HI') (unhide HRn) hlt4)
                unfold HB.ptr at HSt
                have HM6 := hide hM6
                clear hF6 hM6 HLd
                go_wp2_with fail
                refine (unhide HSt).mono ?_
                rintro e w7 ⟨rfl, hF7, hA7⟩
                have hV7 := (unhide HM6).l1.vars.fr hF7 (fun x => by have := unhide H0 0 x; omega) (fun x => by have := unhide H0 1 x; omega)
                have HM7 := hide ((unhide HM6).heap (unhide HBm) hF7 hV7 hA7)
                have HW7 := hide ((unhide hW5).step (unhide HO) hlt4)
                clear hF7 hV7 hA7 HSt HM6
                go_wp2
                go_roundw
                case rel => exact ⟨x + 1, by omega, by go_num, _, HM7, HW7⟩
                case measure => simp [intOf]; omega
              · have ex : r = x := by omega
                subst ex
                by_cases hfi : i < len1
                · obtain ⟨b1, off1, ha1, hb1, hc1⟩ := unhide HY i hfi
                  subst ha1
                  have cy : wr.cell? ⟨b1, off1 + i, none⟩ = some (.bool (fb i)) := by
                    rw [← hc1]
                    exact World.cell?_of_block (w := w) (a := ⟨b1, off1 + i, none⟩) ((unhide hM5).l1.far.block b1 hb1 id)
                  clear hc1
                  cases hfb : fb i with
                  | true =>
                    rw [hfb] at cy
                    clear hfb
                    have hst := unhide HRn
                    have HFr := hide (Free_to B N A' wd5 a wr (unhide hM5).at_ (unhide HI') (unhide hM5).l1.vars (unhide H0) (by rw [hst]; omega))
                    unfold HB.ptr at HFr
                    have HRf := hide (room_freed (unhide HI') (x := a) (by rw [hst]; omega))
                    clear hst
                    go_wp2_with fail
                    refine (unhide HFr).mono ?_
                    rintro e w6 ⟨rfl, hF6, hV6, hI6, hA6⟩
                    have HFn := hide (Free_no B N _ wd5 a w6 hA6 hI6 hV6 (unhide H0) (by rw [unhide HRf, if_pos rfl]))
                    unfold HB.ptr at HFn
                    have HF6 := hide hF6
                    have HI6 := hide hI6
                    clear hF6 hV6 hI6 hA6 HFr
                    go_wp2_with fail
                    refine (unhide HFn).mono ?_
                    rintro e w7 ⟨rfl, hF7, hV7, hA7⟩
                    have HRm7 := hide (Room_in B N _ wd5 a w7 hA7 (unhide HI6))
                    rw [unhide HRf, if_pos rfl] at HRm7
                    unfold HB.ptr at HRm7
                    have HA7 := hide hA7
                    have HV7 := hide hV7
                    have HF7 := hide ((unhide HF6).trans hF7)
                    clear hF7 hV7 hA7 HFn HF6
                    go_wp2_with fail
                    refine (unhide HRm7).mono ?_
                    rintro e w8 ⟨rfl, hF8⟩
                    have HAp := hide (Ap.mk2 (unhide HBm) (unhide hM5) (unhide HNe) (unhide HBk) (unhide HRm0) (unhide HCk) (unhide HI6) (fun y => by
                      rw [unhide HRf, unhide HRg]
                      by_cases e : y = a
                      · rw [if_pos e, e, unhide HR0]
                      · rw [if_neg e, if_neg e]) ((unhide HF7).trans hF8.toMem) ((unhide HV7).fr hF8 id id) ((unhide HA7).quiet hF8) (unhide hW5).2.2)
                    clear hF8 HRm7 HA7 HV7 HF7
                    go_wp2
                    go_roundw
                    case rel => exact ⟨i + 1, by omega, by go_num, k, by omega, ao, cp, ar, cr, ad, rm, _, rfl, rfl, HAp⟩
                    case measure => simp [intOf]; omega
                  | false =>
                    rw [hfb] at cy
                    clear hfb
                    have HWf := hide (unhide hW5)
                    go_wp2_with (first | (at_builtin; refine wpList_append_lies _ rfl (.tmp 155) (.tmp 157) 34 rfl base 3 i0 (.int .i64 0) 1 8 Tryd.underlying34 hi hz0 hz1 hz2 rfl (by decide) (.slice ao k cp) k (adL ad k) rfl ((unhide hM5).l1.own.alloc _) ⟨wr.heap.size, 0, none⟩ 1 1 [.int .i64 (a : Int)] rfl rfl (news1 _ _) (one1 _) (by decide) (by unfold maxLen; omega) (by omega) (by have := (unhide hM5).l1.le; simp; omega) _ rfl ?_))
                    intro g1 cap1' w6 ho1 hg1 hat1 _
                    have hpA := (unhide hM5).pushA (unhide HNe) (unhide HBm) hsz (unhide HS) a _ ho1 hg1 hat1
                    have HpA := hide hpA
                    have HRo := hide hpA.2.1
                    have hle6 := hpA.1.le
                    clear ho1 hg1 hat1 hpA
                    go_wp2_with (first | (at_builtin; refine wpList_append_lies _ rfl (.tmp 159) (.tmp 161) 34 rfl base 3 i0 (.int .i64 0) 1 8 Tryd.underlying34 hi hz0 hz1 hz2 rfl (by decide) (.slice ar k cr) k (adL rm k) rfl ((unhide HRo).alloc _) ⟨w6.heap.size, 0, none⟩ 1 1 [.int .i64 (r : Int)] rfl rfl (news1 _ _) (one1 _) (by decide) (by unfold maxLen; omega) (by omega) (by simp; omega) _ rfl ?_))
                    intro g2 cap2' w7 ho2 hg2 hat2 _
                    have HAp := hide (Ap.pushR (unhide HpA).1 (unhide HpA).2.1 (unhide HpA).2.2.1 (unhide HpA).2.2.2 (unhide HBm) hsz (unhide HS) r _ ho2 hg2 hat2 (unhide HB3)
                      (fun j hj => by
                        by_cases e : j = k
                        · rw [e, upd_same, upd_same]; exact unhide HRn
                        · have h1 := (unhide HRmA j (by omega)).1
                          rw [upd_ne _ _ e, upd_ne _ _ e, unhide HRg, if_neg (fun e1 => (unhide HBk).live j (by omega) rfl (by rw [e1]; exact unhide HR0))]
                          exact h1)
                      (fun j hj x hx => by
                        by_cases e : j = k
                        · rw [e, upd_same] at hx ⊢; exact (unhide HWf).1 x hx
                        · rw [upd_ne _ _ e] at hx ⊢; exact (unhide HWf).2.2 j (by omega) x hx) (unhide HCn))
                    clear ho2 hg2 hat2 HpA HRo hle6
                    go_wp2
                    go_roundw
                    case rel => exact ⟨i + 1, by omega, by go_num, k + 1, by omega, _, cap1', _, cap2', _, _, A', rfl, rfl, HAp⟩
                    case measure => simp [intOf]; omega
                · have HWf := hide (unhide hW5)
                  go_wp2_with (first | (at_builtin; refine wpList_append_lies _ rfl (.tmp 155) (.tmp 157) 34 rfl base 3 i0 (.int .i64 0) 1 8 Tryd.underlying34 hi hz0 hz1 hz2 rfl (by decide) (.slice ao k cp) k (adL ad k) rfl ((unhide hM5).l1.own.alloc _) ⟨wr.heap.size, 0, none⟩ 1 1 [.int .i64 (a : Int)] rfl rfl (news1 _ _) (one1 _) (by decide) (by unfold maxLen; omega) (by omega) (by have := (unhide hM5).l1.le; simp; omega) _ rfl ?_))
                  intro g1 cap1' w6 ho1 hg1 hat1 _
                  have hpA := (unhide hM5).pushA (unhide HNe) (unhide HBm) hsz (unhide HS) a _ ho1 hg1 hat1
                  have HpA := hide hpA
                  have HRo := hide hpA.2.1
                  have hle6 := hpA.1.le
                  clear ho1 hg1 hat1 hpA
                  go_wp2_with (first | (at_builtin; refine wpList_append_lies _ rfl (.tmp 159) (.tmp 161) 34 rfl base 3 i0 (.int .i64 0) 1 8 Tryd.underlying34 hi hz0 hz1 hz2 rfl (by decide) (.slice ar k cr) k (adL rm k) rfl ((unhide HRo).alloc _) ⟨w6.heap.size, 0, none⟩ 1 1 [.int .i64 (r : Int)] rfl rfl (news1 _ _) (one1 _) (by decide) (by unfold maxLen; omega) (by omega) (by simp; omega) _ rfl ?_))
                  intro g2 cap2' w7 ho2 hg2 hat2 _
                  have HAp := hide (Ap.pushR (unhide HpA).1 (unhide HpA).2.1 (unhide HpA).2.2.1 (unhide HpA).2.2.2 (unhide HBm) hsz (unhide HS) r _ ho2 hg2 hat2 (unhide HB3)
                    (fun j hj => by
                      by_cases e : j = k
                      · rw [e, upd_same, upd_same]; exact unhide HRn
                      · have h1 := (unhide HRmA j (by omega)).1
                        rw [upd_ne _ _ e, upd_ne _ _ e, unhide HRg, if_neg (fun e1 => (unhide HBk).live j (by omega) rfl (by rw [e1]; exact unhide HR0))]
                        exact h1)
                    (fun j hj x hx => by
                      by_cases e : j = k
                      · rw [e, upd_same] at hx ⊢; exact (unhide HWf).1 x hx
                      · rw [upd_ne _ _ e] at hx ⊢; exact (unhide HWf).2.2 j (by omega) x hx) (unhide HCn))
                  clear ho2 hg2 hat2 HpA HRo hle6
                  go_wp2
                  go_roundw
                  case rel => exact ⟨i + 1, by omega, by go_num, k + 1, by omega, _, cap1', _, cap2', _, _, A', rfl, rfl, HAp⟩
                  case measure => simp [intOf]; omega
      · have HP3 := hide ((unhide hP).keep (unhide HBm) (unhide hP).bk.inv (fun _ => rfl) hF3 hV3 hA3 (unhide HW))
        clear hF3 hV3 hA3 HC HW
        go_wp2
        go_roundw
        case rel => exact ⟨i + 1, by omega, by go_num, k, by omega, ao, cp, ar, cr, ad, rm, A, rfl, rfl, HP3⟩
        case measure => simp [intOf]; omega
    · go_wp2
      go_loopw [166] (fun t wr => ∃ q : Nat, q ≤ k ∧ t = .int .i64 q ∧ Hid (Ap w wr B base N k ad rm A (.slice ao k cp) (.slice ar k cr))) (fun t _ => k - (intOf t).toNat)
      case atStart => exact ⟨0, by omega, rfl, hP⟩
      case round =>
        obtain ⟨q, hq, rfl, hP2⟩ := hrel
        by_cases hlt3 : q < k
        · obtain ⟨ao2, cp2, hv2, hg2⟩ := own_form (unhide hP2).l1.own
          obtain ⟨g, hg⟩ := hg2 (by omega)
          obtain ⟨rfl, rfl⟩ : ao = ao2 ∧ cp = cp2 := by injection hv2 with h1 h2 h3; exact ⟨h1, h3⟩
          obtain ⟨ar2, cr2, hv3, hg3⟩ := own_form (unhide hP2).rr
          obtain ⟨g', hg'⟩ := hg3 (by omega)
          obtain ⟨rfl, rfl⟩ : ar = ar2 ∧ cr = cr2 := by injection hv3 with h1 h2 h3; exact ⟨h1, h3⟩
          subst hg
          subst hg'
          clear hv2 hg2 hv3 hg3
          have ca := (unhide hP2).l1.cell hlt3
          have hrq := (unhide hP2).rm_ q hlt3
          have hin := room_in (unhide hP2).bk.inv ((unhide hP2).bk.live q hlt3 rfl)
          rw [hrq] at hin
          have hqb : ad q + rm q ≤ 8192 := by omega
          have HRq := hide hrq
          clear hrq hin
          go_wp2
          go_loopw [22] (fun t wr => ∃ x : Nat, x ≤ rm q ∧ t = .int .i64 x ∧ Hid (Ap w wr B base N k ad rm A (.slice (some ⟨g, 0, none⟩) k cp) (.slice (some ⟨g', 0, none⟩) k cr))) (fun t _ => rm q - (intOf t).toNat)
          case atStart => exact ⟨0, by omega, rfl, hP2⟩
          case round =>
            obtain ⟨x, hx, rfl, hP3⟩ := hrel
            have cb := (unhide hP3).cellR hlt3
            by_cases hlt4 : x < rm q
            · obtain ⟨wd, hAt, hw⟩ := (unhide hP3).wd_
              have HLd := hide (Load_in B N A wd (ad q) (rm q) x wr hAt (unhide hP3).bk.inv (unhide HRq) hlt4)
              rw [hw q hlt3 x hlt4] at HLd
              unfold HB.ptr at HLd
              clear hAt hw
              go_wp2_with fail
              refine (unhide HLd).mono ?_
              rintro e w6 ⟨rfl, hF6⟩
              have HP6 := hide ((unhide hP3).quiet hF6)
              clear hF6 HLd
              go_wp2
              go_roundw
              case rel => exact ⟨x + 1, by omega, by go_num, HP6⟩
              case measure => simp [intOf]; omega
            · go_wp2
              go_roundw
              case rel => exact ⟨q + 1, by omega, by go_num, hP3⟩
              case measure => simp [intOf]; omega
        · obtain ⟨wd, hAt, hw⟩ := (unhide hP2).wd_
          have HBl := hide (Blocks_any B N A wd wr hAt (unhide hP2).bk.inv (unhide hP2).l1.vars (by rw [(unhide hP2).cn]; omega))
          rw [(unhide hP2).cn] at HBl
          unfold HB.ptr at HBl
          have HFar := hide (unhide hP2).l1.far
          clear hAt hw
          go_wp2_with fail
          refine (unhide HBl).mono ?_
          rintro e w8 ⟨ao8, cp8, rfl, hF8⟩
          go_wp2_with fail
          go_ret
          exact ⟨ret_bool (by simp), ((unhide HFar).trans hF8).below (Nat.le_refl _) (fun _ x => x.elim)⟩
end Go.Proofs.YtkhegceikdegbaaDoor
