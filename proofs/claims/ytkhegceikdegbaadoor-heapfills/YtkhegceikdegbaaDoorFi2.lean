/- HeapFills, walked. -/
import Derived.Test.YtkhegceikdegbaaDoorFi1
namespace Go.Proofs.YtkhegceikdegbaaDoor
open Go.RowKit Go.Proofs.YtkhegceikdegbaaDoor.Hp
set_option maxRecDepth 100000 in
set_option maxHeartbeats 8000000 in
theorem fills_row (x m P : Nat) (odd : Bool) (w : World) (hV : Vars w) (hx1 : 128 ≤ x) (hx2 : x ≤ 4096) (hP : x / 64 = P + 1) (hm1 : 1 ≤ m) (hm2 : 64 < m) (hm3 : m ≤ 1000) :
    Calls Tryd.prog 5 #[.int .i64 x, .int .i64 m, .bool odd] w fun e w' => e = .returned (.bool true) ∧ Below w.heap.size w w' := by
  have HAn := hide (anchor_any w hV)
  obtain ⟨k, hk⟩ : ∃ k, k = (m + 63) / 64 := ⟨_, rfl⟩
  have hk2 : 2 ≤ k := by omega
  have hk3 : k ≤ 20 := by omega
  obtain ⟨M, hM⟩ : ∃ M, M = P / k := ⟨_, rfl⟩
  have hM1 : M * k ≤ P := by rw [hM]; exact Nat.div_mul_le_self P k
  have hM2 : P < M * k + k := by rw [hM]; exact Nat.lt_div_mul_add (by omega)
  have hML : M ≤ 63 := by rw [hM]; exact Nat.le_trans (Nat.div_le_self P k) (by omega)
  obtain ⟨ad, F, HCh⟩ : ∃ ad F, Hid (Chain (P + 1) m M ad F) := ⟨_, _, hide (chain_row hm2 hk hM1 hM2)⟩
  have hki : ((m : Int) + 63) / 64 = (k : Int) := by omega
  have htd : (P : Int).tdiv (k : Int) = (M : Int) := by rw [Int.tdiv_eq_ediv_of_nonneg (by omega), hM]; simp
  have hwr : IntKind.i64.wrap (M : Int) = (M : Int) := by rw [Go.IntKind.wrap_i64]; omega
  have hk0 : (k : Int) ≠ 0 := by omega
  have hkb : ((k : Int) == 0) = false := by simpa using hk0
  clear hM hM1 hM2 hk
  have hsz := hV.size
  have hp1 : 1 ≤ P := by omega
  have hp2 : P ≤ 63 := by omega
  have hq : (x : Int) / 64 = (P : Int) + 1 := by omega
  clear hV
  obtain ⟨i0, hi, hz0, hz1, hz2⟩ := info_parts Tryd.info3
  go_enter Tryd.func5, Tryd.ntmps5
  go_wp2_with fail
  refine (unhide HAn).mono ?_
  rintro e w1 ⟨rfl, hF1, hV1⟩
  have HN := hide (New_any x w1 (by omega) (by omega))
  have HF1 := hide hF1
  have HV1 := hide hV1
  clear hF1 hV1 HAn
  go_wp2_with fail
  refine (unhide HN).mono ?_
  rintro e w2 ⟨B, rfl, hlo, hF2, hA2⟩
  rw [hP] at hA2
  have hs2 := (unhide HF1).size
  have hs3 := hF2.size
  have HBm : Hid (∀ j, B.mem j → w.heap.size ≤ j ∧ j < w2.heap.size) := hide fun j hj => ⟨by have := hlo j hj; omega, hA2.lt hj⟩
  have HL0 : Hid (L1 w w2 B w2.heap.size (P + 1) ad (F 0) 0 (.slice none 0 0)) := hide ⟨by have := World.ownsRow_nil w2 w2.heap.size 3 1; exact this, ⟨_, by rw [(unhide HCh).zero]; exact hA2⟩, (unhide HF1).trans hF2, (unhide HV1).fr hF2 id id, Nat.le_refl _⟩
  have HS : Hid (w.heap.size ≤ w2.heap.size) := hide (by omega)
  obtain ⟨base, hbase⟩ : ∃ base, base = w2.heap.size := ⟨_, rfl⟩
  rw [← hbase] at HBm HL0 HS
  clear hbase hlo hF2 hA2 HF1 HV1 HN hs2 hs3 hP
  unfold HB.ptr
  go_wp2
  clear hki htd hwr hq
  go_loopw [11, 12] (fun v i wr => ∃ k : Nat, k ≤ M ∧ i = .int .i64 k ∧ ∃ ao cp, v = .slice ao k cp ∧ Hid (L1 w wr B base (P + 1) ad (F k) k (.slice ao k cp))) (fun _ i _ => M - (intOf i).toNat)
  case atStart => exact ⟨0, by omega, rfl, none, 0, rfl, HL0⟩
  case round =>
    obtain ⟨k, hk, rfl, ao, cp, rfl, hL⟩ := hrel
    by_cases hlt : k < M
    · obtain ⟨wd, hAt⟩ := (unhide hL).hp
      have HC := hide (Alloc_to B (P + 1) _ wd m wr hAt ((unhide HCh).inv (by omega) k hk) (unhide hL).vars (fun j hj => by have := (unhide HBm j hj).1; omega) hm1 (by omega) ((unhide HCh).go k hlt))
      clear hAt
      unfold HB.ptr at HC
      have hak := (unhide HCh).lt (by omega) hlt
      go_wp2_with fail
      refine (unhide HC).mono ?_
      rintro e w3 ⟨rfl, hF3, hV3, hI3, hA3⟩
      have hL3 := (unhide hL).heap (unhide HBm) hF3 hV3 hA3
      have HL3 := hide hL3
      clear hF3 hV3 hI3 hA3 hL3 hL HC
      go_wp2_with (first | (at_builtin; refine wpList_append_own _ rfl _ _ 34 rfl base 3 i0 (.int .i64 0) 1 8 Tryd.underlying34 hi hz0 hz1 hz2 rfl (by decide) _ _ _ rfl ((unhide HL3).own.alloc _) ⟨w3.heap.size, 0, none⟩ 1 1 [.int .i64 (ad k)] rfl rfl ?c1 ?c2 ?c3 ?c4 ?c5 ?_))
      case c1 =>
        intro j u hj
        match j, hj with
        | 0, hj => simp at hj; subst hj; simp [Addr.add]
      case c2 => intro u hu; simp at hu; subst hu; rfl
      case c3 => unfold maxLen; omega
      case c4 => omega
      case c5 => have := (unhide HL3).le; simp; omega
      · intro v' w5 hown' hgrow _
        have hP := (unhide HL3).push (unhide HBm) hsz (unhide HS) _ hown' hgrow
        obtain ⟨ao', cp', hv', _⟩ := own_form hP.own
        subst hv'
        have HP := hide hP
        clear hP hown' hgrow HL3
        go_wp2
        go_roundw
        case rel => exact ⟨k + 1, by omega, by go_num, ao', cp', rfl, HP⟩
        case measure => simp [intOf]; omega
    · have ek : k = M := by omega
      subst ek
      obtain ⟨wd, hAt⟩ := (unhide hL).hp
      have HC := hide (Alloc_no B (P + 1) _ wd m wr hAt ((unhide HCh).inv (by omega) k (Nat.le_refl _)) (unhide hL).vars (fun j hj => by have := (unhide HBm j hj).1; omega) (unhide HCh).no)
      clear hAt
      unfold HB.ptr at HC
      go_wp2_with fail
      refine (unhide HC).mono ?_
      rintro e w3 ⟨rfl, hF3, hV3, hA3⟩
      have hL3 := (unhide hL).heap (unhide HBm) hF3 hV3 hA3
      have HL3 := hide hL3
      have HRg : Hid (Rg (P + 1) k (roomOfM m) ad (gd odd k 0) (F k)) := hide ⟨((unhide HCh).rg (by omega)).inv, fun j hj => by rw [((unhide HCh).rg (by omega)).at_ j hj, gd_none odd k j hj], ((unhide HCh).rg (by omega)).only⟩
      clear hF3 hV3 hA3 hL3 hL HC
      go_wp2
      go_loopw [84] (fun i wr => ∃ q : Nat, q ≤ k ∧ i = .int .i64 q ∧ ∃ A, Hid (L1 w wr B base (P + 1) ad A k (.slice ao k cp)) ∧ Hid (Rg (P + 1) k (roomOfM m) ad (gd odd k q) A)) (fun i _ => k - (intOf i).toNat)
      case atStart => exact ⟨0, by omega, rfl, _, HL3, HRg⟩
      case round =>
        obtain ⟨q, hq, rfl, A, hL, hR⟩ := hrel
        by_cases hlt : q < k
        · obtain ⟨ao2, cp2, hv2, hg2⟩ := own_form (unhide hL).own
          obtain ⟨g, hg⟩ := hg2 (by omega)
          obtain ⟨rfl, rfl⟩ : ao = ao2 ∧ cp = cp2 := by injection hv2 with h1 h2 h3; exact ⟨h1, h3⟩
          subst hg
          clear hv2 hg2
          have cq := (unhide hL).cell hlt
          obtain ⟨s1, s2, s3⟩ := gd_step odd hlt
          have hst := (unhide hR).step ((unhide HCh).inj (by omega)) s3 (roomOfM_pos m) s1
          rw [s2] at hst
          obtain ⟨wd, hAt⟩ := (unhide hL).hp
          have HC := hide (Free_to B (P + 1) A wd (ad (gx odd k q)) wr hAt (unhide hR).inv (unhide hL).vars (fun j hj => by have := (unhide HBm j hj).1; omega) hst.1)
          unfold HB.ptr at HC
          have HST := hide hst.2
          have hax := (unhide HCh).lt (by omega) s3
          have cx := (unhide hL).cell s3
          have haq := (unhide HCh).lt (by omega) hlt
          clear hAt hst s1 s2
          cases odd with
          | true =>
            have hgx : gx true k q = k - 1 - q := rfl
            rw [hgx] at HC HST hax cx s3
            obtain ⟨x, hx⟩ : ∃ x, x = k - 1 - q := ⟨_, rfl⟩
            rw [← hx] at HC HST hax cx s3
            have hxi : (k : Int) - 1 - (q : Int) = (x : Int) := by omega
            clear hgx hx
            go_wp2_with fail
            refine (unhide HC).mono ?_
            rintro e w7 ⟨rfl, hF7, hV7, hI7, hA7⟩
            have H7 := hide ((unhide hL).heap (unhide HBm) hF7 hV7 hA7)
            clear hF7 hV7 hI7 hA7 HC
            go_wp2
            go_roundw
            case rel => exact ⟨q + 1, by omega, by go_num, _, H7, HST⟩
            case measure => simp [intOf]; omega
          | false =>
            have hgx : gx false k q = q := rfl
            rw [hgx] at HC HST hax cx s3
            clear hgx
            go_wp2_with fail
            refine (unhide HC).mono ?_
            rintro e w7 ⟨rfl, hF7, hV7, hI7, hA7⟩
            have H7 := hide ((unhide hL).heap (unhide HBm) hF7 hV7 hA7)
            clear hF7 hV7 hI7 hA7 HC
            go_wp2
            go_roundw
            case rel => exact ⟨q + 1, by omega, by go_num, _, H7, HST⟩
            case measure => simp [intOf]; omega
        · have eq : q = k := by omega
          subst eq
          have hAe := (unhide hR).done (gd_all odd q)
          subst hAe
          obtain ⟨wd, hAt⟩ := (unhide hL).hp
          have HSp := hide (Spans_empty B (P + 1) wd wr hAt)
          have HBl := hide (Blocks_empty B (P + 1) wd wr hAt)
          rw [show P + 1 - 1 = P from rfl] at HSp
          unfold HB.ptr at HSp HBl
          have HFar := hide (unhide hL).far
          clear hAt
          go_wp2_with fail
          refine (unhide HSp).mono ?_
          rintro e w8 ⟨rfl, hw8⟩
          obtain rfl := hw8.symm
          clear hw8
          go_wp2_with fail
          refine (unhide HBl).mono ?_
          rintro e w9 ⟨rfl, hF9⟩
          go_wp2_with fail
          go_ret
          exact ⟨rfl, ((unhide HFar).trans hF9).below (Nat.le_refl _) (fun _ x => x.elim)⟩
end Go.Proofs.YtkhegceikdegbaaDoor
