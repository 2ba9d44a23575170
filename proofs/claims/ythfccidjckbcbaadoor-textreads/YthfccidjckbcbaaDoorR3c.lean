/- TextReads, walked: an even word above nought. -/
import Derived.Test.YthfccidjckbcbaaDoorRm
import Derived.Deep.AppendSrc
namespace Go.Proofs.YthfccidjckbcbaaDoor
open Go.RowKit Go.Proofs.YthfccidjckbcbaaDoor.Hp
set_option maxRecDepth 100000 in
set_option maxHeartbeats 16000000 in
theorem reads_c (a0 : Option Addr) (cap0 : Nat) (rs : List Rw) (a1 : Option Addr) (cap1 : Nat) (ks : List Int) (a2 : Option Addr) (len2 cap2 : Nat) (ss : List ByteArray) (z : Int) (w : World) (hV : Vars w)
    (hrs : ∀ i r, rs[i]? = some r → RowX w a0 i r) (hks : IntsX w a1 ks) (hS : StrsAt w a2 len2 ss) (hz : -9223372036854775808 ≤ z ∧ z < 9223372036854775808) (hl20 : rs.length ≤ 20) (hl22 : len2 ≤ 20) (h0 : 0 < z) (h2 : z % 2 = 0) :
    Calls Tryd.prog 4 #[.slice a0 rs.length cap0, .slice a1 ks.length cap1, .slice a2 len2 cap2, .int .i64 z] w fun e w' => e = .returned (.bool true) ∧ Below w.heap.size w w' := by
  have HA := hide (anchor_any w hV)
  have HB : Hid (∀ W, Fr (fun _ => False) w W → Below w.heap.size w W) := hide fun W k => k.below (Nat.le_refl _) (fun _ x => x.elim)
  have HRs := hide hrs
  have HKs := hide hks
  have HSt := hide hS
  obtain ⟨len0, hl0⟩ : ∃ l, l = rs.length := ⟨_, rfl⟩
  obtain ⟨len1, hl1⟩ : ∃ l, l = ks.length := ⟨_, rfl⟩
  rw [← hl0] at hl20 ⊢
  rw [← hl1]
  have HL0 := hide hl0
  have HL1 := hide hl1
  have h1' : ¬ (20 : Int) < len0 := by omega
  have h1'' : decide ((20 : Int) < len0) = false := decide_eq_false h1'
  have h2' : ¬ (20 : Int) < len2 := by omega
  have h2'' : decide ((20 : Int) < len2) = false := decide_eq_false h2'
  obtain ⟨i0, hi, hz0, hz1, hz2⟩ := info_parts Tryd.info3
  obtain ⟨i5, hi5, hy0, hy1, hy2⟩ := info_parts Tryd.info5
  clear hV hrs hks hl0 hl1
  have h2t : ¬ z.tmod 2 = 1 := by rw [Int.tmod_eq_emod_of_nonneg (by omega)]; omega
  have h2u : decide (z % 2 = 1) = false := decide_eq_false (by omega)
  go_enter Tryd.func4, Tryd.ntmps4
  go_wp2_with fail
  refine (unhide HA).mono ?_
  rintro e w1 ⟨rfl, hF1, hV1⟩
  have HF1 := hide hF1
  have HN := hide (SNew_any 16384 w1 (by omega) (by omega) hV1)
  clear hF1 hV1
  go_wp2_with fail
  refine (unhide HN).mono ?_
  rintro e w2 ⟨B, p, rfl, hL⟩
  have HR0 : Hid (RS w1 w2 B p (emptyA 256) (fun _ => 0) (.slice none 0 0) [] 0) := hide ⟨hL, Suf.start _, fun x => ⟨by decide, by decide⟩⟩
  have HT0 : Hid (ByteArray.empty = bytI (emptyA 256) (fun _ => 0) ss z) := hide (by
    by_cases h2 : z % 2 = 0
    · rw [byt_none h2 (by unfold roomI; split; unfold roomN emptyA; split <;> rfl; rfl)]
    · unfold bytI
      rw [if_pos h2]
      omega)
  clear hL
  go_wp2_with fail
  have HZz : Hid (0 < z ∧ z % 2 = 0) := hide ⟨h0, h2⟩
  clear h0 h2 h2t h2u
  go_loopw [10, 54] (fun v i wr => ∃ q : Nat, q ≤ len0 ∧ i = .int .i64 q ∧ ∃ T, v = .string T ∧ ∃ A wd hv held, Hid (held.length = q ∧ T = bytI A wd ss z ∧ RS w1 wr B p A wd hv held (2 * q))) (fun _ i _ => len0 - (intOf i).toNat)
  case atStart => exact ⟨0, Nat.zero_le _, rfl, _, rfl, _, _, _, [], hide ⟨rfl, unhide HT0, unhide HR0⟩⟩
  case round =>
    obtain ⟨q, hq, rfl, T, rfl, A, wd, hv, held, hK⟩ := hrel
    clear HT0 HR0
    have HFr := hide ((unhide HF1).trans (unhide hK).2.2.lw.far)
    by_cases hlt : q < len0
    · obtain ⟨r, hr⟩ : ∃ r, rs[q]? = some r := ⟨_, List.getElem?_eq_getElem (by have := unhide HL0; omega)⟩
      obtain ⟨b, off, rfl, hbl, hcl, hrm, hrx⟩ := (unhide HRs) q r hr
      have c1 : wr.cell? ⟨b, off + q, none⟩ = some (.slice r.wa r.W.length r.wc) := (World.cell?_of_block (w := w) (a := ⟨b, off + q, none⟩) ((unhide HFr).block b hbl id)).trans hcl
      have HRx := hide hrx
      unfold maxLen at hrm
      clear hcl hr hrx
      obtain ⟨wa, wc, bs⟩ := r
      simp only at c1 hrm HRx
      obtain ⟨lb, hlb⟩ : ∃ lb, lb = bs.length := ⟨_, rfl⟩
      rw [← hlb] at c1 hrm
      have HLb := hide hlb
      clear hlb
      by_cases h100 : 100 < lb
      · have h100' : (100 : Int) < lb := by omega
        have HEnd := hide (unhide HB _ (unhide HFr))
        go_wp2
        go_ret
        exact ⟨rfl, unhide HEnd⟩
      · have h100' : ¬ (100 : Int) < lb := by omega
        have h100'' : decide ((100 : Int) < lb) = false := decide_eq_false h100'
        have hb100 : lb ≤ 100 := by omega
        have HMk : Hid (∀ kd : Int, 1 ≤ kd → kd ≤ 4 → Calls Tryd.prog 15 #[.pointer (some ⟨p, 0, none⟩), .int .i64 kd, .int .i64 lb, .int .i64 0] wr fun e w' => ∃ (a : Nat) (A' : Nat → Kd), e = .returned (.tuple #[.int .i64 (a : Int), .bool true]) ∧ Goes 256 A (1 + bs.length) a A' ∧ RS w1 w' B p A' (newW wd a (1 + bs.length) (hdr kd (bs.length : Int) 0)) hv held (2 * q + 2)) := hide fun kd h1 h4 => by
          rw [unhide HLb]
          exact reads_make (unhide hK).2.2 (by omega) (by unfold Right; have := unhide HLb; omega) (by have := unhide HLb; omega)
        clear h100
        by_cases hkl : q < len1
        · obtain ⟨bk, offk, rfl, hbk, hck⟩ := (unhide HKs).2 q (by have := unhide HL1; omega)
          have ck : wr.cell? ⟨bk, offk + q, none⟩ = some (.int .i64 (ks.getD q 0)) := (World.cell?_of_block (w := w) (a := ⟨bk, offk + q, none⟩) ((unhide HFr).block bk hbk id)).trans hck
          have hkr := (unhide HKs).1 _ (getD_mem (l := ks) (j := q) (by have := unhide HL1; omega))
          clear hck
          generalize ks.getD q 0 = kq at *
          rcases (show kq < 1 ∨ (1 ≤ kq ∧ 4 < kq) ∨ (1 ≤ kq ∧ kq ≤ 4) by omega) with hq1 | ⟨hq1, hq2⟩ | ⟨hq1, hq2⟩
          · have hq1' : ¬ 1 ≤ kq := by omega
            have hq1'' : decide (1 ≤ kq) = false := decide_eq_false hq1'
            as_aux_lemma =>
              go_wp2_with fail
              refine (unhide HMk 1 (by omega) (by omega)).mono ?_
              rintro e w3 ⟨a, A', rfl, g, hR3⟩
              have HG := hide g
              have HI3 := hide hR3.lw.sp.inv
              have hroom : roomN A' a ≠ 0 := room_made (unhide hK).2.2.lw.sp.inv (by omega) g
              have HRm := hide hroom
              have HRt : Hid (Right 1 (bs.length : Int) 0) := hide (by unfold Right; have := unhide HLb; omega)
              have HHo := hide (reads_hold hR3 (by have := (unhide hK).1; omega) hroom)
              clear hR3 g hroom
              go_wp2_with fail
              refine (unhide HHo).mono ?_
              rintro e w4 ⟨rfl, hv4, hR4⟩
              have HR4 : Hid (RS w1 w4 B p A' (putK (newW wd a (1 + bs.length) (hdr 1 (bs.length : Int) 0)) a bs 0) hv4 (held ++ [(a : Int)]) (2 * q + 2)) := hide (by rw [putK_zero]; exact hR4)
              clear hR4 HHo
              go_wp2_with fail
              obtain ⟨wx, hwx⟩ : ∃ wx, wx = newW wd a (1 + bs.length) (hdr 1 (bs.length : Int) 0) := ⟨_, rfl⟩
              rw [← hwx] at HR4
              have HWx := hide hwx
              clear hwx
              go_loopw [99] (fun i wr => ∃ k : Nat, k ≤ lb ∧ i = .int .i64 k ∧ Hid (RS w1 wr B p A' (putK wx a bs k) hv4 (held ++ [(a : Int)]) (2 * q + 2))) (fun i _ => lb - (intOf i).toNat)
              case atStart => exact ⟨0, Nat.zero_le _, rfl, HR4⟩
              case round =>
                clear HR4
                obtain ⟨k, hk, rfl, hRk⟩ := hrel
                have HFk := hide ((unhide HF1).trans (unhide hRk).lw.far)
                by_cases hkb : k < lb
                · obtain ⟨bw, offw, rfl, hbw, hcw⟩ := (unhide HRx).2 k (by have := unhide HLb; omega)
                  have cw : wr.cell? ⟨bw, offw + k, none⟩ = some (.int .i64 (bs.getD k 0)) := (World.cell?_of_block (w := w) (a := ⟨bw, offw + k, none⟩) ((unhide HFk).block bw hbw id)).trans hcw
                  have HSe := hide (reads_set (kd := 1) (unhide hRk) (unhide HRt) (by rw [unhide HWx, newW_self]) (unhide HRm) (by have := unhide HLb; omega) ((unhide HRx).1 _ (getD_mem (by have := unhide HLb; omega))))
                  clear hcw
                  generalize bs.getD k 0 = vk at *
                  go_wp2_with fail
                  refine (unhide HSe).mono ?_
                  rintro e w5 ⟨rfl, hR5⟩
                  have HR5 := hide hR5
                  clear hR5 HSe
                  go_wp2
                  go_roundw
                  case rel => exact ⟨k + 1, by omega, by go_num, HR5⟩
                  case measure => simp [intOf]; omega
                · have hgek : ¬ (k : Int) < lb := by omega
                  have hgek2 : decide ((k : Int) < lb) = false := decide_eq_false hgek
                  have HNx : Hid (bytI A' (putK wx a bs k) ss z = if z = a ∧ Form 1 bs then ⟨(outL bs (bs.getD 0 0).toNat).toArray⟩ else T) := hide (by
                    obtain rfl : k = bs.length := by have := unhide HLb; omega
                    rw [unhide HWx, reads_next (unhide hK).2.2 (unhide HRt) (by omega) (unhide HG) (unhide HI3) ss z, (unhide hK).2.1])
                  have HSame : Hid (¬ (z = a ∧ Form 1 bs) → (held ++ [(a : Int)]).length = q + 1 ∧ T = bytI A' (putK wx a bs k) ss z ∧ RS w1 wr B p A' (putK wx a bs k) hv4 (held ++ [(a : Int)]) (2 * (q + 1))) := hide fun h => ⟨by rw [List.length_append, (unhide hK).1]; rfl, by rw [unhide HNx, if_neg h], unhide hRk⟩
                  clear hkb
                  by_cases haz : (a : Int) = z
                  · have haz' : decide ((a : Int) = z) = true := decide_eq_true haz
                    rcases Nat.eq_zero_or_pos lb with hlb0 | hlb0
                    · have hlb0' : ¬ (0 : Int) < lb := by omega
                      have hlb0'' : decide ((0 : Int) < lb) = false := decide_eq_false hlb0'
                      clear hlb0
                      have HEnd := hide (unhide HSame (fun x => by have := x.2.2.1; have := unhide HLb; omega))
                      go_wp2
                      go_roundw
                      case rel => exact ⟨q + 1, by omega, by go_num, T, rfl, _, _, _, _, HEnd⟩
                      case measure => simp [intOf]; omega
                    · have hlb0' : (0 : Int) < lb := by omega
                      obtain ⟨bw, offw, rfl, hbw, hcw⟩ := (unhide HRx).2 0 (by have := unhide HLb; omega)
                      have cw : wr.cell? ⟨bw, offw + 0, none⟩ = some (.int .i64 (bs.getD 0 0)) := (World.cell?_of_block (w := w) (a := ⟨bw, offw + 0, none⟩) ((unhide HFk).block bw hbw id)).trans hcw
                      rw [Nat.add_zero] at cw
                      have hbr := (unhide HRx).1 _ (getD_mem (l := bs) (j := 0) (by have := unhide HLb; omega))
                      obtain ⟨b0, hb0⟩ : ∃ b0, bs.getD 0 0 = b0 := ⟨_, rfl⟩
                      rw [hb0] at cw hbr
                      have HB0 := hide hb0
                      clear hcw hb0
                      rcases (show b0 < 1 ∨ (1 ≤ b0 ∧ 16384 < b0) ∨ (1 ≤ b0 ∧ b0 ≤ 16384 ∧ ¬ (lb : Int) = 1 + (b0 + 7) / 8) ∨ (1 ≤ b0 ∧ b0 ≤ 16384 ∧ (lb : Int) = 1 + (b0 + 7) / 8) by omega) with d1 | ⟨d1, d2⟩ | ⟨d1, d2, d3⟩ | ⟨d1, d2, d3⟩
                      · have d1' : ¬ 1 ≤ b0 := by omega
                        have d1'' : decide (1 ≤ b0) = false := decide_eq_false d1'
                        have HEnd := hide (unhide HSame (fun x => by have := x.2.2.2.1; rw [unhide HB0] at this; omega))
                        go_wp2
                        go_roundw
                        case rel => exact ⟨q + 1, by omega, by go_num, T, rfl, _, _, _, _, HEnd⟩
                        case measure => simp [intOf]; omega
                      · have d2' : ¬ b0 ≤ 16384 := by omega
                        have d2'' : decide (b0 ≤ 16384) = false := decide_eq_false d2'
                        have HEnd := hide (unhide HSame (fun x => by have := x.2.2.2.2.1; rw [unhide HB0] at this; omega))
                        go_wp2
                        go_roundw
                        case rel => exact ⟨q + 1, by omega, by go_num, T, rfl, _, _, _, _, HEnd⟩
                        case measure => simp [intOf]; omega
                      · have d3' : decide ((lb : Int) = 1 + (b0 + 7) / 8) = false := decide_eq_false d3
                        have HEnd := hide (unhide HSame (fun x => by have := x.2.2.2.2.2; rw [unhide HB0] at this; have := unhide HLb; omega))
                        go_wp2
                        go_roundw
                        case rel => exact ⟨q + 1, by omega, by go_num, T, rfl, _, _, _, _, HEnd⟩
                        case measure => simp [intOf]; omega
                      · obtain ⟨n0, rfl⟩ := Int.eq_ofNat_of_zero_le (show 0 ≤ b0 by omega)
                        as_aux_lemma =>
                          have HOut : Hid ((held ++ [(a : Int)]).length = q + 1 ∧ ByteArray.mk (outL bs n0).toArray = bytI A' (putK wx a bs k) ss z ∧ RS w1 wr B p A' (putK wx a bs k) hv4 (held ++ [(a : Int)]) (2 * (q + 1))) := hide ⟨by rw [List.length_append, (unhide hK).1]; rfl, by rw [unhide HNx, if_pos ⟨haz.symm, ⟨rfl, by have := unhide HLb; omega, by rw [unhide HB0]; omega, by rw [unhide HB0]; omega, by rw [unhide HB0]; have := unhide HLb; omega⟩⟩, unhide HB0]; rfl, unhide hRk⟩
                          obtain ⟨wq, hwq⟩ : ∃ wq, wq = wr := ⟨_, rfl⟩
                          rw [← hwq] at HOut HFk
                          have HW0 : Hid (UnS wq wr wq.heap.size (.slice none 0 0) [] (.slice none 0 0) 0) := hide (by rw [hwq]; exact ⟨World.ownsRow_nil _ _ _ _, Fr.refl _ _, fun g hg => by simp [Value.ownBlock] at hg⟩)
                          have HCw : Hid (∀ W u, Fr (fun _ => False) wq W → u < lb → W.cell? ⟨bw, offw + u, none⟩ = some (.int .i64 (bs.getD u 0))) := hide fun W u hW hu => by
                            obtain ⟨b2, off2, e2, hb2, hc2⟩ := (unhide HRx).2 u (by have := unhide HLb; omega)
                            simp only [Option.some.injEq, Addr.mk.injEq, and_true] at e2
                            obtain ⟨rfl, rfl⟩ := e2
                            exact (World.cell?_of_block (w := w) (a := ⟨bw, offw + u, none⟩) (((unhide HFk).trans hW).block bw hb2 id)).trans hc2
                          have HC0 : Hid (∀ W, Fr (fun _ => False) wq W → W.cell? ⟨bw, offw, none⟩ = some (.int .i64 (n0 : Int))) := hide fun W hW => by have := unhide HCw W 0 hW (by omega); rw [unhide HB0] at this; exact this
                          clear hwq HSame HNx hRk
                          go_wp2
                          have HD3 := hide d3
                          clear d3
                          go_loopw [18, 19] (fun v i wr => ∃ j : Nat, j ≤ n0 ∧ i = .int .i64 j ∧ ∃ ao1 cp1, v = .slice ao1 j cp1 ∧ Hid (UnS wq wr wq.heap.size (.slice none 0 0) (outL bs j) (.slice ao1 j cp1) j)) (fun _ i _ => n0 - (intOf i).toNat)
                          case atStart => exact ⟨0, Nat.zero_le _, rfl, none, 0, rfl, HW0⟩
                          case round =>
                            clear HW0
                            obtain ⟨j, hj, rfl, ao1, cp1, rfl, hU⟩ := hrel
                            have HFj : Hid (Fr (fun _ => False) wq wr) := hide ((unhide hU).fr.mono fun k e => by simp [Value.ownBlock] at e)
                            have cj0 := unhide HC0 _ (unhide HFj)
                            by_cases hjn : j < n0
                            · have cj1 := unhide HCw wr (1 + j / 8) (unhide HFj) (by have := unhide HD3; omega)
                              have HSu := hide (outL_succ bs j)
                              have HO := hide (unhide hU).own
                              have hsz := (unhide HFj).size
                              generalize bs.getD (1 + j / 8) 0 = vj at *
                              have hlj : 1 + j / 8 < lb := by have := unhide HD3; omega
                              have HPu : Hid (∀ (W : World) (o : Obj) (g cap : Nat), W.ownsRow wq.heap.size 5 1 (.slice (some ⟨g, 0, none⟩) (j + 1) cap) (j + 1) ((outL bs j).map byV ++ [.int .u8 (bits .and .i64 (vj / 2 ^ (8 * (j % 8))) 255 % 256)]) → (wr.alloc o).grownBy W (Value.slice ao1 j cp1).ownBlock → ((Value.slice ao1 j cp1).ownBlock = some g ∨ g = (wr.alloc o).heap.size) → UnS wq W wq.heap.size (.slice none 0 0) (outL bs (j + 1)) (.slice (some ⟨g, 0, none⟩) (j + 1) cap) (j + 1)) := hide fun W o g cap ho hg hat => by
                                rw [out_byte] at ho
                                rw [unhide HSu]
                                exact uns_push (unhide hU) ho hg hat
                              clear hU
                              go_wp2_with (first | (at_builtin; refine wpList_append_lies _ rfl _ _ 38 rfl wq.heap.size 5 i5 (.int .u8 0) 1 1 Tryd.underlying38 hi5 hy0 hy1 hy2 rfl (by decide) (.slice ao1 j cp1) j ((outL bs j).map byV) rfl ((unhide HO).alloc _) ⟨wr.heap.size, 0, none⟩ 1 1 [.int .u8 (bits .and .i64 (vj / 2 ^ (8 * (j % 8))) 255 % 256)] rfl rfl (cell_one_new _ _ _) (ints_oneCell .u8 [_]) (by decide) (by unfold maxLen; omega) (by omega) (by simp; omega) _ rfl ?_; intro g cap2 w5 hown5 hgrow5 hat5 hlt5; have HU5 := hide (unhide HPu _ _ _ _ hown5 hgrow5 hat5); clear hown5 hgrow5 hat5))
                              go_roundw
                              case rel => exact ⟨j + 1, by omega, by go_num, _, _, rfl, HU5⟩
                              case measure => simp [intOf]; omega
                            · have hjn' : ¬ (j : Int) < n0 := by omega
                              have hjn'' : decide ((j : Int) < n0) = false := decide_eq_false hjn'
                              obtain rfl : j = n0 := by omega
                              have hcv := conv_own (unhide hU).own (by unfold outL; exact bytesL_len _ _)
                              have HEnd : Hid ((held ++ [(a : Int)]).length = q + 1 ∧ ByteArray.mk (outL bs j).toArray = bytI A' (putK wx a bs k) ss z ∧ RS w1 wr B p A' (putK wx a bs k) hv4 (held ++ [(a : Int)]) (2 * (q + 1))) := hide ⟨(unhide HOut).1, (unhide HOut).2.1, (unhide HOut).2.2.quiet (unhide HFj)⟩
                              clear hU HOut hjn
                              generalize ByteArray.mk (outL bs j).toArray = tb at *
                              go_wp2
                              go_roundw
                              case rel => exact ⟨q + 1, by omega, by go_num, tb, rfl, _, _, _, _, HEnd⟩
                              case measure => simp [intOf]; omega
                  · have haz' : decide ((a : Int) = z) = false := decide_eq_false haz
                    have HEnd := hide (unhide HSame (fun x => haz x.1.symm))
                    go_wp2
                    go_roundw
                    case rel => exact ⟨q + 1, by omega, by go_num, T, rfl, _, _, _, _, HEnd⟩
                    case measure => simp [intOf]; omega
          · have hq2' : ¬ kq ≤ 4 := by omega
            have hq2'' : decide (kq ≤ 4) = false := decide_eq_false hq2'
            as_aux_lemma =>
              go_wp2_with fail
              refine (unhide HMk 1 (by omega) (by omega)).mono ?_
              rintro e w3 ⟨a, A', rfl, g, hR3⟩
              have HG := hide g
              have HI3 := hide hR3.lw.sp.inv
              have hroom : roomN A' a ≠ 0 := room_made (unhide hK).2.2.lw.sp.inv (by omega) g
              have HRm := hide hroom
              have HRt : Hid (Right 1 (bs.length : Int) 0) := hide (by unfold Right; have := unhide HLb; omega)
              have HHo := hide (reads_hold hR3 (by have := (unhide hK).1; omega) hroom)
              clear hR3 g hroom
              go_wp2_with fail
              refine (unhide HHo).mono ?_
              rintro e w4 ⟨rfl, hv4, hR4⟩
              have HR4 : Hid (RS w1 w4 B p A' (putK (newW wd a (1 + bs.length) (hdr 1 (bs.length : Int) 0)) a bs 0) hv4 (held ++ [(a : Int)]) (2 * q + 2)) := hide (by rw [putK_zero]; exact hR4)
              clear hR4 HHo
              go_wp2_with fail
              obtain ⟨wx, hwx⟩ : ∃ wx, wx = newW wd a (1 + bs.length) (hdr 1 (bs.length : Int) 0) := ⟨_, rfl⟩
              rw [← hwx] at HR4
              have HWx := hide hwx
              clear hwx
              go_loopw [99] (fun i wr => ∃ k : Nat, k ≤ lb ∧ i = .int .i64 k ∧ Hid (RS w1 wr B p A' (putK wx a bs k) hv4 (held ++ [(a : Int)]) (2 * q + 2))) (fun i _ => lb - (intOf i).toNat)
              case atStart => exact ⟨0, Nat.zero_le _, rfl, HR4⟩
              case round =>
                clear HR4
                obtain ⟨k, hk, rfl, hRk⟩ := hrel
                have HFk := hide ((unhide HF1).trans (unhide hRk).lw.far)
                by_cases hkb : k < lb
                · obtain ⟨bw, offw, rfl, hbw, hcw⟩ := (unhide HRx).2 k (by have := unhide HLb; omega)
                  have cw : wr.cell? ⟨bw, offw + k, none⟩ = some (.int .i64 (bs.getD k 0)) := (World.cell?_of_block (w := w) (a := ⟨bw, offw + k, none⟩) ((unhide HFk).block bw hbw id)).trans hcw
                  have HSe := hide (reads_set (kd := 1) (unhide hRk) (unhide HRt) (by rw [unhide HWx, newW_self]) (unhide HRm) (by have := unhide HLb; omega) ((unhide HRx).1 _ (getD_mem (by have := unhide HLb; omega))))
                  clear hcw
                  generalize bs.getD k 0 = vk at *
                  go_wp2_with fail
                  refine (unhide HSe).mono ?_
                  rintro e w5 ⟨rfl, hR5⟩
                  have HR5 := hide hR5
                  clear hR5 HSe
                  go_wp2
                  go_roundw
                  case rel => exact ⟨k + 1, by omega, by go_num, HR5⟩
                  case measure => simp [intOf]; omega
                · have hgek : ¬ (k : Int) < lb := by omega
                  have hgek2 : decide ((k : Int) < lb) = false := decide_eq_false hgek
                  have HNx : Hid (bytI A' (putK wx a bs k) ss z = if z = a ∧ Form 1 bs then ⟨(outL bs (bs.getD 0 0).toNat).toArray⟩ else T) := hide (by
                    obtain rfl : k = bs.length := by have := unhide HLb; omega
                    rw [unhide HWx, reads_next (unhide hK).2.2 (unhide HRt) (by omega) (unhide HG) (unhide HI3) ss z, (unhide hK).2.1])
                  have HSame : Hid (¬ (z = a ∧ Form 1 bs) → (held ++ [(a : Int)]).length = q + 1 ∧ T = bytI A' (putK wx a bs k) ss z ∧ RS w1 wr B p A' (putK wx a bs k) hv4 (held ++ [(a : Int)]) (2 * (q + 1))) := hide fun h => ⟨by rw [List.length_append, (unhide hK).1]; rfl, by rw [unhide HNx, if_neg h], unhide hRk⟩
                  clear hkb
                  by_cases haz : (a : Int) = z
                  · have haz' : decide ((a : Int) = z) = true := decide_eq_true haz
                    rcases Nat.eq_zero_or_pos lb with hlb0 | hlb0
                    · have hlb0' : ¬ (0 : Int) < lb := by omega
                      have hlb0'' : decide ((0 : Int) < lb) = false := decide_eq_false hlb0'
                      clear hlb0
                      have HEnd := hide (unhide HSame (fun x => by have := x.2.2.1; have := unhide HLb; omega))
                      go_wp2
                      go_roundw
                      case rel => exact ⟨q + 1, by omega, by go_num, T, rfl, _, _, _, _, HEnd⟩
                      case measure => simp [intOf]; omega
                    · have hlb0' : (0 : Int) < lb := by omega
                      obtain ⟨bw, offw, rfl, hbw, hcw⟩ := (unhide HRx).2 0 (by have := unhide HLb; omega)
                      have cw : wr.cell? ⟨bw, offw + 0, none⟩ = some (.int .i64 (bs.getD 0 0)) := (World.cell?_of_block (w := w) (a := ⟨bw, offw + 0, none⟩) ((unhide HFk).block bw hbw id)).trans hcw
                      rw [Nat.add_zero] at cw
                      have hbr := (unhide HRx).1 _ (getD_mem (l := bs) (j := 0) (by have := unhide HLb; omega))
                      obtain ⟨b0, hb0⟩ : ∃ b0, bs.getD 0 0 = b0 := ⟨_, rfl⟩
                      rw [hb0] at cw hbr
                      have HB0 := hide hb0
                      clear hcw hb0
                      rcases (show b0 < 1 ∨ (1 ≤ b0 ∧ 16384 < b0) ∨ (1 ≤ b0 ∧ b0 ≤ 16384 ∧ ¬ (lb : Int) = 1 + (b0 + 7) / 8) ∨ (1 ≤ b0 ∧ b0 ≤ 16384 ∧ (lb : Int) = 1 + (b0 + 7) / 8) by omega) with d1 | ⟨d1, d2⟩ | ⟨d1, d2, d3⟩ | ⟨d1, d2, d3⟩
                      · have d1' : ¬ 1 ≤ b0 := by omega
                        have d1'' : decide (1 ≤ b0) = false := decide_eq_false d1'
                        have HEnd := hide (unhide HSame (fun x => by have := x.2.2.2.1; rw [unhide HB0] at this; omega))
                        go_wp2
                        go_roundw
                        case rel => exact ⟨q + 1, by omega, by go_num, T, rfl, _, _, _, _, HEnd⟩
                        case measure => simp [intOf]; omega
                      · have d2' : ¬ b0 ≤ 16384 := by omega
                        have d2'' : decide (b0 ≤ 16384) = false := decide_eq_false d2'
                        have HEnd := hide (unhide HSame (fun x => by have := x.2.2.2.2.1; rw [unhide HB0] at this; omega))
                        go_wp2
                        go_roundw
                        case rel => exact ⟨q + 1, by omega, by go_num, T, rfl, _, _, _, _, HEnd⟩
                        case measure => simp [intOf]; omega
                      · have d3' : decide ((lb : Int) = 1 + (b0 + 7) / 8) = false := decide_eq_false d3
                        have HEnd := hide (unhide HSame (fun x => by have := x.2.2.2.2.2; rw [unhide HB0] at this; have := unhide HLb; omega))
                        go_wp2
                        go_roundw
                        case rel => exact ⟨q + 1, by omega, by go_num, T, rfl, _, _, _, _, HEnd⟩
                        case measure => simp [intOf]; omega
                      · obtain ⟨n0, rfl⟩ := Int.eq_ofNat_of_zero_le (show 0 ≤ b0 by omega)
                        as_aux_lemma =>
                          have HOut : Hid ((held ++ [(a : Int)]).length = q + 1 ∧ ByteArray.mk (outL bs n0).toArray = bytI A' (putK wx a bs k) ss z ∧ RS w1 wr B p A' (putK wx a bs k) hv4 (held ++ [(a : Int)]) (2 * (q + 1))) := hide ⟨by rw [List.length_append, (unhide hK).1]; rfl, by rw [unhide HNx, if_pos ⟨haz.symm, ⟨rfl, by have := unhide HLb; omega, by rw [unhide HB0]; omega, by rw [unhide HB0]; omega, by rw [unhide HB0]; have := unhide HLb; omega⟩⟩, unhide HB0]; rfl, unhide hRk⟩
                          obtain ⟨wq, hwq⟩ : ∃ wq, wq = wr := ⟨_, rfl⟩
                          rw [← hwq] at HOut HFk
                          have HW0 : Hid (UnS wq wr wq.heap.size (.slice none 0 0) [] (.slice none 0 0) 0) := hide (by rw [hwq]; exact ⟨World.ownsRow_nil _ _ _ _, Fr.refl _ _, fun g hg => by simp [Value.ownBlock] at hg⟩)
                          have HCw : Hid (∀ W u, Fr (fun _ => False) wq W → u < lb → W.cell? ⟨bw, offw + u, none⟩ = some (.int .i64 (bs.getD u 0))) := hide fun W u hW hu => by
                            obtain ⟨b2, off2, e2, hb2, hc2⟩ := (unhide HRx).2 u (by have := unhide HLb; omega)
                            simp only [Option.some.injEq, Addr.mk.injEq, and_true] at e2
                            obtain ⟨rfl, rfl⟩ := e2
                            exact (World.cell?_of_block (w := w) (a := ⟨bw, offw + u, none⟩) (((unhide HFk).trans hW).block bw hb2 id)).trans hc2
                          have HC0 : Hid (∀ W, Fr (fun _ => False) wq W → W.cell? ⟨bw, offw, none⟩ = some (.int .i64 (n0 : Int))) := hide fun W hW => by have := unhide HCw W 0 hW (by omega); rw [unhide HB0] at this; exact this
                          clear hwq HSame HNx hRk
                          go_wp2
                          have HD3 := hide d3
                          clear d3
                          go_loopw [18, 19] (fun v i wr => ∃ j : Nat, j ≤ n0 ∧ i = .int .i64 j ∧ ∃ ao1 cp1, v = .slice ao1 j cp1 ∧ Hid (UnS wq wr wq.heap.size (.slice none 0 0) (outL bs j) (.slice ao1 j cp1) j)) (fun _ i _ => n0 - (intOf i).toNat)
                          case atStart => exact ⟨0, Nat.zero_le _, rfl, none, 0, rfl, HW0⟩
                          case round =>
                            clear HW0
                            obtain ⟨j, hj, rfl, ao1, cp1, rfl, hU⟩ := hrel
                            have HFj : Hid (Fr (fun _ => False) wq wr) := hide ((unhide hU).fr.mono fun k e => by simp [Value.ownBlock] at e)
                            have cj0 := unhide HC0 _ (unhide HFj)
                            by_cases hjn : j < n0
                            · have cj1 := unhide HCw wr (1 + j / 8) (unhide HFj) (by have := unhide HD3; omega)
                              have HSu := hide (outL_succ bs j)
                              have HO := hide (unhide hU).own
                              have hsz := (unhide HFj).size
                              generalize bs.getD (1 + j / 8) 0 = vj at *
                              have hlj : 1 + j / 8 < lb := by have := unhide HD3; omega
                              have HPu : Hid (∀ (W : World) (o : Obj) (g cap : Nat), W.ownsRow wq.heap.size 5 1 (.slice (some ⟨g, 0, none⟩) (j + 1) cap) (j + 1) ((outL bs j).map byV ++ [.int .u8 (bits .and .i64 (vj / 2 ^ (8 * (j % 8))) 255 % 256)]) → (wr.alloc o).grownBy W (Value.slice ao1 j cp1).ownBlock → ((Value.slice ao1 j cp1).ownBlock = some g ∨ g = (wr.alloc o).heap.size) → UnS wq W wq.heap.size (.slice none 0 0) (outL bs (j + 1)) (.slice (some ⟨g, 0, none⟩) (j + 1) cap) (j + 1)) := hide fun W o g cap ho hg hat => by
                                rw [out_byte] at ho
                                rw [unhide HSu]
                                exact uns_push (unhide hU) ho hg hat
                              clear hU
                              go_wp2_with (first | (at_builtin; refine wpList_append_lies _ rfl _ _ 38 rfl wq.heap.size 5 i5 (.int .u8 0) 1 1 Tryd.underlying38 hi5 hy0 hy1 hy2 rfl (by decide) (.slice ao1 j cp1) j ((outL bs j).map byV) rfl ((unhide HO).alloc _) ⟨wr.heap.size, 0, none⟩ 1 1 [.int .u8 (bits .and .i64 (vj / 2 ^ (8 * (j % 8))) 255 % 256)] rfl rfl (cell_one_new _ _ _) (ints_oneCell .u8 [_]) (by decide) (by unfold maxLen; omega) (by omega) (by simp; omega) _ rfl ?_; intro g cap2 w5 hown5 hgrow5 hat5 hlt5; have HU5 := hide (unhide HPu _ _ _ _ hown5 hgrow5 hat5); clear hown5 hgrow5 hat5))
                              go_roundw
                              case rel => exact ⟨j + 1, by omega, by go_num, _, _, rfl, HU5⟩
                              case measure => simp [intOf]; omega
                            · have hjn' : ¬ (j : Int) < n0 := by omega
                              have hjn'' : decide ((j : Int) < n0) = false := decide_eq_false hjn'
                              obtain rfl : j = n0 := by omega
                              have hcv := conv_own (unhide hU).own (by unfold outL; exact bytesL_len _ _)
                              have HEnd : Hid ((held ++ [(a : Int)]).length = q + 1 ∧ ByteArray.mk (outL bs j).toArray = bytI A' (putK wx a bs k) ss z ∧ RS w1 wr B p A' (putK wx a bs k) hv4 (held ++ [(a : Int)]) (2 * (q + 1))) := hide ⟨(unhide HOut).1, (unhide HOut).2.1, (unhide HOut).2.2.quiet (unhide HFj)⟩
                              clear hU HOut hjn
                              generalize ByteArray.mk (outL bs j).toArray = tb at *
                              go_wp2
                              go_roundw
                              case rel => exact ⟨q + 1, by omega, by go_num, tb, rfl, _, _, _, _, HEnd⟩
                              case measure => simp [intOf]; omega
                  · have haz' : decide ((a : Int) = z) = false := decide_eq_false haz
                    have HEnd := hide (unhide HSame (fun x => haz x.1.symm))
                    go_wp2
                    go_roundw
                    case rel => exact ⟨q + 1, by omega, by go_num, T, rfl, _, _, _, _, HEnd⟩
                    case measure => simp [intOf]; omega
          · have hq1' : decide (1 ≤ kq) = true := decide_eq_true hq1
            as_aux_lemma =>
              go_wp2_with fail
              refine (unhide HMk kq (by omega) (by omega)).mono ?_
              rintro e w3 ⟨a, A', rfl, g, hR3⟩
              have HG := hide g
              have HI3 := hide hR3.lw.sp.inv
              have hroom : roomN A' a ≠ 0 := room_made (unhide hK).2.2.lw.sp.inv (by omega) g
              have HRm := hide hroom
              have HRt : Hid (Right kq (bs.length : Int) 0) := hide (by unfold Right; have := unhide HLb; omega)
              have HHo := hide (reads_hold hR3 (by have := (unhide hK).1; omega) hroom)
              clear hR3 g hroom
              go_wp2_with fail
              refine (unhide HHo).mono ?_
              rintro e w4 ⟨rfl, hv4, hR4⟩
              have HR4 : Hid (RS w1 w4 B p A' (putK (newW wd a (1 + bs.length) (hdr kq (bs.length : Int) 0)) a bs 0) hv4 (held ++ [(a : Int)]) (2 * q + 2)) := hide (by rw [putK_zero]; exact hR4)
              clear hR4 HHo
              go_wp2_with fail
              obtain ⟨wx, hwx⟩ : ∃ wx, wx = newW wd a (1 + bs.length) (hdr kq (bs.length : Int) 0) := ⟨_, rfl⟩
              rw [← hwx] at HR4
              have HWx := hide hwx
              clear hwx
              go_loopw [99] (fun i wr => ∃ k : Nat, k ≤ lb ∧ i = .int .i64 k ∧ Hid (RS w1 wr B p A' (putK wx a bs k) hv4 (held ++ [(a : Int)]) (2 * q + 2))) (fun i _ => lb - (intOf i).toNat)
              case atStart => exact ⟨0, Nat.zero_le _, rfl, HR4⟩
              case round =>
                clear HR4
                obtain ⟨k, hk, rfl, hRk⟩ := hrel
                have HFk := hide ((unhide HF1).trans (unhide hRk).lw.far)
                by_cases hkb : k < lb
                · obtain ⟨bw, offw, rfl, hbw, hcw⟩ := (unhide HRx).2 k (by have := unhide HLb; omega)
                  have cw : wr.cell? ⟨bw, offw + k, none⟩ = some (.int .i64 (bs.getD k 0)) := (World.cell?_of_block (w := w) (a := ⟨bw, offw + k, none⟩) ((unhide HFk).block bw hbw id)).trans hcw
                  have HSe := hide (reads_set (kd := kq) (unhide hRk) (unhide HRt) (by rw [unhide HWx, newW_self]) (unhide HRm) (by have := unhide HLb; omega) ((unhide HRx).1 _ (getD_mem (by have := unhide HLb; omega))))
                  clear hcw
                  generalize bs.getD k 0 = vk at *
                  go_wp2_with fail
                  refine (unhide HSe).mono ?_
                  rintro e w5 ⟨rfl, hR5⟩
                  have HR5 := hide hR5
                  clear hR5 HSe
                  go_wp2
                  go_roundw
                  case rel => exact ⟨k + 1, by omega, by go_num, HR5⟩
                  case measure => simp [intOf]; omega
                · have hgek : ¬ (k : Int) < lb := by omega
                  have hgek2 : decide ((k : Int) < lb) = false := decide_eq_false hgek
                  have HNx : Hid (bytI A' (putK wx a bs k) ss z = if z = a ∧ Form kq bs then ⟨(outL bs (bs.getD 0 0).toNat).toArray⟩ else T) := hide (by
                    obtain rfl : k = bs.length := by have := unhide HLb; omega
                    rw [unhide HWx, reads_next (unhide hK).2.2 (unhide HRt) (by omega) (unhide HG) (unhide HI3) ss z, (unhide hK).2.1])
                  have HSame : Hid (¬ (z = a ∧ Form kq bs) → (held ++ [(a : Int)]).length = q + 1 ∧ T = bytI A' (putK wx a bs k) ss z ∧ RS w1 wr B p A' (putK wx a bs k) hv4 (held ++ [(a : Int)]) (2 * (q + 1))) := hide fun h => ⟨by rw [List.length_append, (unhide hK).1]; rfl, by rw [unhide HNx, if_neg h], unhide hRk⟩
                  clear hkb
                  by_cases haz : (a : Int) = z
                  · have haz' : decide ((a : Int) = z) = true := decide_eq_true haz
                    by_cases hk1 : kq = 1
                    · subst hk1
                      rcases Nat.eq_zero_or_pos lb with hlb0 | hlb0
                      · have hlb0' : ¬ (0 : Int) < lb := by omega
                        have hlb0'' : decide ((0 : Int) < lb) = false := decide_eq_false hlb0'
                        clear hlb0
                        have HEnd := hide (unhide HSame (fun x => by have := x.2.2.1; have := unhide HLb; omega))
                        go_wp2
                        go_roundw
                        case rel => exact ⟨q + 1, by omega, by go_num, T, rfl, _, _, _, _, HEnd⟩
                        case measure => simp [intOf]; omega
                      · have hlb0' : (0 : Int) < lb := by omega
                        obtain ⟨bw, offw, rfl, hbw, hcw⟩ := (unhide HRx).2 0 (by have := unhide HLb; omega)
                        have cw : wr.cell? ⟨bw, offw + 0, none⟩ = some (.int .i64 (bs.getD 0 0)) := (World.cell?_of_block (w := w) (a := ⟨bw, offw + 0, none⟩) ((unhide HFk).block bw hbw id)).trans hcw
                        rw [Nat.add_zero] at cw
                        have hbr := (unhide HRx).1 _ (getD_mem (l := bs) (j := 0) (by have := unhide HLb; omega))
                        obtain ⟨b0, hb0⟩ : ∃ b0, bs.getD 0 0 = b0 := ⟨_, rfl⟩
                        rw [hb0] at cw hbr
                        have HB0 := hide hb0
                        clear hcw hb0
                        rcases (show b0 < 1 ∨ (1 ≤ b0 ∧ 16384 < b0) ∨ (1 ≤ b0 ∧ b0 ≤ 16384 ∧ ¬ (lb : Int) = 1 + (b0 + 7) / 8) ∨ (1 ≤ b0 ∧ b0 ≤ 16384 ∧ (lb : Int) = 1 + (b0 + 7) / 8) by omega) with d1 | ⟨d1, d2⟩ | ⟨d1, d2, d3⟩ | ⟨d1, d2, d3⟩
                        · have d1' : ¬ 1 ≤ b0 := by omega
                          have d1'' : decide (1 ≤ b0) = false := decide_eq_false d1'
                          have HEnd := hide (unhide HSame (fun x => by have := x.2.2.2.1; rw [unhide HB0] at this; omega))
                          go_wp2
                          go_roundw
                          case rel => exact ⟨q + 1, by omega, by go_num, T, rfl, _, _, _, _, HEnd⟩
                          case measure => simp [intOf]; omega
                        · have d2' : ¬ b0 ≤ 16384 := by omega
                          have d2'' : decide (b0 ≤ 16384) = false := decide_eq_false d2'
                          have HEnd := hide (unhide HSame (fun x => by have := x.2.2.2.2.1; rw [unhide HB0] at this; omega))
                          go_wp2
                          go_roundw
                          case rel => exact ⟨q + 1, by omega, by go_num, T, rfl, _, _, _, _, HEnd⟩
                          case measure => simp [intOf]; omega
                        · have d3' : decide ((lb : Int) = 1 + (b0 + 7) / 8) = false := decide_eq_false d3
                          have HEnd := hide (unhide HSame (fun x => by have := x.2.2.2.2.2; rw [unhide HB0] at this; have := unhide HLb; omega))
                          go_wp2
                          go_roundw
                          case rel => exact ⟨q + 1, by omega, by go_num, T, rfl, _, _, _, _, HEnd⟩
                          case measure => simp [intOf]; omega
                        · obtain ⟨n0, rfl⟩ := Int.eq_ofNat_of_zero_le (show 0 ≤ b0 by omega)
                          as_aux_lemma =>
                            have HOut : Hid ((held ++ [(a : Int)]).length = q + 1 ∧ ByteArray.mk (outL bs n0).toArray = bytI A' (putK wx a bs k) ss z ∧ RS w1 wr B p A' (putK wx a bs k) hv4 (held ++ [(a : Int)]) (2 * (q + 1))) := hide ⟨by rw [List.length_append, (unhide hK).1]; rfl, by rw [unhide HNx, if_pos ⟨haz.symm, ⟨rfl, by have := unhide HLb; omega, by rw [unhide HB0]; omega, by rw [unhide HB0]; omega, by rw [unhide HB0]; have := unhide HLb; omega⟩⟩, unhide HB0]; rfl, unhide hRk⟩
                            obtain ⟨wq, hwq⟩ : ∃ wq, wq = wr := ⟨_, rfl⟩
                            rw [← hwq] at HOut HFk
                            have HW0 : Hid (UnS wq wr wq.heap.size (.slice none 0 0) [] (.slice none 0 0) 0) := hide (by rw [hwq]; exact ⟨World.ownsRow_nil _ _ _ _, Fr.refl _ _, fun g hg => by simp [Value.ownBlock] at hg⟩)
                            have HCw : Hid (∀ W u, Fr (fun _ => False) wq W → u < lb → W.cell? ⟨bw, offw + u, none⟩ = some (.int .i64 (bs.getD u 0))) := hide fun W u hW hu => by
                              obtain ⟨b2, off2, e2, hb2, hc2⟩ := (unhide HRx).2 u (by have := unhide HLb; omega)
                              simp only [Option.some.injEq, Addr.mk.injEq, and_true] at e2
                              obtain ⟨rfl, rfl⟩ := e2
                              exact (World.cell?_of_block (w := w) (a := ⟨bw, offw + u, none⟩) (((unhide HFk).trans hW).block bw hb2 id)).trans hc2
                            have HC0 : Hid (∀ W, Fr (fun _ => False) wq W → W.cell? ⟨bw, offw, none⟩ = some (.int .i64 (n0 : Int))) := hide fun W hW => by have := unhide HCw W 0 hW (by omega); rw [unhide HB0] at this; exact this
                            clear hwq HSame HNx hRk
                            go_wp2
                            have HD3 := hide d3
                            clear d3
                            go_loopw [18, 19] (fun v i wr => ∃ j : Nat, j ≤ n0 ∧ i = .int .i64 j ∧ ∃ ao1 cp1, v = .slice ao1 j cp1 ∧ Hid (UnS wq wr wq.heap.size (.slice none 0 0) (outL bs j) (.slice ao1 j cp1) j)) (fun _ i _ => n0 - (intOf i).toNat)
                            case atStart => exact ⟨0, Nat.zero_le _, rfl, none, 0, rfl, HW0⟩
                            case round =>
                              clear HW0
                              obtain ⟨j, hj, rfl, ao1, cp1, rfl, hU⟩ := hrel
                              have HFj : Hid (Fr (fun _ => False) wq wr) := hide ((unhide hU).fr.mono fun k e => by simp [Value.ownBlock] at e)
                              have cj0 := unhide HC0 _ (unhide HFj)
                              by_cases hjn : j < n0
                              · have cj1 := unhide HCw wr (1 + j / 8) (unhide HFj) (by have := unhide HD3; omega)
                                have HSu := hide (outL_succ bs j)
                                have HO := hide (unhide hU).own
                                have hsz := (unhide HFj).size
                                generalize bs.getD (1 + j / 8) 0 = vj at *
                                have hlj : 1 + j / 8 < lb := by have := unhide HD3; omega
                                have HPu : Hid (∀ (W : World) (o : Obj) (g cap : Nat), W.ownsRow wq.heap.size 5 1 (.slice (some ⟨g, 0, none⟩) (j + 1) cap) (j + 1) ((outL bs j).map byV ++ [.int .u8 (bits .and .i64 (vj / 2 ^ (8 * (j % 8))) 255 % 256)]) → (wr.alloc o).grownBy W (Value.slice ao1 j cp1).ownBlock → ((Value.slice ao1 j cp1).ownBlock = some g ∨ g = (wr.alloc o).heap.size) → UnS wq W wq.heap.size (.slice none 0 0) (outL bs (j + 1)) (.slice (some ⟨g, 0, none⟩) (j + 1) cap) (j + 1)) := hide fun W o g cap ho hg hat => by
                                  rw [out_byte] at ho
                                  rw [unhide HSu]
                                  exact uns_push (unhide hU) ho hg hat
                                clear hU
                                go_wp2_with (first | (at_builtin; refine wpList_append_lies _ rfl _ _ 38 rfl wq.heap.size 5 i5 (.int .u8 0) 1 1 Tryd.underlying38 hi5 hy0 hy1 hy2 rfl (by decide) (.slice ao1 j cp1) j ((outL bs j).map byV) rfl ((unhide HO).alloc _) ⟨wr.heap.size, 0, none⟩ 1 1 [.int .u8 (bits .and .i64 (vj / 2 ^ (8 * (j % 8))) 255 % 256)] rfl rfl (cell_one_new _ _ _) (ints_oneCell .u8 [_]) (by decide) (by unfold maxLen; omega) (by omega) (by simp; omega) _ rfl ?_; intro g cap2 w5 hown5 hgrow5 hat5 hlt5; have HU5 := hide (unhide HPu _ _ _ _ hown5 hgrow5 hat5); clear hown5 hgrow5 hat5))
                                go_roundw
                                case rel => exact ⟨j + 1, by omega, by go_num, _, _, rfl, HU5⟩
                                case measure => simp [intOf]; omega
                              · have hjn' : ¬ (j : Int) < n0 := by omega
                                have hjn'' : decide ((j : Int) < n0) = false := decide_eq_false hjn'
                                obtain rfl : j = n0 := by omega
                                have hcv := conv_own (unhide hU).own (by unfold outL; exact bytesL_len _ _)
                                have HEnd : Hid ((held ++ [(a : Int)]).length = q + 1 ∧ ByteArray.mk (outL bs j).toArray = bytI A' (putK wx a bs k) ss z ∧ RS w1 wr B p A' (putK wx a bs k) hv4 (held ++ [(a : Int)]) (2 * (q + 1))) := hide ⟨(unhide HOut).1, (unhide HOut).2.1, (unhide HOut).2.2.quiet (unhide HFj)⟩
                                clear hU HOut hjn
                                generalize ByteArray.mk (outL bs j).toArray = tb at *
                                go_wp2
                                go_roundw
                                case rel => exact ⟨q + 1, by omega, by go_num, tb, rfl, _, _, _, _, HEnd⟩
                                case measure => simp [intOf]; omega
                    · have hk1' : decide (kq = 1) = false := decide_eq_false hk1
                      have HEnd := hide (unhide HSame (fun x => hk1 x.2.1))
                      go_wp2
                      go_roundw
                      case rel => exact ⟨q + 1, by omega, by go_num, T, rfl, _, _, _, _, HEnd⟩
                      case measure => simp [intOf]; omega
                  · have haz' : decide ((a : Int) = z) = false := decide_eq_false haz
                    have HEnd := hide (unhide HSame (fun x => haz x.1.symm))
                    go_wp2
                    go_roundw
                    case rel => exact ⟨q + 1, by omega, by go_num, T, rfl, _, _, _, _, HEnd⟩
                    case measure => simp [intOf]; omega
        · have hkl' : ¬ (q : Int) < len1 := by omega
          have hkl'' : decide ((q : Int) < len1) = false := decide_eq_false hkl'
          as_aux_lemma =>
            go_wp2_with fail
            refine (unhide HMk 1 (by omega) (by omega)).mono ?_
            rintro e w3 ⟨a, A', rfl, g, hR3⟩
            have HG := hide g
            have HI3 := hide hR3.lw.sp.inv
            have hroom : roomN A' a ≠ 0 := room_made (unhide hK).2.2.lw.sp.inv (by omega) g
            have HRm := hide hroom
            have HRt : Hid (Right 1 (bs.length : Int) 0) := hide (by unfold Right; have := unhide HLb; omega)
            have HHo := hide (reads_hold hR3 (by have := (unhide hK).1; omega) hroom)
            clear hR3 g hroom
            go_wp2_with fail
            refine (unhide HHo).mono ?_
            rintro e w4 ⟨rfl, hv4, hR4⟩
            have HR4 : Hid (RS w1 w4 B p A' (putK (newW wd a (1 + bs.length) (hdr 1 (bs.length : Int) 0)) a bs 0) hv4 (held ++ [(a : Int)]) (2 * q + 2)) := hide (by rw [putK_zero]; exact hR4)
            clear hR4 HHo
            go_wp2_with fail
            obtain ⟨wx, hwx⟩ : ∃ wx, wx = newW wd a (1 + bs.length) (hdr 1 (bs.length : Int) 0) := ⟨_, rfl⟩
            rw [← hwx] at HR4
            have HWx := hide hwx
            clear hwx
            go_loopw [99] (fun i wr => ∃ k : Nat, k ≤ lb ∧ i = .int .i64 k ∧ Hid (RS w1 wr B p A' (putK wx a bs k) hv4 (held ++ [(a : Int)]) (2 * q + 2))) (fun i _ => lb - (intOf i).toNat)
            case atStart => exact ⟨0, Nat.zero_le _, rfl, HR4⟩
            case round =>
              clear HR4
              obtain ⟨k, hk, rfl, hRk⟩ := hrel
              have HFk := hide ((unhide HF1).trans (unhide hRk).lw.far)
              by_cases hkb : k < lb
              · obtain ⟨bw, offw, rfl, hbw, hcw⟩ := (unhide HRx).2 k (by have := unhide HLb; omega)
                have cw : wr.cell? ⟨bw, offw + k, none⟩ = some (.int .i64 (bs.getD k 0)) := (World.cell?_of_block (w := w) (a := ⟨bw, offw + k, none⟩) ((unhide HFk).block bw hbw id)).trans hcw
                have HSe := hide (reads_set (kd := 1) (unhide hRk) (unhide HRt) (by rw [unhide HWx, newW_self]) (unhide HRm) (by have := unhide HLb; omega) ((unhide HRx).1 _ (getD_mem (by have := unhide HLb; omega))))
                clear hcw
                generalize bs.getD k 0 = vk at *
                go_wp2_with fail
                refine (unhide HSe).mono ?_
                rintro e w5 ⟨rfl, hR5⟩
                have HR5 := hide hR5
                clear hR5 HSe
                go_wp2
                go_roundw
                case rel => exact ⟨k + 1, by omega, by go_num, HR5⟩
                case measure => simp [intOf]; omega
              · have hgek : ¬ (k : Int) < lb := by omega
                have hgek2 : decide ((k : Int) < lb) = false := decide_eq_false hgek
                have HNx : Hid (bytI A' (putK wx a bs k) ss z = if z = a ∧ Form 1 bs then ⟨(outL bs (bs.getD 0 0).toNat).toArray⟩ else T) := hide (by
                  obtain rfl : k = bs.length := by have := unhide HLb; omega
                  rw [unhide HWx, reads_next (unhide hK).2.2 (unhide HRt) (by omega) (unhide HG) (unhide HI3) ss z, (unhide hK).2.1])
                have HSame : Hid (¬ (z = a ∧ Form 1 bs) → (held ++ [(a : Int)]).length = q + 1 ∧ T = bytI A' (putK wx a bs k) ss z ∧ RS w1 wr B p A' (putK wx a bs k) hv4 (held ++ [(a : Int)]) (2 * (q + 1))) := hide fun h => ⟨by rw [List.length_append, (unhide hK).1]; rfl, by rw [unhide HNx, if_neg h], unhide hRk⟩
                clear hkb
                by_cases haz : (a : Int) = z
                · have haz' : decide ((a : Int) = z) = true := decide_eq_true haz
                  rcases Nat.eq_zero_or_pos lb with hlb0 | hlb0
                  · have hlb0' : ¬ (0 : Int) < lb := by omega
                    have hlb0'' : decide ((0 : Int) < lb) = false := decide_eq_false hlb0'
                    clear hlb0
                    have HEnd := hide (unhide HSame (fun x => by have := x.2.2.1; have := unhide HLb; omega))
                    go_wp2
                    go_roundw
                    case rel => exact ⟨q + 1, by omega, by go_num, T, rfl, _, _, _, _, HEnd⟩
                    case measure => simp [intOf]; omega
                  · have hlb0' : (0 : Int) < lb := by omega
                    obtain ⟨bw, offw, rfl, hbw, hcw⟩ := (unhide HRx).2 0 (by have := unhide HLb; omega)
                    have cw : wr.cell? ⟨bw, offw + 0, none⟩ = some (.int .i64 (bs.getD 0 0)) := (World.cell?_of_block (w := w) (a := ⟨bw, offw + 0, none⟩) ((unhide HFk).block bw hbw id)).trans hcw
                    rw [Nat.add_zero] at cw
                    have hbr := (unhide HRx).1 _ (getD_mem (l := bs) (j := 0) (by have := unhide HLb; omega))
                    obtain ⟨b0, hb0⟩ : ∃ b0, bs.getD 0 0 = b0 := ⟨_, rfl⟩
                    rw [hb0] at cw hbr
                    have HB0 := hide hb0
                    clear hcw hb0
                    rcases (show b0 < 1 ∨ (1 ≤ b0 ∧ 16384 < b0) ∨ (1 ≤ b0 ∧ b0 ≤ 16384 ∧ ¬ (lb : Int) = 1 + (b0 + 7) / 8) ∨ (1 ≤ b0 ∧ b0 ≤ 16384 ∧ (lb : Int) = 1 + (b0 + 7) / 8) by omega) with d1 | ⟨d1, d2⟩ | ⟨d1, d2, d3⟩ | ⟨d1, d2, d3⟩
                    · have d1' : ¬ 1 ≤ b0 := by omega
                      have d1'' : decide (1 ≤ b0) = false := decide_eq_false d1'
                      have HEnd := hide (unhide HSame (fun x => by have := x.2.2.2.1; rw [unhide HB0] at this; omega))
                      go_wp2
                      go_roundw
                      case rel => exact ⟨q + 1, by omega, by go_num, T, rfl, _, _, _, _, HEnd⟩
                      case measure => simp [intOf]; omega
                    · have d2' : ¬ b0 ≤ 16384 := by omega
                      have d2'' : decide (b0 ≤ 16384) = false := decide_eq_false d2'
                      have HEnd := hide (unhide HSame (fun x => by have := x.2.2.2.2.1; rw [unhide HB0] at this; omega))
                      go_wp2
                      go_roundw
                      case rel => exact ⟨q + 1, by omega, by go_num, T, rfl, _, _, _, _, HEnd⟩
                      case measure => simp [intOf]; omega
                    · have d3' : decide ((lb : Int) = 1 + (b0 + 7) / 8) = false := decide_eq_false d3
                      have HEnd := hide (unhide HSame (fun x => by have := x.2.2.2.2.2; rw [unhide HB0] at this; have := unhide HLb; omega))
                      go_wp2
                      go_roundw
                      case rel => exact ⟨q + 1, by omega, by go_num, T, rfl, _, _, _, _, HEnd⟩
                      case measure => simp [intOf]; omega
                    · obtain ⟨n0, rfl⟩ := Int.eq_ofNat_of_zero_le (show 0 ≤ b0 by omega)
                      as_aux_lemma =>
                        have HOut : Hid ((held ++ [(a : Int)]).length = q + 1 ∧ ByteArray.mk (outL bs n0).toArray = bytI A' (putK wx a bs k) ss z ∧ RS w1 wr B p A' (putK wx a bs k) hv4 (held ++ [(a : Int)]) (2 * (q + 1))) := hide ⟨by rw [List.length_append, (unhide hK).1]; rfl, by rw [unhide HNx, if_pos ⟨haz.symm, ⟨rfl, by have := unhide HLb; omega, by rw [unhide HB0]; omega, by rw [unhide HB0]; omega, by rw [unhide HB0]; have := unhide HLb; omega⟩⟩, unhide HB0]; rfl, unhide hRk⟩
                        obtain ⟨wq, hwq⟩ : ∃ wq, wq = wr := ⟨_, rfl⟩
                        rw [← hwq] at HOut HFk
                        have HW0 : Hid (UnS wq wr wq.heap.size (.slice none 0 0) [] (.slice none 0 0) 0) := hide (by rw [hwq]; exact ⟨World.ownsRow_nil _ _ _ _, Fr.refl _ _, fun g hg => by simp [Value.ownBlock] at hg⟩)
                        have HCw : Hid (∀ W u, Fr (fun _ => False) wq W → u < lb → W.cell? ⟨bw, offw + u, none⟩ = some (.int .i64 (bs.getD u 0))) := hide fun W u hW hu => by
                          obtain ⟨b2, off2, e2, hb2, hc2⟩ := (unhide HRx).2 u (by have := unhide HLb; omega)
                          simp only [Option.some.injEq, Addr.mk.injEq, and_true] at e2
                          obtain ⟨rfl, rfl⟩ := e2
                          exact (World.cell?_of_block (w := w) (a := ⟨bw, offw + u, none⟩) (((unhide HFk).trans hW).block bw hb2 id)).trans hc2
                        have HC0 : Hid (∀ W, Fr (fun _ => False) wq W → W.cell? ⟨bw, offw, none⟩ = some (.int .i64 (n0 : Int))) := hide fun W hW => by have := unhide HCw W 0 hW (by omega); rw [unhide HB0] at this; exact this
                        clear hwq HSame HNx hRk
                        go_wp2
                        have HD3 := hide d3
                        clear d3
                        go_loopw [18, 19] (fun v i wr => ∃ j : Nat, j ≤ n0 ∧ i = .int .i64 j ∧ ∃ ao1 cp1, v = .slice ao1 j cp1 ∧ Hid (UnS wq wr wq.heap.size (.slice none 0 0) (outL bs j) (.slice ao1 j cp1) j)) (fun _ i _ => n0 - (intOf i).toNat)
                        case atStart => exact ⟨0, Nat.zero_le _, rfl, none, 0, rfl, HW0⟩
                        case round =>
                          clear HW0
                          obtain ⟨j, hj, rfl, ao1, cp1, rfl, hU⟩ := hrel
                          have HFj : Hid (Fr (fun _ => False) wq wr) := hide ((unhide hU).fr.mono fun k e => by simp [Value.ownBlock] at e)
                          have cj0 := unhide HC0 _ (unhide HFj)
                          by_cases hjn : j < n0
                          · have cj1 := unhide HCw wr (1 + j / 8) (unhide HFj) (by have := unhide HD3; omega)
                            have HSu := hide (outL_succ bs j)
                            have HO := hide (unhide hU).own
                            have hsz := (unhide HFj).size
                            generalize bs.getD (1 + j / 8) 0 = vj at *
                            have hlj : 1 + j / 8 < lb := by have := unhide HD3; omega
                            have HPu : Hid (∀ (W : World) (o : Obj) (g cap : Nat), W.ownsRow wq.heap.size 5 1 (.slice (some ⟨g, 0, none⟩) (j + 1) cap) (j + 1) ((outL bs j).map byV ++ [.int .u8 (bits .and .i64 (vj / 2 ^ (8 * (j % 8))) 255 % 256)]) → (wr.alloc o).grownBy W (Value.slice ao1 j cp1).ownBlock → ((Value.slice ao1 j cp1).ownBlock = some g ∨ g = (wr.alloc o).heap.size) → UnS wq W wq.heap.size (.slice none 0 0) (outL bs (j + 1)) (.slice (some ⟨g, 0, none⟩) (j + 1) cap) (j + 1)) := hide fun W o g cap ho hg hat => by
                              rw [out_byte] at ho
                              rw [unhide HSu]
                              exact uns_push (unhide hU) ho hg hat
                            clear hU
                            go_wp2_with (first | (at_builtin; refine wpList_append_lies _ rfl _ _ 38 rfl wq.heap.size 5 i5 (.int .u8 0) 1 1 Tryd.underlying38 hi5 hy0 hy1 hy2 rfl (by decide) (.slice ao1 j cp1) j ((outL bs j).map byV) rfl ((unhide HO).alloc _) ⟨wr.heap.size, 0, none⟩ 1 1 [.int .u8 (bits .and .i64 (vj / 2 ^ (8 * (j % 8))) 255 % 256)] rfl rfl (cell_one_new _ _ _) (ints_oneCell .u8 [_]) (by decide) (by unfold maxLen; omega) (by omega) (by simp; omega) _ rfl ?_; intro g cap2 w5 hown5 hgrow5 hat5 hlt5; have HU5 := hide (unhide HPu _ _ _ _ hown5 hgrow5 hat5); clear hown5 hgrow5 hat5))
                            go_roundw
                            case rel => exact ⟨j + 1, by omega, by go_num, _, _, rfl, HU5⟩
                            case measure => simp [intOf]; omega
                          · have hjn' : ¬ (j : Int) < n0 := by omega
                            have hjn'' : decide ((j : Int) < n0) = false := decide_eq_false hjn'
                            obtain rfl : j = n0 := by omega
                            have hcv := conv_own (unhide hU).own (by unfold outL; exact bytesL_len _ _)
                            have HEnd : Hid ((held ++ [(a : Int)]).length = q + 1 ∧ ByteArray.mk (outL bs j).toArray = bytI A' (putK wx a bs k) ss z ∧ RS w1 wr B p A' (putK wx a bs k) hv4 (held ++ [(a : Int)]) (2 * (q + 1))) := hide ⟨(unhide HOut).1, (unhide HOut).2.1, (unhide HOut).2.2.quiet (unhide HFj)⟩
                            clear hU HOut hjn
                            generalize ByteArray.mk (outL bs j).toArray = tb at *
                            go_wp2
                            go_roundw
                            case rel => exact ⟨q + 1, by omega, by go_num, tb, rfl, _, _, _, _, HEnd⟩
                            case measure => simp [intOf]; omega
                · have haz' : decide ((a : Int) = z) = false := decide_eq_false haz
                  have HEnd := hide (unhide HSame (fun x => haz x.1.symm))
                  go_wp2
                  go_roundw
                  case rel => exact ⟨q + 1, by omega, by go_num, T, rfl, _, _, _, _, HEnd⟩
                  case measure => simp [intOf]; omega
    · have hge : ¬ (q : Int) < len0 := by omega
      have hge2 : decide ((q : Int) < len0) = false := decide_eq_false hge
      have HBy : Hid (∀ W ao cp, Fr (fun _ => False) wr W → StrsAt W ao len2 ss → Calls Tryd.prog 12 #[.pointer (some ⟨p, 0, none⟩), .slice ao len2 cp, .int .i64 z] W fun e w' => e = .returned (.string T) ∧ Below w.heap.size w w') := hide fun W ao cp hF hSt => by
        have hR := (unhide hK).2.2.quiet hF
        have := Bytes_any hR.lw.sp ao len2 cp ss z (by unfold maxLen; omega) hSt hz (hR.rng.get z 0)
        rw [← (unhide hK).2.1] at this
        exact this.mono fun _ _ h => ⟨h.1, unhide HB _ (((unhide HF1).trans hR.lw.far).trans h.2)⟩
      have HSr : Hid (StrsAt wr a2 len2 ss) := hide ((unhide HSt).fr (unhide HFr) fun _ _ x => x)
      clear hK
      rcases Nat.eq_zero_or_pos len2 with hl2 | hl2
      · subst hl2
        have HNl : Hid (StrsAt (wr.alloc (Obj.cells #[] 9)) (some ⟨wr.heap.size, 0, none⟩) 0 ss) := hide ⟨(unhide HSr).1, fun j hj => absurd hj (by omega)⟩
        go_wp2_with (first | (at_builtin; refine wpList_app_zero rfl _ _ rfl ⟨wr.heap.size, 0, none⟩ _ _ rfl rfl ?_))
        refine (unhide HBy _ _ _ ((Fr.refl _ wr).alloc _) (unhide HNl)).mono ?_
        rintro e wz ⟨rfl, hBz⟩
        have HBz := hide hBz
        clear hBz
        go_wp2
        go_ret
        exact ⟨rfl, unhide HBz⟩
      · obtain ⟨b2, off2, rfl, hb2, _⟩ := (unhide HSr).2 0 hl2
        obtain ⟨i9, hi9, hx0, hx1, hx2⟩ := info_parts Tryd.info9
        have HSl : Hid ((ss.map Value.string).length = len2 * 1) := hide (by have := (unhide HSr).1; simpa using this)
        have HCl := hide (strs_cells ((unhide HSr).fr ((Fr.refl (fun _ => False) wr).alloc (Obj.cells #[] 9)) (fun _ _ x => x)))
        have HMd : Hid ((wr.alloc (Obj.cells #[] 9)).ownsRow wr.heap.size 9 1 (.slice (some ⟨wr.heap.size, 0, none⟩) 0 0) 0 []) := hide (World.ownsRow_made wr #[] 0 (Nat.le_refl _) (Nat.zero_le _) rfl)
        have HNx : Hid (∀ (W : World) (g cap : Nat), W.ownsRow wr.heap.size 9 1 (.slice (some ⟨g, 0, none⟩) (0 + len2) cap) (0 + len2) ([] ++ ss.map Value.string) → (wr.alloc (Obj.cells #[] 9)).grownBy W (Value.slice (some ⟨wr.heap.size, 0, none⟩) 0 0).ownBlock → StrsAt W (some ⟨g, 0, none⟩) len2 ss ∧ Fr (fun _ => False) wr W) := hide fun W g cap ho hg => by
          rw [Nat.zero_add, List.nil_append] at ho
          exact ⟨strs_own ho, ((Fr.refl _ wr).alloc _).up (Fr.grown hg) fun j hj => by simp [Value.ownBlock] at hj; omega⟩
        go_wp2_with (first | (at_builtin; refine wpList_append_lies _ rfl _ _ 22 rfl wr.heap.size 9 i9 (.string ⟨#[]⟩) 1 16 Tryd.underlying22 hi9 hx0 hx1 hx2 rfl (by decide) (.slice (some ⟨wr.heap.size, 0, none⟩) 0 0) 0 [] rfl (unhide HMd) ⟨b2, off2, none⟩ len2 cap2 (ss.map Value.string) rfl (unhide HSl) (unhide HCl) (strs_one ss) hl2 (by unfold maxLen; omega) (by omega) (by simp) _ rfl ?_; intro g9 cap9 w9 hown9 hgrow9 hat9 hlt9; have HN9 := hide (unhide HNx _ _ _ hown9 hgrow9); clear hown9 hgrow9 hat9))
        refine (unhide HBy _ _ _ (unhide HN9).2 (unhide HN9).1).mono ?_
        rintro e wz ⟨rfl, hBz⟩
        have HBz := hide hBz
        clear hBz
        go_wp2
        go_ret
        exact ⟨rfl, unhide HBz⟩
end Go.Proofs.YthfccidjckbcbaaDoor
