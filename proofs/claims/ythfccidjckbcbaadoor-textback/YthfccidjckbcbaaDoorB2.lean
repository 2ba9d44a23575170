/- TextBack, walked. -/
import Derived.Test.YthfccidjckbcbaaDoorB1
namespace Go.Proofs.YthfccidjckbcbaaDoor
open Go.RowKit Go.Proofs.YthfccidjckbcbaaDoor.Hp
theorem getD_toL (s : ByteArray) (j : Nat) (h : j < s.size) : s.toList.getD j 0 = s[j] := by
  have h1 : j < s.toList.length := by rw [toL_len]; exact h
  rw [List.getD_eq_getElem?_getD, List.getElem?_eq_getElem h1]
  simp [ByteArray.toList_eq]
  rfl
set_option maxRecDepth 100000 in
set_option maxHeartbeats 8000000 in
theorem back_any (ao : Option Addr) (len cap : Nat) (ss : List ByteArray) (w : World) (hV : Vars w) (hm : len ≤ maxLen) (hS : StrsAt w ao len ss) (hz : ∀ s ∈ ss, s.size ≤ maxLen) :
    Calls Tryd.prog 3 #[.slice ao len cap] w fun e w' => e = .returned (.bool true) ∧ Below w.heap.size w w' := by
  have HA := hide (anchor_any w hV)
  have HSt := hide hS
  have HZ := hide hz
  unfold maxLen at hm
  have HB : Hid (∀ W, Fr (fun _ => False) w W → Below w.heap.size w W) := hide fun W k => k.below (Nat.le_refl _) (fun _ x => x.elim)
  have hsz := hV.size
  clear hV hS hz
  by_cases hbig : 50 < len
  · have hb' : (50 : Int) < len := by omega
    go_enter Tryd.func3, Tryd.ntmps3
    go_wp2_with fail
    refine (unhide HA).mono ?_
    rintro e w1 ⟨rfl, hF1, _⟩
    have HF1 := hide hF1
    clear hF1
    go_wp2
    go_ret
    exact ⟨rfl, unhide HB _ (unhide HF1)⟩
  · have hb' : ¬ (50 : Int) < len := by omega
    have hb'' : decide ((50 : Int) < len) = false := decide_eq_false hb'
    have hl50 : len ≤ 50 := by omega
    clear hbig
    go_enter Tryd.func3, Tryd.ntmps3
    go_wp2_with fail
    refine (unhide HA).mono ?_
    rintro e w1 ⟨rfl, hF1, hV1⟩
    have HF1 := hide hF1
    have HN := hide (SNew_any 65536 w1 (by omega) (by omega) hV1)
    have HZ1 := hide hV1.size
    clear hF1 hV1
    go_wp2_with fail
    refine (unhide HN).mono ?_
    rintro e w2 ⟨B, p, rfl, hL⟩
    have HM0 : Hid (BkM w1 w2 B p (emptyA 1024) (fun _ => 0) (.slice none 0 0) (.slice none 0 0) [] ss) := hide ⟨hL, World.ownsRow_nil _ _ _ _, fun g hg => by simp [Value.ownBlock] at hg, Suf.start _, fun i hi => absurd hi (by simp), unhide HZ1⟩
    clear hL
    go_wp2_with fail
    obtain ⟨i0, hi, hz0, hz1, hz2⟩ := info_parts Tryd.info3
    go_loopw [4, 26] (fun v i wr => ∃ k : Nat, k ≤ len ∧ i = .int .i64 k ∧ ∃ ao1 cp1, v = .slice ao1 k cp1 ∧ ∃ A wd hv L, Hid (L.length = k ∧ BkM w1 wr B p A wd hv (.slice ao1 k cp1) L ss)) (fun _ i _ => len - (intOf i).toNat)
    case atStart => exact ⟨0, Nat.zero_le _, rfl, none, 0, rfl, _, _, _, [], hide ⟨rfl, unhide HM0⟩⟩
    case round =>
      obtain ⟨k, hk, rfl, ao1, cp1, rfl, A, wd, hv, L, hK⟩ := hrel
      by_cases hlt : k < len
      · obtain ⟨b, off, rfl, hbl, hcl⟩ := (unhide HSt).2 k hlt
        have HFr := hide (((unhide HF1).trans (unhide hK).2.lw.far))
        have c1 : wr.cell? ⟨b, off + k, none⟩ = some (.string (ss.getD k ByteArray.empty)) := (World.cell?_of_block (w := w) (a := ⟨b, off + k, none⟩) ((unhide HFr).block b hbl id)).trans hcl
        have hts : (ss.getD k ByteArray.empty).size ≤ maxLen := unhide HZ _ (by
          have := (unhide HSt).1
          rw [List.getD_eq_getElem?_getD, List.getElem?_eq_getElem (by omega)]
          exact List.getElem_mem _)
        unfold maxLen at hts
        obtain ⟨t, ht⟩ : ∃ t, ss.getD k ByteArray.empty = t := ⟨_, rfl⟩
        rw [ht] at c1 hts hcl
        have HTt := hide ht
        clear ht hcl
        by_cases h1000 : 1000 < t.size
        · have h1000' : (1000 : Int) < t.size := by omega
          have HEnd := hide (unhide HB _ (unhide HFr))
          go_wp2
          go_ret
          exact ⟨rfl, unhide HEnd⟩
        · have h1000' : ¬ (1000 : Int) < t.size := by omega
          have h1000'' : decide ((1000 : Int) < t.size) = false := decide_eq_false h1000'
          have HNew := hide (bk_new (unhide hK).2 (by have := (unhide hK).1; omega) t (by omega))
          have HLk := hide (unhide hK).1
          clear hK
          have hL50 : L.length < 50 := by have := unhide HLk; omega
          by_cases h0 : t.size = 0
          · have he : t.toList.isEmpty = true := by
              cases hb : t.toList with
              | nil => rfl
              | cons a l => rw [← toL_len, hb] at h0; simp at h0
            go_wp2_with fail
            refine (unhide HNew).mono ?_
            rintro e w3 ⟨z, A', wd', rfl, hN3⟩
            obtain rfl : z = 0 := (hN3.new.rng hN3.lw.sp.inv (by decide)).2.2.2.2 h0
            have HHd := hide (bk_hold hN3 hL50)
            clear hN3
            go_wp2_with fail
            refine (unhide HHd).mono ?_
            rintro e w4 ⟨rfl, hv2, hN4⟩
            have HN4 := hide hN4
            have HO := hide hN4.rva
            rw [unhide HLk] at HO
            have HPu : Hid (∀ (W : World) (o : Obj) (g cap : Nat), W.ownsRow w1.heap.size 3 1 (.slice (some ⟨g, 0, none⟩) (k + 1) cap) (k + 1) (L.map (Value.int .i64) ++ [.int .i64 0]) → (w4.alloc o).grownBy W (Value.slice ao1 k cp1).ownBlock → ((Value.slice ao1 k cp1).ownBlock = some g ∨ g = (w4.alloc o).heap.size) → (L ++ [0]).length = k + 1 ∧ BkM w1 W B p A' wd' hv2 (.slice (some ⟨g, 0, none⟩) (k + 1) cap) (L ++ [0]) ss) := hide fun W o g cap ho hg hat => by
              have hlk := unhide HLk
              have h4 := unhide HN4
              rw [← unhide HTt, ← hlk] at h4
              rw [← hlk] at ho hg hat ⊢
              exact ⟨by simp, bk_push h4 hg ho hat⟩
            have hw1 : w1.heap.size ≤ w4.heap.size := hN4.lw.far.size
            clear hN4
            go_wp2_with (first | (at_builtin; refine wpList_append_lies _ rfl _ _ 26 rfl w1.heap.size 3 i0 (.int .i64 0) 1 8 Tryd.underlying26 hi hz0 hz1 hz2 rfl (by decide) (.slice ao1 k cp1) k (L.map (Value.int .i64)) rfl ((unhide HO).alloc _) ⟨w4.heap.size, 0, none⟩ 1 1 [.int .i64 0] rfl rfl (cell_one_new _ _ _) (ints_oneCell .i64 [_]) (by decide) (by unfold maxLen; omega) (by omega) (by simp; omega) _ rfl ?_; intro g cap2 w5 hown5 hgrow5 hat5 hlt5; have HU5 := hide (unhide HPu _ _ _ _ hown5 hgrow5 hat5); clear hown5 hgrow5 hat5))
            go_roundw
            case rel => exact ⟨k + 1, by omega, by go_num, _, _, rfl, _, _, _, _, HU5⟩
            case measure => simp [intOf]; omega
          · have he : t.toList.isEmpty = false := by
              cases hb : t.toList with
              | nil => exact absurd (by rw [← toL_len, hb]; rfl) h0
              | cons a l => rfl
            go_wp2_with fail
            refine (unhide HNew).mono ?_
            rintro e w3 ⟨z, A', wd', rfl, hN3⟩
            obtain ⟨hz1', hz2', hz3', hz4'⟩ := hN3.new.rng hN3.lw.sp.inv (by decide)
            have hzn : z ≠ 0 := fun e => h0 (hz4'.1 e)
            have hzt : z.tmod 2 = 0 := Int.tmod_eq_zero_of_dvd (Int.dvd_of_emod_eq_zero hz3')
            have hzb : (z == 0) = false := by simpa using hzn
            have HHd := hide (bk_hold hN3 hL50)
            clear hN3 hz4'
            go_wp2_with fail
            refine (unhide HHd).mono ?_
            rintro e w4 ⟨rfl, hv2, hN4⟩
            have HN4 := hide hN4
            have HO := hide hN4.rva
            rw [unhide HLk] at HO
            have HPu : Hid (∀ (W : World) (o : Obj) (g cap : Nat), W.ownsRow w1.heap.size 3 1 (.slice (some ⟨g, 0, none⟩) (k + 1) cap) (k + 1) (L.map (Value.int .i64) ++ [.int .i64 z]) → (w4.alloc o).grownBy W (Value.slice ao1 k cp1).ownBlock → ((Value.slice ao1 k cp1).ownBlock = some g ∨ g = (w4.alloc o).heap.size) → (L ++ [z]).length = k + 1 ∧ BkM w1 W B p A' wd' hv2 (.slice (some ⟨g, 0, none⟩) (k + 1) cap) (L ++ [z]) ss) := hide fun W o g cap ho hg hat => by
              have hlk := unhide HLk
              have h4 := unhide HN4
              rw [← unhide HTt, ← hlk] at h4
              rw [← hlk] at ho hg hat ⊢
              exact ⟨by simp, bk_push h4 hg ho hat⟩
            have hw1 : w1.heap.size ≤ w4.heap.size := hN4.lw.far.size
            clear hN4
            go_wp2_with (first | (at_builtin; refine wpList_append_lies _ rfl _ _ 26 rfl w1.heap.size 3 i0 (.int .i64 0) 1 8 Tryd.underlying26 hi hz0 hz1 hz2 rfl (by decide) (.slice ao1 k cp1) k (L.map (Value.int .i64)) rfl ((unhide HO).alloc _) ⟨w4.heap.size, 0, none⟩ 1 1 [.int .i64 z] rfl rfl (cell_one_new _ _ _) (ints_oneCell .i64 [_]) (by decide) (by unfold maxLen; omega) (by omega) (by simp; omega) _ rfl ?_; intro g cap2 w5 hown5 hgrow5 hat5 hlt5; have HU5 := hide (unhide HPu _ _ _ _ hown5 hgrow5 hat5); clear hown5 hgrow5 hat5))
            go_roundw
            case rel => exact ⟨k + 1, by omega, by go_num, _, _, rfl, _, _, _, _, HU5⟩
            case measure => simp [intOf]; omega
      · have hge : ¬ (k : Int) < len := by omega
        have hge2 : decide ((k : Int) < len) = false := decide_eq_false hge
        obtain rfl : k = len := by omega
        have HK := hide (unhide hK).2
        have HLk := hide (unhide hK).1
        clear hK hlt HM0
        go_wp2
        obtain ⟨wm, hwm⟩ : ∃ wm, wm = wr := ⟨_, rfl⟩
        rw [← hwm] at HK
        have HW0 : Hid (Fr (fun _ => False) wm wr) := hide (by rw [hwm]; exact Fr.refl _ _)
        clear hwm
        go_loopw [63] (fun i wr => ∃ q : Nat, q ≤ k ∧ i = .int .i64 q ∧ Hid (Fr (fun _ => False) wm wr)) (fun i _ => k - (intOf i).toNat)
        case atStart => exact ⟨0, Nat.zero_le _, rfl, HW0⟩
        case round =>
          clear HW0
          obtain ⟨q, hq, rfl, hFq⟩ := hrel
          have HFr := hide ((((unhide HF1).trans (unhide HK).lw.far)).trans (unhide hFq))
          by_cases hlt : q < k
          · obtain ⟨b, off, rfl, hbl, hcl⟩ := (unhide HSt).2 q hlt
            have c1 : wr.cell? ⟨b, off + q, none⟩ = some (.string (ss.getD q ByteArray.empty)) := (World.cell?_of_block (w := w) (a := ⟨b, off + q, none⟩) ((unhide HFr).block b hbl id)).trans hcl
            have hrv := (unhide HK).rva
            rw [unhide HLk] at hrv
            obtain ⟨bw, rfl, _, hbw, hcw⟩ := own_cells hrv q hlt
            have HCw : Hid (∀ W, Fr (fun _ => False) wm W → W.cell? ⟨bw, q, none⟩ = some (.int .i64 (L.getD q 0))) := hide fun W hW => (World.cell?_of_block (w := wm) (a := ⟨bw, q, none⟩) (hW.block bw hbw id)).trans hcw
            have c2 := unhide HCw _ (unhide hFq)
            have hE := (unhide HK).each q (by have := unhide HLk; omega)
            obtain ⟨t, ht⟩ : ∃ t, ss.getD q ByteArray.empty = t := ⟨_, rfl⟩
            have hts : t.size ≤ maxLen := unhide HZ _ (by
              have := (unhide HSt).1
              rw [← ht, List.getD_eq_getElem?_getD, List.getElem?_eq_getElem (by omega)]
              exact List.getElem_mem _)
            unfold maxLen at hts
            rw [ht] at c1 hE
            clear hcl hcw hrv ht
            generalize L.getD q 0 = z at *
            have hzr := hE.rng (unhide HK).lw.sp.inv (by decide)
            have HBy : Hid (Calls Tryd.prog 12 #[.pointer (some ⟨p, 0, none⟩), .slice none 0 0, .int .i64 z] wr fun e w' => e = .returned (.string t) ∧ Fr (fun _ => False) wm w') := hide (by
              have := Bytes_any ((unhide HK).quiet (unhide hFq)).lw.sp none 0 0 [] z (Nat.zero_le _) (StrsAt.nil _) (by omega) (hE.get0 (unhide HK).lw.sp.inv)
              rw [hE.back (unhide HK).lw.sp.inv] at this
              exact this.mono fun _ _ h => ⟨h.1, (unhide hFq).trans h.2⟩)
            by_cases h0 : t.size = 0
            · have he : t.toList.isEmpty = true := by
                cases hb : t.toList with
                | nil => rfl
                | cons a l => rw [← toL_len, hb] at h0; simp at h0
              clear hE hzr
              go_wp2_with fail
              refine (unhide HBy).mono ?_
              rintro e w3 ⟨rfl, hF3⟩
              have HF3 := hide hF3
              clear hF3
              go_wp2
              go_roundw
              case rel => exact ⟨q + 1, by omega, by go_num, HF3⟩
              case measure => simp [intOf]; omega
            · have he : t.toList.isEmpty = false := by
                cases hb : t.toList with
                | nil => exact absurd (by rw [← toL_len, hb]; rfl) h0
                | cons a l => rfl
              obtain ⟨a, rfl, hA⟩ : ∃ a : Nat, z = a ∧ StrAt A wd a t := by
                rcases hE with ⟨_, h⟩ | h
                · exact absurd h h0
                · exact h
              have hle := hA.le
              have HHd : Hid (∀ W, Fr (fun _ => False) wm W → Calls Tryd.prog 13 #[.pointer (some ⟨p, 0, none⟩), .int .i64 a] W fun e w' => e = .returned (.tuple #[.int .i64 1, .int .i64 (1 + ((t.size : Int) + 7) / 8), .int .i64 0]) ∧ Fr (fun _ => False) wm w') := hide fun W hW => by
                have := Head_any ((unhide HK).quiet hW).lw.sp a
                rw [hA.kin, hA.siz, hA.msk, show ((1 + wsz t : Nat) : Int) = 1 + ((t.size : Int) + 7) / 8 by unfold wsz; omega] at this
                exact this.mono fun _ _ h => ⟨h.1, hW.trans h.2⟩
              have HG0 : Hid (∀ W, Fr (fun _ => False) wm W → Calls Tryd.prog 14 #[.pointer (some ⟨p, 0, none⟩), .int .i64 a, .int .i64 0] W fun e w' => e = .returned (.int .i64 t.size) ∧ Fr (fun _ => False) wm w') := hide fun W hW => by
                have := Get_any ((unhide HK).quiet hW).lw.sp a 0
                rw [hA.get0] at this
                exact this.mono fun _ _ h => ⟨h.1, hW.trans h.2⟩
              have HGj : Hid (∀ W (j : Nat) (x : Int), Fr (fun _ => False) wm W → j < 8 * wsz t → x = 1 + (j : Int) / 8 → Calls Tryd.prog 14 #[.pointer (some ⟨p, 0, none⟩), .int .i64 a, .int .i64 x] W fun e w' => ∃ G, e = .returned (.int .i64 G) ∧ bits .and .i64 (G / 2 ^ (8 * (j % 8))) 255 = ((t.toList.getD j 0).toNat : Int) ∧ Fr (fun _ => False) wm w') := hide fun W j x hW hj hx => by
                refine (Get_any ((unhide HK).quiet hW).lw.sp a x).mono ?_
                rintro e w' ⟨rfl, hF⟩
                refine ⟨_, rfl, ?_, hW.trans hF⟩
                have e1 := i64_low (getI A wd a x / 2 ^ (8 * (j % 8))) 8 (by decide)
                have e2 := byteAt_toNat (getI A wd a x) (j % 8)
                rw [byte_get hA hj x (by omega)] at e2
                rw [e2]
                exact e1
              clear hE hzr hA
              go_wp2_with fail
              refine (unhide HBy).mono ?_
              rintro e w3 ⟨rfl, hF3⟩
              have HF3 := hide hF3
              have c3 := unhide HCw _ hF3
              clear hF3 HBy
              go_wp2_with fail
              refine (unhide HHd _ (unhide HF3)).mono ?_
              rintro e w4 ⟨rfl, hF4⟩
              have HF4 := hide hF4
              have c4 := unhide HCw _ hF4
              clear hF4 HF3
              go_wp2_with fail
              refine (unhide HG0 _ (unhide HF4)).mono ?_
              rintro e w5 ⟨rfl, hF5⟩
              have HF5 := hide hF5
              clear hF5 HF4
              go_wp2
              go_loopw [14] (fun i wr => ∃ j : Nat, j ≤ 8 * wsz t ∧ i = .int .i64 j ∧ Hid (Fr (fun _ => False) wm wr)) (fun i _ => 8 * wsz t - (intOf i).toNat)
              case atStart => exact ⟨0, Nat.zero_le _, rfl, HF5⟩
              case round =>
                obtain ⟨j, hj, rfl, hFj⟩ := hrel
                have c6 := unhide HCw _ (unhide hFj)
                have hw8 : (8 * (wsz t : Int)) = 8 * (1 + ((t.size : Int) + 7) / 8 - 1) := by unfold wsz; omega
                by_cases hjl : j < 8 * wsz t
                · have hj1 : (j : Int) < 8 * (1 + ((t.size : Int) + 7) / 8 - 1) := by omega
                  by_cases hjs : j < t.size
                  · go_wp2_with fail
                    refine (unhide HGj _ j _ (unhide hFj) hjl rfl).mono ?_
                    rintro e w6 ⟨G, rfl, hG, hF6⟩
                    have HF6 := hide hF6
                    have hG2 : bits .and .i64 (G / 2 ^ (8 * (j % 8))) 255 = wrap64 ↑t[j].toNat := by
                      have hb := (t[j]).toNat_lt
                      rw [hG, getD_toL t j hjs]
                      unfold wrap64
                      omega
                    clear hF6 hG
                    go_wp2
                    go_roundw
                    case rel => exact ⟨j + 1, by omega, by go_num, HF6⟩
                    case measure => simp [intOf]; omega
                  · have hjs' : ¬ (j : Int) < t.size := by omega
                    have hjs'' : decide ((j : Int) < t.size) = false := decide_eq_false hjs'
                    go_wp2_with fail
                    refine (unhide HGj _ j _ (unhide hFj) hjl rfl).mono ?_
                    rintro e w6 ⟨G, rfl, hG, hF6⟩
                    have HF6 := hide hF6
                    have hG2 : bits .and .i64 (G / 2 ^ (8 * (j % 8))) 255 = 0 := by
                      rw [hG, List.getD_eq_getElem?_getD, List.getElem?_eq_none (by rw [toL_len]; omega)]
                      rfl
                    clear hF6 hG
                    go_wp2
                    go_roundw
                    case rel => exact ⟨j + 1, by omega, by go_num, HF6⟩
                    case measure => simp [intOf]; omega
                · have hj1 : ¬ (j : Int) < 8 * (1 + ((t.size : Int) + 7) / 8 - 1) := by omega
                  have hj2 : decide ((j : Int) < 8 * (1 + ((t.size : Int) + 7) / 8 - 1)) = false := decide_eq_false hj1
                  go_wp2
                  go_roundw
                  case rel => exact ⟨q + 1, by omega, by go_num, hFj⟩
                  case measure => simp [intOf]; omega
          · have hge : ¬ (q : Int) < k := by omega
            have hge2 : decide ((q : Int) < k) = false := decide_eq_false hge
            have HEnd := hide (unhide HB _ (unhide HFr))
            go_wp2
            go_ret
            exact ⟨rfl, unhide HEnd⟩
end Go.Proofs.YthfccidjckbcbaaDoor
