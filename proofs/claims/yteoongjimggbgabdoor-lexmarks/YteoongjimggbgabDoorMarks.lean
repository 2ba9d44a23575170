/- The law LexMarks, walked. -/
import Derived.Test.YteoongjimggbgabDoorMarksA
namespace Go.Proofs.YteoongjimggbgabDoor
open Go.RowKit Go.Proofs.YteoongjimggbgabDoor.Lx

theorem mk_ext (x : ByteArray) (k n : Nat) : (⟨((x.toList.drop k).take n).toArray⟩ : ByteArray) = x.extract k (k + n) := by
  have h : ∀ a b : ByteArray, a.toList = b.toList → a = b := by
    rintro ⟨a⟩ ⟨b⟩ e
    rw [ByteArray.toList_eq, ByteArray.toList_eq] at e
    exact congrArg ByteArray.mk (Array.toList_inj.1 e)
  apply h
  rw [ByteArray.toList_mk, ext_toL]; unfold sub; rw [Nat.add_sub_cancel_left]

set_option maxRecDepth 100000 in
set_option maxHeartbeats 2000000 in
theorem marks_any (ao : Option Addr) (len cap : Nat) (zs : List Int) (w : World) (hv : Vars w) (hm : len ≤ maxLen)
    (hc : Hid (∀ j, j < len → ∃ b off, ao = some ⟨b, off, none⟩ ∧ b < w.heap.size ∧ w.cell? ⟨b, off + j, none⟩ = some (.int .i64 (zs.getD j 0)))) :
    Calls Tryd.prog 3 #[.slice ao len cap] w fun e w' => e = .returned (.bool true) ∧ Below w.heap.size w w' := by
  unfold maxLen at hm
  have HA := hide (anchor_any w hv)
  have HV := hide hv
  have hvl := hv.lt
  clear hv
  by_cases h1 : 100 < len
  · have t1 : (100 : Int) < len := by omega
    go_enter Tryd.func3, Tryd.ntmps3
    go_wp2_with (first | (go_at_call 4; refine (unhide HA).mono ?_; rintro e w1 ⟨rfl, hb1⟩; have HB1 := hide hb1; clear hb1))
    go_ret
    exact ⟨rfl, (unhide HB1).alloc (unhide HB1).size _⟩
  · have t1 : ¬ (100 : Int) < len := by omega
    go_enter Tryd.func3, Tryd.ntmps3
    go_wp2_with (first | (go_at_call 4; refine (unhide HA).mono ?_; rintro e w1 ⟨rfl, hb1⟩; have HB1 := hide hb1; clear hb1))
    have HM := hide (marks_cells w1)
    have HB2 := hide ((unhide HB1).alloc (unhide HB1).size (.cells #[.string ⟨#[58, 61]⟩, .string ⟨#[61, 61]⟩, .string ⟨#[33, 61]⟩, .string ⟨#[60, 61]⟩, .string ⟨#[62, 61]⟩, .string ⟨#[38, 38]⟩, .string ⟨#[124, 124]⟩, .string ⟨#[60, 45]⟩, .string ⟨#[43, 43]⟩, .string ⟨#[45, 45]⟩, .string ⟨#[43, 61]⟩, .string ⟨#[45, 61]⟩, .string ⟨#[42, 61]⟩, .string ⟨#[44]⟩, .string ⟨#[59]⟩, .string ⟨#[58]⟩, .string ⟨#[46]⟩, .string ⟨#[61]⟩, .string ⟨#[60]⟩, .string ⟨#[62]⟩, .string ⟨#[43]⟩, .string ⟨#[45]⟩, .string ⟨#[42]⟩, .string ⟨#[37]⟩, .string ⟨#[33]⟩, .string ⟨#[38]⟩] 9))
    clear HB1
    generalize w1.alloc (.cells #[.string ⟨#[58, 61]⟩, .string ⟨#[61, 61]⟩, .string ⟨#[33, 61]⟩, .string ⟨#[60, 61]⟩, .string ⟨#[62, 61]⟩, .string ⟨#[38, 38]⟩, .string ⟨#[124, 124]⟩, .string ⟨#[60, 45]⟩, .string ⟨#[43, 43]⟩, .string ⟨#[45, 45]⟩, .string ⟨#[43, 61]⟩, .string ⟨#[45, 61]⟩, .string ⟨#[42, 61]⟩, .string ⟨#[44]⟩, .string ⟨#[59]⟩, .string ⟨#[58]⟩, .string ⟨#[46]⟩, .string ⟨#[61]⟩, .string ⟨#[60]⟩, .string ⟨#[62]⟩, .string ⟨#[43]⟩, .string ⟨#[45]⟩, .string ⟨#[42]⟩, .string ⟨#[37]⟩, .string ⟨#[33]⟩, .string ⟨#[38]⟩] 9) = w2 at *
    generalize w1.heap.size = B at *
    have hw2 := (unhide HB2).size
    go_loop [4, 23] (fun t i => ∃ (q : Nat) (x : ByteArray), q ≤ len ∧ i = .int .i64 q ∧ t = .string x ∧ x.size ≤ 2 * q ∧ Hid (good x.toList = true)) (fun _ i => len - (intOf i).toNat)
    case atStart => exact ⟨0, ⟨#[]⟩, Nat.zero_le _, rfl, rfl, Nat.le_refl _, by show good _ = true; rw [ByteArray.toList_mk []]; rfl⟩
    case round =>
      obtain ⟨q, x, hq, rfl, rfl, hx, HG⟩ := hrel
      by_cases hlt : q < len
      · obtain ⟨b, off, rfl, hb, hcell⟩ := unhide hc q hlt
        have k0 := ((unhide HB2).cell (p := ⟨b, off + q, none⟩) hb).trans hcell
        generalize zs.getD q 0 = z at *
        clear hcell
        have h4 : (q : Int) < len := by omega
        have h5 : (0 : Int) ≤ q := by omega
        by_cases hz : z < 0
        · go_wp2_with fail
          go_ret
          exact ⟨rfl, unhide HB2⟩
        · by_cases hz2 : 26 ≤ z
          · go_wp2_with fail
            go_ret
            exact ⟨rfl, unhide HB2⟩
          · obtain ⟨k, rfl⟩ := Int.eq_ofNat_of_zero_le (show 0 ≤ z by omega)
            have hk : k < 26 := by omega
            obtain ⟨p, hp⟩ : ∃ p, marksL[k]? = some p := ⟨_, List.getElem?_eq_getElem hk⟩
            have c0 := (unhide HM).2 k p hp
            obtain ⟨g1, g2⟩ := marks_good p (List.mem_of_getElem? hp)
            have HG1 := hide g1
            have h6 : (0 : Int) ≤ k := by omega
            have h7 : (k : Int) < 26 := by omega
            have HP : Hid ((ByteArray.mk p.toArray).toList = p) := ByteArray.toList_mk p
            clear hp g1
            go_wp2_with fail
            go_round
            case rel => exact ⟨q + 1, x ++ ⟨p.toArray⟩, hlt, by go_num, rfl, by
              have e : (x ++ ⟨p.toArray⟩).size = x.size + p.length := by rw [← toL_len, toL_append, unhide HP, List.length_append, toL_len]
              omega, by show good _ = true; rw [toL_append, unhide HP]; exact good_app _ _ _ (Nat.le_refl _) (unhide HG) (unhide HG1)⟩
            case measure => simp [intOf]; omega
      · obtain rfl : q = len := by omega
        obtain ⟨tl, hlex, htl, htl2⟩ := lex_marks x.toList (by rw [toL_len]; omega) (unhide HG)
        have HL := hide hlex
        have HT : Hid (Left (mkToks x.toList.length 0 x.toList ++ tl) x.toList 0 0) := Left.start (unhide HG) htl
        have hTl : (mkToks x.toList.length 0 x.toList ++ tl).length ≤ 9000 := by
          have h1 := mkToks_len x.toList.length 0 x.toList
          rw [toL_len] at h1
          rw [List.length_append, toL_len]; omega
        generalize mkToks x.toList.length 0 x.toList ++ tl = T at *
        clear hlex htl htl2
        have hxl : x.size ≤ 200 := by omega
        clear hx
        go_wp2_with fail
        have hcx := (Scan_to x w2 ((unhide HV).below (B := w.heap.size) (by omega) (unhide HB2)) T 0 0 (unhide HL))
        refine hcx.mono ?_
        clear hcx
        rintro e w3 ⟨ao1, cap1, rfl, T1, b2⟩
        have hz2 := b2.size
        have B3 : Hid (Below w.heap.size w (w3.alloc (.cells #[.int .i64 0, .int .i64 0] 27))) := ((unhide HB2).trans (b2.mono (unhide HB2).size)).alloc (Nat.le_trans (unhide HB2).size hz2) _
        have TT := hide (T1.below ((Below.refl _ _).alloc (Nat.le_refl _) (.cells #[.int .i64 0, .int .i64 0] 27)))
        have MM := hide ((unhide HM).below (b2.alloc b2.size (.cells #[.int .i64 0, .int .i64 0] 27)))
        clear T1 b2
        go_wp2_with fail
        go_loopw [9, 52] (fun a i wr => ∃ (r k : Nat), r ≤ T.length ∧ k ≤ x.size ∧ a = .int .i64 k ∧ i = .int .i64 r ∧ Hid (Left T x.toList r k) ∧ Below (w3.alloc (.cells #[.int .i64 0, .int .i64 0] 27)).heap.size (w3.alloc (.cells #[.int .i64 0, .int .i64 0] 27)) wr) (fun _ i _ => T.length - (intOf i).toNat)
        case atStart => exact ⟨0, 0, Nat.zero_le _, Nat.zero_le _, rfl, rfl, HT, Below.refl _ _⟩
        case round =>
          obtain ⟨r, k, hr, hkx, rfl, rfl, HLF, hbel⟩ := hrel
          have hsz := hbel.size
          simp only [World.size_alloc] at hsz
          have HB := hide hbel
          clear hbel
          by_cases hrl : r < T.length
          · have h4 : (r : Int) < T.length := by omega
            have h5 : (0 : Int) ≤ r := by omega
            rcases (unhide HLF).step hrl with ⟨t, hg1, hkn, hnx⟩ | ⟨n, hn, hg1, hle, hnx⟩
            · have HN := hide hnx
              clear hnx
              obtain ⟨g1, rfl, hz1, c0, c1, c2, c3⟩ := ((unhide TT).below (unhide HB)).cells r t hg1
              clear hg1
              by_cases k6 : t.kind = 6
              · have b6 : (t.kind == 6) = true := by simp [k6]
                clear k6 hkn
                go_wp2_with fail
                exact ⟨⟨r + 1, k, hrl, hkx, rfl, by go_num, HN, (unhide HB).alloc (unhide HB).size _⟩, by simp [intOf]; omega⟩
              · have b6 : (t.kind == 6) = false := by simp [k6]
                have b1 : (t.num == 1) = true := by
                  rcases hkn with h | h
                  · exact absurd h k6
                  · simp [h]
                clear k6 hkn
                go_wp2_with fail
                exact ⟨⟨r + 1, k, hrl, hkx, rfl, by go_num, HN, (unhide HB).alloc (unhide HB).size _⟩, by simp [intOf]; omega⟩
            · have HN := hide hnx
              clear hnx
              obtain ⟨g1, rfl, hz1, c0', c1', c2', c3'⟩ := ((unhide TT).below (unhide HB)).cells r _ hg1
              clear hg1
              have hnz : n = 1 ∨ n = 2 := by rw [hn]; unfold gLen; split <;> simp
              have hxs : k + n ≤ x.size := by rw [toL_len] at hle; exact hle
              have c0 : wr.cell? ⟨g1, r * 4, none⟩ = some (.int .i64 5) := c0'
              have c1 : wr.cell? ⟨g1, r * 4 + 1, none⟩ = some (.string (x.extract k (k + n))) := by
                rw [c1']; exact congrArg (fun y => some (Value.string y)) (mk_ext x k n)
              have c2 : wr.cell? ⟨g1, r * 4 + 2, none⟩ = some (.int .i64 0) := c2'
              have c3 : wr.cell? ⟨g1, r * 4 + 3, none⟩ = some (.int .i64 k) := c3'
              clear c0' c1' c2' c3' hle
              have i0 : (0 : Int) ≤ k := by omega
              have i1 : (k : Int) + n ≤ x.size := by omega
              by_cases h2 : k + 2 ≤ x.size
              · have hnn : Hid ((n : Int) = pairN 13 (x.extract k (k + 2)).toList) := by
                  show _ = _
                  rw [pairN_all, ext_toL, hn]; unfold gLen sub
                  rw [Nat.add_sub_cancel_left]
                  split <;> rfl
                clear hn
                have i2 : (k : Int) + 2 ≤ x.size := by omega
                have MK := hide ((unhide MM).below ((unhide HB).alloc (unhide HB).size (.cells #[.int .i64 5, .string (x.extract k (k + n)), .int .i64 0, .int .i64 k] 31)))
                go_wp2_with fail
                go_loop [12, 72] (fun nv i => ∃ (j : Nat) (z : Int), j ≤ 13 ∧ i = .int .i64 j ∧ nv = .int .i64 z ∧ Hid (z = pairN j (x.extract k (k + 2)).toList)) (fun _ i => 13 - (intOf i).toNat)
                case atStart => exact ⟨0, 1, Nat.zero_le _, rfl, rfl, rfl⟩
                case round =>
                  obtain ⟨j, z, hj, rfl, rfl, HZ⟩ := hrel
                  by_cases hj2 : j < 13
                  · have j1 : (j : Int) < 13 := by omega
                    have j2 : (0 : Int) ≤ j := by omega
                    obtain ⟨p, hp1, hp2⟩ := marks_pair hj2
                    have d0 := (unhide MK).2 j p hp2
                    have HP1 := hide hp1
                    have HP : Hid ((ByteArray.mk p.toArray).toList = p) := ByteArray.toList_mk p
                    clear hp1 hp2
                    by_cases he : (x.extract k (k + 2)).toList = p
                    · have f1 : ((x.extract k (k + 2)).toList == p) = true := by rw [he]; simp
                      have HE := hide he
                      clear he
                      go_wp2_with fail
                      exact ⟨⟨j + 1, 2, hj2, by go_num, rfl, (pairN_eq (unhide HP1) (unhide HE)).symm⟩, by simp [intOf]; omega⟩
                    · have f1 : ((x.extract k (k + 2)).toList == p) = false := by simpa using he
                      have HE := hide he
                      clear he
                      go_wp2_with fail
                      exact ⟨⟨j + 1, z, hj2, by go_num, rfl, (unhide HZ).trans (pairN_ne (unhide HP1) (unhide HE)).symm⟩, by simp [intOf]; omega⟩
                  · obtain rfl : j = 13 := by omega
                    obtain rfl : z = n := (unhide HZ).trans (unhide hnn).symm
                    clear HZ hj2 hnn MK
                    rcases hnz with rfl | rfl
                    · have i3 : (k : Int) + 1 ≤ x.size := by omega
                      clear i1
                      go_wp2_with fail
                      go_quiet (fail)
                      go_wp2_with fail
                      exact ⟨⟨r + 1, k + 1, hrl, hxs, by go_num, by go_num, HN, ((unhide HB).alloc (unhide HB).size _).trans (below_drawn _ _ _)⟩, by simp [intOf]; omega⟩
                    · clear i1
                      go_wp2_with fail
                      go_quiet (fail)
                      go_wp2_with fail
                      exact ⟨⟨r + 1, k + 2, hrl, hxs, by go_num, by go_num, HN, ((unhide HB).alloc (unhide HB).size _).trans (below_drawn _ _ _)⟩, by simp [intOf]; omega⟩
              · have hn1 : n = 1 := by omega
                subst hn1
                clear hn hnz
                have i2 : ¬ (k : Int) + 2 ≤ x.size := by omega
                have i3 : (k : Int) + 1 ≤ x.size := by omega
                clear i1
                go_wp2_with fail
                go_quiet (fail)
                go_wp2_with fail
                exact ⟨⟨r + 1, k + 1, hrl, hxs, by go_num, by go_num, HN, ((unhide HB).alloc (unhide HB).size _).trans (below_drawn _ _ _)⟩, by simp [intOf]; omega⟩
          · have hfin := (unhide HLF).done (by omega)
            rw [toL_len] at hfin
            subst hfin
            go_wp2_with fail
            go_ret
            exact ⟨rfl, (unhide B3).trans ((unhide HB).mono (by simp; omega))⟩
end Go.Proofs.YteoongjimggbgabDoor
