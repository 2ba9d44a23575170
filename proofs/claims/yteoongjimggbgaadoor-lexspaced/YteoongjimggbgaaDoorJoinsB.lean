/- The law LexJoins, walked: two sources without a fault. -/
import Derived.Test.YteoongjimggbgaaDoorJoinsA
namespace Go.Proofs.YteoongjimggbgaaDoor
open Go.RowKit Go.Proofs.YteoongjimggbgaaDoor.Lx

set_option maxRecDepth 100000 in
set_option maxHeartbeats 1000000 in
theorem joins_ok (sa sb : ByteArray) (w : World) (hv : Vars w) (hsum : sa.size + sb.size ≤ 8000) (k1 k2 k3 : List Tok) (p1 p2 p3 : Int) (pre : List Tok) (e : Tok) (HK1 : Hid (k1 = pre ++ [e])) (HK3 : Hid (k3 = pre ++ shL (sa.size + 1) k2)) (hp2 : Hid (PosIn sb.size k2)) (hlen : pre.length + k2.length ≤ 19000)
    (l1 : lexR sa.toList = (k1, 0, p1)) (l2 : lexR sb.toList = (k2, 0, p2)) (l3 : lexR (sa.toList ++ 10 :: sb.toList) = (k3, 0, p3)) :
    Calls Tryd.prog 6 #[.string sa, .string sb] w fun e w' => e = .returned (.bool true) ∧ Below w.heap.size w w' := by
  have HA := hide (anchor_any w hv)
  have HV := hide hv
  have hvl := hv.lt
  clear hv
  have t1 : ¬ (8000 : Int) < (sa.size : Int) + sb.size := by omega
  have L3 : Hid (lexR (sa ++ ⟨#[10]⟩ ++ sb).toList = (k3, 0, p3)) := by
    show _ = _
    rw [toL_append, toL_append, ByteArray.toList_mk [10], List.append_assoc]
    exact l3
  have L1 := hide l1
  have L2 := hide l2
  clear l1 l2 l3
  have hk1 : k1.length = pre.length + 1 := by rw [unhide HK1, List.length_append]; rfl
  have hk3 : k3.length = pre.length + k2.length := by rw [unhide HK3, List.length_append, shL, List.length_map]
  have HL1 := hide hk1
  have HL3 := hide hk3
  clear hk1 hk3
  have q1 : ((k3.length : Int) != (k1.length : Int) - 1 + k2.length) = false := by
    have h1 := unhide HL1
    have h3 := unhide HL3
    rw [bne_eq_false_iff_eq]; omega
  have q2 : k3.length ≤ 20000 ∧ k1.length ≤ 20000 ∧ k2.length ≤ 20000 := by
    have h1 := unhide HL1
    have h3 := unhide HL3
    omega
  obtain ⟨q21, q22, q23⟩ := q2
  go_enter Tryd.func6, Tryd.ntmps6
  go_wp2_with (first | (go_at_call 9; refine (unhide HA).mono ?_; rintro e w1 ⟨rfl, hb1⟩; have HB1 := hide hb1; clear hb1))
  have hcx := (Scan_to sa w1 ((unhide HV).below (B := w.heap.size) (by omega) (unhide HB1)) k1 0 p1 (unhide L1))
  refine hcx.mono ?_
  clear hcx
  rintro e w2 ⟨ao1, cap1, rfl, T1, b2⟩
  have hz2 := b2.size
  have B2 : Hid (Below w.heap.size w (w2.alloc (.cells #[.int .i64 0, .int .i64 p1] 26))) := ((unhide HB1).trans (b2.mono (unhide HB1).size)).alloc (Nat.le_trans (unhide HB1).size hz2) _
  have TT1 := hide (T1.below ((Below.refl _ _).alloc (Nat.le_refl _) (.cells #[.int .i64 0, .int .i64 p1] 26)))
  have hw1 := (unhide HB1).size
  clear T1 b2
  go_wp2_with fail
  have hcx := (Scan_to sb _ ((unhide HV).below (B := w.heap.size) (by omega) (unhide B2)) k2 0 p2 (unhide L2))
  refine hcx.mono ?_
  clear hcx
  rintro e w3 ⟨ao2, cap2, rfl, T2, b3⟩
  have hz3 := b3.size
  have B3 : Hid (Below w.heap.size w (w3.alloc (.cells #[.int .i64 0, .int .i64 p2] 26))) := ((unhide B2).trans (b3.mono (by simp; omega))).alloc (by simp at hz3; omega) _
  have TT2 := hide (T2.below ((Below.refl _ _).alloc (Nat.le_refl _) (.cells #[.int .i64 0, .int .i64 p2] 26)))
  have C2 : Hid (Below (w2.alloc (.cells #[.int .i64 0, .int .i64 p1] 26)).heap.size (w2.alloc (.cells #[.int .i64 0, .int .i64 p1] 26)) (w3.alloc (.cells #[.int .i64 0, .int .i64 p2] 26))) := b3.alloc b3.size _
  clear T2 b3
  go_wp2_with fail
  have hcx := (Scan_to (sa ++ ⟨#[10]⟩ ++ sb) _ ((unhide HV).below (B := w.heap.size) (by omega) (unhide B3)) k3 0 p3 (unhide L3))
  refine hcx.mono ?_
  clear hcx
  rintro e w4 ⟨ao3, cap3, rfl, T3, b4⟩
  have hz4 := b4.size
  have B4 : Hid (Below w.heap.size w (w4.alloc (.cells #[.int .i64 0, .int .i64 p3] 26))) := ((unhide B3).trans (b4.mono (by simp at hz3 ⊢; omega))).alloc (by simp at hz3 hz4; omega) _
  have TT3 := hide (T3.below ((Below.refl _ _).alloc (Nat.le_refl _) (.cells #[.int .i64 0, .int .i64 p3] 26)))
  have C3 : Hid (Below (w3.alloc (.cells #[.int .i64 0, .int .i64 p2] 26)).heap.size (w3.alloc (.cells #[.int .i64 0, .int .i64 p2] 26)) (w4.alloc (.cells #[.int .i64 0, .int .i64 p3] 26))) := b4.alloc b4.size _
  clear T3 b4
  simp only [World.size_alloc] at hz3 hz4
  have x10 : (w4.alloc (.cells #[.int .i64 0, .int .i64 p3] 26)).cell? ⟨w2.heap.size, 0, none⟩ = some (.int .i64 0) := by rw [(unhide C3).cell (p := ⟨w2.heap.size, 0, none⟩) (by simp; omega), (unhide C2).cell (p := ⟨w2.heap.size, 0, none⟩) (by simp)]; simp
  have x11 : (w4.alloc (.cells #[.int .i64 0, .int .i64 p3] 26)).cell? ⟨w2.heap.size, 1, none⟩ = some (.int .i64 p1) := by rw [(unhide C3).cell (p := ⟨w2.heap.size, 1, none⟩) (by simp; omega), (unhide C2).cell (p := ⟨w2.heap.size, 1, none⟩) (by simp)]; simp
  have x20 : (w4.alloc (.cells #[.int .i64 0, .int .i64 p3] 26)).cell? ⟨w3.heap.size, 0, none⟩ = some (.int .i64 0) := by rw [(unhide C3).cell (p := ⟨w3.heap.size, 0, none⟩) (by simp)]; simp
  have R1 := hide (((unhide TT1).below (unhide C2)).below (unhide C3))
  have R2 := hide ((unhide TT2).below (unhide C3))
  go_wp2_with fail
  go_loopw [73] (fun i wr => ∃ q : Nat, q ≤ k3.length ∧ i = .int .i64 q ∧ Below (w4.alloc (.cells #[.int .i64 0, .int .i64 p3] 26)).heap.size (w4.alloc (.cells #[.int .i64 0, .int .i64 p3] 26)) wr) (fun i _ => k3.length - (intOf i).toNat)
  case atStart => exact ⟨0, Nat.zero_le _, rfl, Below.refl _ _⟩
  case round =>
    obtain ⟨q, hq, rfl, hbel⟩ := hrel
    have hsz := hbel.size
    simp only [World.size_alloc] at hsz
    have HB := hide hbel
    clear hbel
    by_cases hlt : q < k3.length
    · have h4 : (q : Int) < k3.length := by omega
      have h5 : (0 : Int) ≤ q := by omega
      have hl1 := unhide HL1
      have hl3 := unhide HL3
      have hg3 : k3[q]? = some k3[q] := List.getElem?_eq_getElem hlt
      by_cases hpre : q < pre.length
      · have hg1 : k1[q]? = some k3[q] := by
          rw [← hg3, unhide HK1, unhide HK3, List.getElem?_append_left hpre, List.getElem?_append_left hpre]
        have h6 : (q : Int) < (k1.length : Int) - 1 := by omega
        have h7 : (q : Int) < k1.length := by omega
        generalize k3[q] = t at *
        obtain ⟨g3, rfl, hz3, c0, c1, c2, c3⟩ := ((unhide TT3).below (unhide HB)).cells q t hg3
        obtain ⟨g1, rfl, hz1, d0, d1, d2, d3⟩ := ((unhide R1).below (unhide HB)).cells q t hg1
        have old : ∀ j v, wr.cell? ⟨g1, j, none⟩ = some v → (wr.alloc (.cells #[.int .i64 t.kind, .string ⟨t.text.toArray⟩, .int .i64 t.num, .int .i64 t.pos] 31)).cell? ⟨g1, j, none⟩ = some v := fun j v hj => by rw [World.cell?_alloc_lt _ _ _ hz1]; exact hj
        have e0 := old _ _ d0
        have e1 := old _ _ d1
        have e2 := old _ _ d2
        have e3 := old _ _ d3
        clear old d0 d1 d2 d3 hg1 hg3 hl1 hl3
        go_wp2_with fail
        go_quiet (fail)
        go_wp2_with fail
        exact ⟨⟨q + 1, hlt, by go_num, ((unhide HB).alloc (unhide HB).size _).trans (below_drawn _ _ _)⟩, by simp [intOf]; omega⟩
      · obtain ⟨r, hr⟩ : ∃ r, q = pre.length + r := ⟨q - pre.length, by omega⟩
        have hrl : r < k2.length := by omega
        have hg2 : k2[r]? = some k2[r] := List.getElem?_eq_getElem hrl
        have hgt : k3[q]? = some (shT (sa.size + 1) k2[r]) := by
          rw [unhide HK3, List.getElem?_append_right (by omega), shL, List.getElem?_map, show q - pre.length = r by omega, hg2]
          rfl
        obtain ⟨ps1, ps2⟩ := unhide hp2 k2[r] (List.getElem_mem hrl)
        generalize k2[r] = u at *
        have h6 : ¬ (q : Int) < (k1.length : Int) - 1 := by omega
        have h7 : (q : Int) - k1.length + 1 = (r : Int) := by omega
        have h8 : (r : Int) < k2.length := by omega
        have h9 : (0 : Int) ≤ r := by omega
        obtain ⟨g3, rfl, hz3, c0, c1, c2, c3⟩ := ((unhide TT3).below (unhide HB)).cells q _ hgt
        have c3' : wr.cell? ⟨g3, q * 4 + 3, none⟩ = some (.int .i64 (u.pos + ((sa.size : Int) + 1))) := by rw [c3]; simp [shT]
        have c0' : wr.cell? ⟨g3, q * 4, none⟩ = some (.int .i64 u.kind) := c0
        have c1' : wr.cell? ⟨g3, q * 4 + 1, none⟩ = some (.string ⟨u.text.toArray⟩) := c1
        have c2' : wr.cell? ⟨g3, q * 4 + 2, none⟩ = some (.int .i64 u.num) := c2
        obtain ⟨g2, rfl, hz2, d0, d1, d2, d3⟩ := ((unhide R2).below (unhide HB)).cells r u hg2
        have old : ∀ j v, wr.cell? ⟨g2, j, none⟩ = some v → (wr.alloc (.cells #[.int .i64 u.kind, .string ⟨u.text.toArray⟩, .int .i64 u.num, .int .i64 (u.pos + ((sa.size : Int) + 1))] 31)).cell? ⟨g2, j, none⟩ = some v := fun j v hj => by rw [World.cell?_alloc_lt _ _ _ hz2]; exact hj
        have e0 := old _ _ d0
        have e1 := old _ _ d1
        have e2 := old _ _ d2
        have e3 := old _ _ d3
        clear old d0 d1 d2 d3 hg2 hgt hg3 hl1 hl3 c0 c1 c2 c3 hr
        go_wp2_with fail
        exact ⟨⟨q + 1, hlt, by go_num, ((unhide HB).alloc (unhide HB).size _).alloc (by simp; omega) _⟩, by simp [intOf]; omega⟩
    · go_wp2_with fail
      go_ret
      exact ⟨rfl, (unhide B4).trans ((unhide HB).mono (by simp; omega))⟩

set_option maxRecDepth 100000 in
set_option maxHeartbeats 400000 in
theorem joins_big (sa sb : ByteArray) (w : World) (hv : Vars w) (h1 : sa.size ≤ 140737488355328) (h2 : sb.size ≤ 140737488355328) (hsum : 8000 < sa.size + sb.size) :
    Calls Tryd.prog 6 #[.string sa, .string sb] w fun e w' => e = .returned (.bool true) ∧ Below w.heap.size w w' := by
  have HA := hide (anchor_any w hv)
  have t1 : (8000 : Int) < (sa.size : Int) + sb.size := by omega
  clear hv
  go_enter Tryd.func6, Tryd.ntmps6
  go_wp2_with (first | (go_at_call 9; refine (unhide HA).mono ?_; rintro e w1 ⟨rfl, hb1⟩; have HB1 := hide hb1; clear hb1))
  go_ret
  exact ⟨rfl, unhide HB1⟩
theorem lex_len (l : List UInt8) (hl : l.length ≤ 8192) (tk : List Tok) (p : Int) (h : lexR l = (tk, 0, p)) : tk.length ≤ l.length + 2 := by
  obtain ⟨ta, sa, rfl, _⟩ := lex_zero l hl tk p h
  have h1 := scan_len l ta sa
  have h2 := endT_len ta (l.length : Int)
  unfold allP
  rw [List.length_append]
  simp
  omega
theorem joins_any (sa sb : ByteArray) (w : World) (hv : Vars w) (h1 : sa.size ≤ 140737488355328) (h2 : sb.size ≤ 140737488355328) :
    Calls Tryd.prog 6 #[.string sa, .string sb] w fun e w' => e = .returned (.bool true) ∧ Below w.heap.size w w' := by
  by_cases hsum : 8000 < sa.size + sb.size
  · exact joins_big sa sb w hv h1 h2 hsum
  · have hs : sa.toList.length + sb.toList.length ≤ 8000 := by rw [toL_len, toL_len]; omega
    obtain ⟨k1, s1, p1, e1⟩ : ∃ k s p, lexR sa.toList = (k, s, p) := ⟨_, _, _, rfl⟩
    obtain ⟨k2, s2, p2, e2⟩ : ∃ k s p, lexR sb.toList = (k, s, p) := ⟨_, _, _, rfl⟩
    obtain ⟨k3, s3, p3, e3⟩ : ∃ k s p, lexR (sa.toList ++ 10 :: sb.toList) = (k, s, p) := ⟨_, _, _, rfl⟩
    have g1 := lex_stage sa.toList (by omega)
    rw [e1] at g1
    simp only at g1
    rcases g1 with rfl | ⟨rfl, rfl⟩ | ⟨rfl, rfl⟩
    · have g2 := lex_stage sb.toList (by omega)
      rw [e2] at g2
      simp only at g2
      rcases g2 with rfl | ⟨rfl, rfl⟩ | ⟨rfl, rfl⟩
      · rcases lex_join_ok sa.toList sb.toList hs k1 k2 p1 p2 e1 e2 with ⟨p, hp⟩ | ⟨pre, e, hk, hp⟩
        · exact joins_both sa sb w hv (by omega) k1 k2 [] p1 p2 p e1 e2 hp
        · have hl1 := lex_len sa.toList (by omega) k1 p1 e1
          have hl2 := lex_len sb.toList (by omega) k2 p2 e2
          have hpp := lex_pos sb.toList (by omega) k2 p2 e2
          rw [toL_len] at hp hpp
          have hkl : k1.length = pre.length + 1 := by rw [hk, List.length_append]; rfl
          exact joins_ok sa sb w hv (by omega) k1 k2 _ p1 p2 0 pre e hk rfl hpp (by omega) e1 e2 hp
      · exact joins_second sa sb w hv (by omega) k1 [] k3 p1 2 p2 s3 p3 (by decide) e1 e2 e3
      · exact joins_second sa sb w hv (by omega) k1 [] k3 p1 3 p2 s3 p3 (by decide) e1 e2 e3
    · have hb := lex_join_bad sa.toList sb.toList hs p1 e1
      exact joins_bad sa sb w hv (by omega) [] k2 [] p1 s2 p2 e1 e2 hb
    · exact joins_deep sa sb w hv (by omega) [] k2 k3 p1 s2 p2 s3 p3 e1 e2 e3
end Go.Proofs.YteoongjimggbgaaDoor
