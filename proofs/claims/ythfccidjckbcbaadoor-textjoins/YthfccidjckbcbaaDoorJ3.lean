/- TextJoins, walked. -/
import Derived.Test.YthfccidjckbcbaaDoorJ2
namespace Go.Proofs.YthfccidjckbcbaaDoor
open Go.RowKit Go.Proofs.YthfccidjckbcbaaDoor.Hp
def nzT (l : List ByteArray) (j : Nat) : Nat := ((l.take j).map nz).sum
theorem nzT_succ (l : List ByteArray) (j : Nat) (h : j < l.length) : nzT l (j + 1) = nzT l j + nz (l.getD j ByteArray.empty) := by
  unfold nzT
  rw [List.take_succ_eq_append_getElem h, List.map_append, List.sum_append, List.getD_eq_getElem?_getD, List.getElem?_eq_getElem h]
  simp
theorem nzT_three (a b c : ByteArray) : nzT [a, b, c] 3 = nz a + nz b + nz c := by
  simp [nzT]
  omega
theorem strs_three (W : World) (x y z : ByteArray) (t : TypeId) : ∀ j, j < 3 → (W.alloc (.cells #[.string x, .string y, .string z] t)).cell? ⟨W.heap.size, j, none⟩ = some (.string ([x, y, z].getD j ByteArray.empty)) := fun j hj => by
  rw [World.cell?_alloc_at _ _ _ _ rfl]
  rcases (show j = 0 ∨ j = 1 ∨ j = 2 by omega) with rfl | rfl | rfl <;> rfl
set_option maxRecDepth 100000 in
set_option maxHeartbeats 8000000 in
theorem joins_any (a b : ByteArray) (m : Int) (w : World) (hV : Vars w) (ha : a.size ≤ 140737488355328) (hb : b.size ≤ 140737488355328) (hm : -9223372036854775808 ≤ m ∧ m < 9223372036854775808) :
    Calls Tryd.prog 6 #[.string a, .string b, .int .i64 m] w fun e w' => e = .returned (.bool true) ∧ Below w.heap.size w w' := by
  have HA := hide (anchor_any w hV)
  have HB : Hid (∀ W, Fr (fun _ => False) w W → Below w.heap.size w W) := hide fun W k => k.below (Nat.le_refl _) (fun _ x => x.elim)
  clear hV
  by_cases hbig : 300 < (a.size : Int) + b.size ∨ m < 0 ∨ 8 < m
  · rcases (show (300 < (a.size : Int) + b.size) ∨ (¬ 300 < (a.size : Int) + b.size ∧ m < 0) ∨ (¬ 300 < (a.size : Int) + b.size ∧ ¬ m < 0 ∧ 8 < m) by omega) with h1 | ⟨h1, h2⟩ | ⟨h1, h2, h3⟩
    all_goals (
      clear hbig
      go_enter Tryd.func6, Tryd.ntmps6
      go_wp2_with fail
      refine (unhide HA).mono ?_
      rintro e w1 ⟨rfl, hF1, _⟩
      have HF1 := hide hF1
      clear hF1
      go_wp2
      go_ret
      exact ⟨rfl, unhide HB _ (unhide HF1)⟩)
  · obtain ⟨t, rfl⟩ := Int.eq_ofNat_of_zero_le (show 0 ≤ m by omega)
    have h1 : ¬ 300 < (a.size : Int) + b.size := by omega
    have h1' : decide (300 < (a.size : Int) + b.size) = false := decide_eq_false h1
    have hab : a.size + b.size ≤ 300 := by omega
    have ht8 : t ≤ 8 := by omega
    have h8 : ¬ (8 : Int) < t := by omega
    have h8' : decide ((8 : Int) < t) = false := decide_eq_false h8
    clear hbig hm
    go_enter Tryd.func6, Tryd.ntmps6
    go_wp2_with fail
    refine (unhide HA).mono ?_
    rintro e w1 ⟨rfl, hF1, hV1⟩
    have HF1 := hide hF1
    have HN := hide (SNew_any 16384 w1 (by omega) (by omega) hV1)
    clear hF1 hV1
    go_wp2_with fail
    refine (unhide HN).mono ?_
    rintro e w2 ⟨B, p, rfl, hL⟩
    have HT := hide (new_more hL (by omega) (Suf.start _) (fun x hx => absurd (show roomN (emptyA (16384 / 64)) x = 0 by unfold roomN emptyA; split <;> rfl) hx) a (by omega) 1 (by unfold wsz; omega) (by omega) (by decide))
    clear hL
    go_wp2_with fail
    refine (unhide HT).mono ?_
    rintro e w3 ⟨x, A3, wd3, rfl, hL3, hS3, hD3, hx3, _⟩
    have hr := hx3.rng hL3.sp.inv (by decide)
    have HH := hide (Hold_to hL3 x (by omega) (by simp))
    have HS3 := hide hS3
    have HD3 := hide hD3
    have HX3 := hide hx3
    clear hL3 hS3 hD3 hx3 HT hr
    go_wp2_with fail
    refine (unhide HH).mono ?_
    rintro e w4 ⟨rfl, hv4, hL4⟩
    have HT := hide (new_more hL4 (by omega) (unhide HS3) (unhide HD3) b (by omega) 1 (by unfold wsz; omega) (by omega) (by decide))
    clear hL4 HH
    go_wp2_with fail
    refine (unhide HT).mono ?_
    rintro e w5 ⟨y, A5, wd5, rfl, hL5, hS5, hD5, hy5, hall5⟩
    obtain ⟨hx5, hxy5⟩ := hall5 x a (unhide HX3)
    have hr := hy5.rng hL5.sp.inv (by decide)
    have HH := hide (Hold_to hL5 y (by omega) (by simp))
    have HJ : Hid (∀ W hv, Lw w1 W B 256 p A5 wd5 hv [x, y] 0 → JS w1 W B p A5 wd5 hv (heldJ x y 0 0) x y 0 a b (2 + 5 * 0) 0) := hide fun W hv h => ⟨h, hS5, hD5, hx5, hy5, .inl ⟨rfl, rfl⟩, hxy5, id, id⟩
    clear hL5 hS5 hD5 hy5 hall5 hx5 hxy5 HT hr HS3 HD3 HX3
    go_wp2_with fail
    refine (unhide HH).mono ?_
    rintro e w6 ⟨rfl, hv6, hL6⟩
    have HJ6 := hide (unhide HJ _ _ hL6)
    clear hL6 HH HJ
    go_wp2_with fail
    go_loopw [12, 13, 14] (fun s z i wr => ∃ k : Nat, k ≤ t ∧ i = .int .i64 k ∧ s = .string (catN a b k) ∧ ∃ z0, z = .int .i64 z0 ∧ ∃ A wd hv, Hid (JS w1 wr B p A wd hv (heldJ x y z0 k) x y z0 a b (2 + 5 * k) k)) (fun _ _ i _ => t - (intOf i).toNat)
    case atStart => exact ⟨0, Nat.zero_le _, rfl, rfl, 0, rfl, _, _, _, HJ6⟩
    case round =>
      clear HJ6
      obtain ⟨k, hk, rfl, rfl, z0, rfl, A, wd, hv, hJ⟩ := hrel
      by_cases hlt : k < t
      · have hcs : (catN a b k).size ≤ 2400 := by
          rw [catN_size]
          calc k * (a.size + b.size) ≤ 8 * 300 := Nat.mul_le_mul (by omega) hab
            _ = 2400 := rfl
        have hcs2 : (catN a b k ++ a).size ≤ 2700 := by rw [ByteArray.size_append]; omega
        have HBz := hide (Bytes_str (unhide hJ).lw (by decide) (unhide hJ).tri.sz)
        go_wp2_with fail
        refine (unhide HBz).mono ?_
        rintro e w7 ⟨rfl, hF7⟩
        have HJ7 := hide ((unhide hJ).quiet hF7)
        clear hF7 HBz hJ
        have HBx := hide (Bytes_str (unhide HJ7).lw (by decide) (unhide HJ7).tri.sx)
        go_wp2_with fail
        refine (unhide HBx).mono ?_
        rintro e w8 ⟨rfl, hF8⟩
        have HJ8 := hide ((unhide HJ7).quiet hF8)
        clear hF8 HBx HJ7
        have HBy := hide (Bytes_str (unhide HJ8).lw (by decide) (unhide HJ8).tri.sy)
        go_wp2_with fail
        refine (unhide HBy).mono ?_
        rintro e w9 ⟨rfl, hF9⟩
        have HJ9 := hide ((unhide HJ8).quiet hF9)
        clear hF9 HBy HJ8
        have HNw := hide (joins_new (unhide HJ9) (by omega) hab)
        rw [← catN_next] at HNw
        go_wp2_with fail
        refine (unhide HNw).mono ?_
        rintro e wa ⟨z', A', wd', rfl, hJa⟩
        have HDr := hide (joins_drop hJa)
        clear hJa HJ9 HNw
        have hab2 : (a ++ b).size ≤ 300 := by rw [ByteArray.size_append]; omega
        have HRd : Hid (∀ W hv, JS w1 W B p A' wd' hv [x, y, z'] x y z' a b (2 + 5 * (k + 1)) (k + 1) → JS w1 W B p A' wd' hv (heldJ x y z' (k + 1)) x y z' a b (2 + 5 * (k + 1)) (k + 1)) := hide fun W hv h => h
        rcases Nat.lt_or_ge 1 k with hk0 | hk0
        · have hk1 : (1 : Int) < k := by omega
          go_wp2_with fail
          refine (unhide HDr _ (by omega)).mono ?_
          rintro e wb ⟨rfl, hvb, hJb⟩
          have HHo := hide (joins_hold hJb)
          clear hJb HDr
          go_wp2_with fail
          refine (unhide HHo).mono ?_
          rintro e wc ⟨rfl, hvc, hJc⟩
          have HJc := hide (unhide HRd _ _ hJc)
          clear hJc HHo HRd
          go_wp2
          go_roundw
          case rel => exact ⟨k + 1, by omega, by go_num, rfl, z', rfl, _, _, _, HJc⟩
          case measure => simp [intOf]; omega
        · have hk1 : ¬ (1 : Int) < k := by omega
          have hk2 : decide ((1 : Int) < k) = false := decide_eq_false hk1
          clear hk0
          go_wp2_with fail
          refine (unhide HDr _ (by omega)).mono ?_
          rintro e wb ⟨rfl, hvb, hJb⟩
          have HHo := hide (joins_hold hJb)
          clear hJb HDr
          go_wp2_with fail
          refine (unhide HHo).mono ?_
          rintro e wc ⟨rfl, hvc, hJc⟩
          have HJc := hide (unhide HRd _ _ hJc)
          clear hJc HHo HRd
          go_wp2
          go_roundw
          case rel => exact ⟨k + 1, by omega, by go_num, rfl, z', rfl, _, _, _, HJc⟩
          case measure => simp [intOf]; omega
      · have hge : ¬ (k : Int) < t := by omega
        have hge2 : decide ((k : Int) < t) = false := decide_eq_false hge
        have HGc := hide (joins_gc (unhide hJ))
        clear hJ
        go_wp2_with fail
        refine (unhide HGc).mono ?_
        rintro e wa ⟨q, A1, rfl, hLa, hTa, hna⟩
        have HLa := hide hLa
        have HTa := hide hTa
        have HTo := hide (Told_any hLa.sp)
        rw [hna] at HTo
        generalize cntN (fun s => frK (A1 s)) (64 * setM 256) = cn at *
        clear hLa hTa hna HGc
        go_wp2_with fail
        refine (unhide HTo).mono ?_
        rintro e wb ⟨rfl, hFb⟩
        have HLb := hide ((unhide HLa).quiet hFb)
        clear hFb HTo HLa
        go_wp2_with fail
        have HLc := hide ((unhide HLb).quiet ((Fr.refl _ wb).alloc (Obj.cells #[Value.string a, Value.string b, Value.string (catN a b k)] 9)))
        have HC3 := hide (strs_three wb a b (catN a b k) 9)
        have HN3 := hide (nzT_three a b (catN a b k))
        have HSc := hide (nzT_succ [a, b, catN a b k])
        clear HLb
        generalize wb.alloc (Obj.cells #[Value.string a, Value.string b, Value.string (catN a b k)] 9) = wc at *
        generalize wb.heap.size = bs at *
        go_loop [20, 109] (fun v i => ∃ j : Nat, j ≤ 3 ∧ i = .int .i64 j ∧ ∃ u : Nat, v = .int .i64 u ∧ u ≤ j ∧ Hid (u = nzT [a, b, catN a b k] j)) (fun _ i => 3 - (intOf i).toNat)
        case atStart => exact ⟨0, by omega, rfl, 0, rfl, by omega, hide rfl⟩
        case round =>
          obtain ⟨j, hj, rfl, u, rfl, huj, hu⟩ := hrel
          by_cases hj3 : j < 3
          · have c3 := unhide HC3 j hj3
            have hs3 := unhide HSc j (by simpa using hj3)
            generalize [a, b, catN a b k].getD j ByteArray.empty = s at c3 hs3
            by_cases h0 : s.size = 0
            · have he : s.toList.isEmpty = true := by
                cases hb : s.toList with
                | nil => rfl
                | cons a l => rw [← toL_len, hb] at h0; simp at h0
              have HU : Hid (u = nzT [a, b, catN a b k] (j + 1)) := hide (by rw [hs3, ← unhide hu]; unfold nz; rw [if_pos h0]; rfl)
              clear hs3
              go_wp2
              go_round
              case rel => exact ⟨j + 1, by omega, by go_num, u, rfl, by omega, HU⟩
              case measure => simp [intOf]; omega
            · have he : s.toList.isEmpty = false := by
                cases hb : s.toList with
                | nil => exact absurd (by rw [← toL_len, hb]; rfl) h0
                | cons a l => rfl
              have HU : Hid (u + 1 = nzT [a, b, catN a b k] (j + 1)) := hide (by rw [hs3, ← unhide hu]; unfold nz; rw [if_neg h0])
              clear hs3
              go_wp2
              go_round
              case rel => exact ⟨j + 1, by omega, by go_num, u + 1, by go_num, by omega, HU⟩
              case measure => simp [intOf]; omega
          · obtain rfl : j = 3 := by omega
            have hn : ((nz a : Int) + nz b + nz (catN a b k)) = u := by have := unhide hu; have := unhide HN3; omega
            have HBz := hide (Bytes_str (unhide HLc) (by decide) (unhide HTa).sz)
            clear huj hu
            go_wp2_with fail
            refine (unhide HBz).mono ?_
            rintro e wd1 ⟨rfl, hFd⟩
            have HLd := hide ((unhide HLc).quiet hFd)
            clear hFd HLc HBz
            have HBx := hide (Bytes_str (unhide HLd) (by decide) (unhide HTa).sx)
            go_wp2_with fail
            refine (unhide HBx).mono ?_
            rintro e we ⟨rfl, hFe⟩
            have HLe := hide ((unhide HLd).quiet hFe)
            clear hFe HLd HBx
            have HBy := hide (Bytes_str (unhide HLe) (by decide) (unhide HTa).sy)
            go_wp2_with fail
            refine (unhide HBy).mono ?_
            rintro e wf ⟨rfl, hFf⟩
            have HEnd := hide (unhide HB _ ((unhide HF1).trans ((unhide HLe).quiet hFf).far))
            clear hFf HLe HBy
            go_wp2
            go_ret
            exact ⟨rfl, unhide HEnd⟩
end Go.Proofs.YthfccidjckbcbaaDoor
