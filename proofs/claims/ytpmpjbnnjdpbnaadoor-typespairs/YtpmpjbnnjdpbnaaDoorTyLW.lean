/- The law TypesLong, walked. -/
import Derived.Test.YtpmpjbnnjdpbnaaDoorTyL
namespace Go.Proofs.YtpmpjbnnjdpbnaaDoor
open Go.RowKit Go.Proofs.YtpmpjbnnjdpbnaaDoor.Lx

theorem toL_app (a b : ByteArray) : (a ++ b).toList = a.toList ++ b.toList := by
  rw [ByteArray.toList_eq, ByteArray.toList_eq, ByteArray.toList_eq, ByteArray.data_append, Array.toList_append]
theorem size_pre {t : ByteArray} {k : Nat} (h : t.toList = pre k) : t.size ≤ 3 + 5 * k := by
  rw [← toL_len, h]; exact pre_len k
set_option maxRecDepth 100000 in
set_option maxHeartbeats 800000 in
theorem long_any (n m : Int) (w : World) (hv : Vars w) : Calls Tryd.prog 7 #[.int .i64 n, .int .i64 m] w fun e w' => e = .returned (.bool true) ∧ Below w.heap.size w w' := by
  have HA := hide (anchor_any w hv)
  have HV := hide hv
  clear hv
  by_cases n0 : n < 0
  · go_enter Tryd.func7, Tryd.ntmps7
    go_wp2_with (first | (go_at_call 8; refine (unhide HA).mono ?_; rintro e w1 ⟨rfl, hb1⟩; have HB1 := hide hb1; clear hb1))
    go_ret
    exact ⟨rfl, unhide HB1⟩
  by_cases n3 : 300 < n
  · go_enter Tryd.func7, Tryd.ntmps7
    go_wp2_with (first | (go_at_call 8; refine (unhide HA).mono ?_; rintro e w1 ⟨rfl, hb1⟩; have HB1 := hide hb1; clear hb1))
    go_ret
    exact ⟨rfl, unhide HB1⟩
  by_cases m0 : m < 0
  · go_enter Tryd.func7, Tryd.ntmps7
    go_wp2_with (first | (go_at_call 8; refine (unhide HA).mono ?_; rintro e w1 ⟨rfl, hb1⟩; have HB1 := hide hb1; clear hb1))
    go_ret
    exact ⟨rfl, unhide HB1⟩
  by_cases m3 : 300 < m
  · go_enter Tryd.func7, Tryd.ntmps7
    go_wp2_with (first | (go_at_call 8; refine (unhide HA).mono ?_; rintro e w1 ⟨rfl, hb1⟩; have HB1 := hide hb1; clear hb1))
    go_ret
    exact ⟨rfl, unhide HB1⟩
  obtain ⟨N, rfl⟩ : ∃ N : Nat, n = N := ⟨n.toNat, by omega⟩
  obtain ⟨M, rfl⟩ : ∃ M : Nat, m = M := ⟨m.toNat, by omega⟩
  have hN : N ≤ 300 := by omega
  have hM : M ≤ 300 := by omega
  go_enter Tryd.func7, Tryd.ntmps7
  go_wp2_with (first | (go_at_call 8; refine (unhide HA).mono ?_; rintro e w1 ⟨rfl, hb1⟩; have HV1 := hide ((unhide HV).in hb1); have HB1 := hide hb1; clear hb1))
  go_loopg [5, 6] N (fun g v5 v6 wr => ∃ (j : Nat) (t : ByteArray), g = N - j ∧ j ≤ N ∧ v6 = .int .i64 j ∧ v5 = .string t ∧ t.toList = pre j ∧ wr = w1)
  case atStart => exact ⟨0, _, by omega, by omega, rfl, rfl, mk_toL _, rfl⟩
  case round =>
    obtain ⟨j, t, rfl, hj, rfl, rfl, ht, hw⟩ := hrel
    have hw2 := hw.symm
    clear hw
    subst hw2
    have HT := hide ht
    have hz := size_pre ht
    clear ht
    by_cases hlt : j < N
    · have hltz : (j : Int) < N := by omega
      by_cases hp : j % 2 = 0
      · have hpz : (((j : Int) % 2) == 0) = true := by rw [beq_iff_eq]; omega
        go_wp2_with fail
        go_roundg (N - (j + 1))
        case measure => omega
        case rel => exact ⟨j + 1, _, rfl, by omega, by go_num, rfl, by rw [toL_app, unhide HT, mk_toL, pre, if_pos hp]; rfl, rfl⟩
      · have hpz : (((j : Int) % 2) == 0) = false := by rw [beq_eq_false_iff_ne]; omega
        go_wp2_with fail
        go_roundg (N - (j + 1))
        case measure => omega
        case rel => exact ⟨j + 1, _, rfl, by omega, by go_num, rfl, by rw [toL_app, unhide HT, mk_toL, pre, if_neg hp]; rfl, rfl⟩
    · have hltz : ¬ (j : Int) < N := by omega
      obtain rfl : j = N := by omega
      clear hlt
      go_wp2_with fail
      go_loopg [7, 8] M (fun g v7 v8 wx => ∃ (i : Nat) (f : ByteArray), g = M - i ∧ i ≤ M ∧ v8 = .int .i64 i ∧ v7 = .string f ∧ f.toList = many (pre j) i ∧ wx = w1)
      case atStart => exact ⟨0, _, by omega, by omega, rfl, rfl, mk_toL _, rfl⟩
      case round =>
        obtain ⟨i, f, rfl, hi, rfl, rfl, hf, hwx⟩ := hrel
        have hw2 := hwx.symm
        clear hwx
        subst hw2
        have HF := hide hf
        have hfz : f.size ≤ 500000 := by
          have h1 := many_len (pre j) i
          rw [← hf, toL_len] at h1
          have h2 := pre_len j
          have h3 : i * ((pre j).length + 1) ≤ 300 * 1504 := Nat.mul_le_mul (by omega) (by omega)
          omega
        clear hf
        by_cases hil : i < M
        · have hilz : (i : Int) < M := by omega
          by_cases h0 : 0 < i
          · have h0z : (0 : Int) < i := by omega
            go_wp2_with fail
            go_roundg (M - (i + 1))
            case measure => omega
            case rel => exact ⟨i + 1, _, rfl, by omega, by go_num, rfl, by rw [toL_app, toL_app, unhide HF, unhide HT, mk_toL, many, if_pos h0], rfl⟩
          · have h0z : ¬ (0 : Int) < i := by omega
            go_wp2_with fail
            go_roundg (M - (i + 1))
            case measure => omega
            case rel => exact ⟨i + 1, _, rfl, by omega, by go_num, rfl, by rw [toL_app, unhide HF, unhide HT, many, if_neg h0]; simp, rfl⟩
        · have hilz : ¬ (i : Int) < M := by omega
          obtain rfl : i = M := by omega
          clear hil
          have HL : Hid ((f ++ ⟨#[41]⟩ ++ t).toList = many (pre j) i ++ [41] ++ pre j) := by
            show (f ++ ⟨#[41]⟩ ++ t).toList = _
            rw [toL_app, toL_app, unhide HF, unhide HT, mk_toL]
          have hlz : (f ++ ⟨#[41]⟩ ++ t).size ≤ 1000000 := by
            rw [← toL_len, unhide HL, List.length_append, List.length_append, ← unhide HF, ← unhide HT, toL_len, toL_len]; simp; omega
          have HP := hide (func_any (f ++ ⟨#[41]⟩ ++ t) w1 (unhide HV1) hlz)
          unfold FuncPost at HP
          rw [unhide HL, long_fn] at HP
          clear hlz
          go_wp2_with fail
          refine (unhide HP).mono ?_
          rintro e w2 ⟨hb2, v, r, rfl, hr, hown⟩
          simp only [Option.getD_some, List.length_replicate] at hr hown
          obtain ⟨ao, cap, hvv⟩ := own_form hown
          subst hvv
          have HV2 := hide ((unhide HV1).in hb2)
          have HB2 := hide (bt (unhide HB1) hb2)
          have HO := hide hown
          have hrt : r.toList = t.toList := by rw [hr, unhide HT]
          clear hb2 hr hown
          have HNl := hide (nilable_any t w2 (unhide HV2) (by omega))
          rw [unhide HT] at HNl
          go_wp2_with fail
          refine (unhide HNl).mono ?_
          rintro e w3 ⟨rfl, hb3⟩
          have HV3 := hide ((unhide HV2).in hb3)
          have HB3 := hide hb3
          clear hb3
          have HL2 : Hid ((t ++ ⟨#[32]⟩).toList = pre j ++ [32]) := by
            show (t ++ ⟨#[32]⟩).toList = _
            rw [toL_app, unhide HT, mk_toL]
          have HVd := hide (valid_any (t ++ ⟨#[32]⟩) w3 (unhide HV3) (by rw [← toL_len, unhide HL2, List.length_append, ← unhide HT, toL_len]; simp; omega))
          rw [unhide HL2, pre_sp] at HVd
          have HN0 : Hid (∀ v, nilF (pre j) = v → (v = false → j = 0)) := by
            intro v hvv hv0
            cases j with
            | zero => rfl
            | succ k => rw [pre_nil] at hvv; rw [hv0] at hvv; cases hvv
          have hgo : nilF (pre j) = true ∨ (nilF (pre j) = false ∧ j = 0) := by
            cases hq : nilF (pre j) with
            | true => exact .inl rfl
            | false => exact .inr ⟨rfl, unhide HN0 _ hq rfl⟩
          have hgo2 : ((!nilF (pre j)) && decide ((0 : Int) < j)) = false := by
            rcases hgo with h | ⟨h, h'⟩
            · rw [h]; rfl
            · rw [h, h']; rfl
          clear HN0 hgo
          generalize nilF (pre j) = nv at hgo2
          cases nv with
          | true =>
            go_wp2_with fail
            refine (unhide HVd).mono ?_
            rintro e w4 ⟨rfl, hb4⟩
            have HB4 := hide hb4
            have HV4 := hide ((unhide HV3).in hb4)
            clear hb4
            go_wp2_with fail
            have HB34 := hide (bt (unhide HB3) (unhide HB4))
            go_loopg [13, 96] i (fun g _ v96 wx => ∃ q : Nat, g = i - q ∧ q ≤ i ∧ v96 = .int .i64 q ∧ wx = w4)
            case atStart => exact ⟨0, by omega, by omega, rfl, rfl⟩
            case round =>
              obtain ⟨q, rfl, hq, rfl, hwx⟩ := hrel
              have hw2 := hwx.symm
              clear hwx
              subst hw2
              by_cases hql : q < i
              · have hqlz : (q : Int) < i := by omega
                obtain ⟨g, cap2, hv2, hg1, hg2, hc⟩ := own_strs (unhide HO) (by omega)
                obtain ⟨rfl, rfl⟩ : ao = some ⟨g, 0, none⟩ ∧ cap = cap2 := by simpa using hv2
                have hcell : w4.cell? ⟨g, q, none⟩ = some (.string t) := by
                  rw [(unhide HB34).cell (p := ⟨g, q, none⟩) hg2, hc q (pre j) (by rw [List.getElem?_replicate, if_pos hql]), ← unhide HT, ba_of]
                clear hc hv2
                go_wp2_with fail
                go_roundg (i - (q + 1))
                case measure => omega
                case rel => exact ⟨q + 1, rfl, by omega, by go_num, rfl⟩
              · have hqlz : ¬ (q : Int) < i := by omega
                go_wp2_with fail
                go_loopg [5, 14, 15, 16] j (fun g v5 v14 _ _ wx => ∃ (k : Nat) (x : ByteArray), g = k ∧ k ≤ j ∧ v14 = .int .i64 k ∧ v5 = .string x ∧ x.toList = pre k ∧ Below w.heap.size w wx)
                case atStart => exact ⟨j, t, rfl, Nat.le_refl _, rfl, rfl, unhide HT, bt (unhide HB2) (unhide HB34)⟩
                case round =>
                  obtain ⟨k, x, rfl, hk, rfl, rfl, hx, hbx⟩ := hrel
                  have HX := hide hx
                  have hxz := size_pre hx
                  have HVx := hide ((unhide HV).in hbx)
                  have HBx := hide hbx
                  clear hx hbx
                  cases gk with
                  | zero =>
                    have hxi : (x.toList == [105, 110, 116]) = true := by rw [unhide HX]; rfl
                    go_wp2_with fail
                    go_ret
                    exact ⟨rfl, unhide HBx⟩
                  | succ k =>
                    have hkz : (0 : Int) < ((k : Int) + 1) := by omega
                    have HEl := hide (elem_any x wr (unhide HVx) (by omega))
                    unfold ElemPost at HEl
                    rw [unhide HX, pre_el] at HEl
                    go_wp2_with fail
                    refine (unhide HEl).mono ?_
                    rintro e w5 ⟨hb5, y, rfl, hy⟩
                    have HY := hide hy
                    have HB5 := hide hb5
                    clear hy hb5
                    go_wp2_with fail
                    go_roundg k
                    case measure => omega
                    case rel => exact ⟨k, y, rfl, by omega, by go_num, rfl, unhide HY, bt (unhide HBx) (unhide HB5)⟩
          | false =>
            obtain rfl : j = 0 := by have : ¬ (0 : Int) < j := by simpa using hgo2
                                     omega
            go_wp2_with fail
            refine (unhide HVd).mono ?_
            rintro e w4 ⟨rfl, hb4⟩
            have HB4 := hide hb4
            have HV4 := hide ((unhide HV3).in hb4)
            clear hb4
            go_wp2_with fail
            have HB34 := hide (bt (unhide HB3) (unhide HB4))
            go_loopg [13, 96] i (fun g _ v96 wx => ∃ q : Nat, g = i - q ∧ q ≤ i ∧ v96 = .int .i64 q ∧ wx = w4)
            case atStart => exact ⟨0, by omega, by omega, rfl, rfl⟩
            case round =>
              obtain ⟨q, rfl, hq, rfl, hwx⟩ := hrel
              have hw2 := hwx.symm
              clear hwx
              subst hw2
              by_cases hql : q < i
              · have hqlz : (q : Int) < i := by omega
                obtain ⟨g, cap2, hv2, hg1, hg2, hc⟩ := own_strs (unhide HO) (by omega)
                obtain ⟨rfl, rfl⟩ : ao = some ⟨g, 0, none⟩ ∧ cap = cap2 := by simpa using hv2
                have hcell : w4.cell? ⟨g, q, none⟩ = some (.string t) := by
                  rw [(unhide HB34).cell (p := ⟨g, q, none⟩) hg2, hc q (pre 0) (by rw [List.getElem?_replicate, if_pos hql]), ← unhide HT, ba_of]
                clear hc hv2
                go_wp2_with fail
                go_roundg (i - (q + 1))
                case measure => omega
                case rel => exact ⟨q + 1, rfl, by omega, by go_num, rfl⟩
              · have hqlz : ¬ (q : Int) < i := by omega
                go_wp2_with fail
                go_loopg [5, 14, 15, 16] 0 (fun g v5 v14 _ _ wx => ∃ (k : Nat) (x : ByteArray), g = k ∧ k ≤ 0 ∧ v14 = .int .i64 k ∧ v5 = .string x ∧ x.toList = pre k ∧ Below w.heap.size w wx)
                case atStart => exact ⟨0, t, rfl, Nat.le_refl _, rfl, rfl, unhide HT, bt (unhide HB2) (unhide HB34)⟩
                case round =>
                  obtain ⟨k, x, rfl, hk, rfl, rfl, hx, hbx⟩ := hrel
                  have HX := hide hx
                  have hxz := size_pre hx
                  have HVx := hide ((unhide HV).in hbx)
                  have HBx := hide hbx
                  clear hx hbx
                  cases gk with
                  | zero =>
                    have hxi : (x.toList == [105, 110, 116]) = true := by rw [unhide HX]; rfl
                    go_wp2_with fail
                    go_ret
                    exact ⟨rfl, unhide HBx⟩
                  | succ k =>
                    have hkz : (0 : Int) < ((k : Int) + 1) := by omega
                    have HEl := hide (elem_any x wr (unhide HVx) (by omega))
                    unfold ElemPost at HEl
                    rw [unhide HX, pre_el] at HEl
                    go_wp2_with fail
                    refine (unhide HEl).mono ?_
                    rintro e w5 ⟨hb5, y, rfl, hy⟩
                    have HY := hide hy
                    have HB5 := hide hb5
                    clear hy hb5
                    go_wp2_with fail
                    go_roundg k
                    case measure => omega
                    case rel => exact ⟨k, y, rfl, by omega, by go_num, rfl, unhide HY, bt (unhide HBx) (unhide HB5)⟩
end Go.Proofs.YtpmpjbnnjdpbnaaDoor
