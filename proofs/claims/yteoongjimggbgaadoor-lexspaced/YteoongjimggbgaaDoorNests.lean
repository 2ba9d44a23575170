/- The law LexNests, walked. -/
import Derived.Test.YteoongjimggbgaaDoorInts
import Derived.Test.YteoongjimggbgaaDoorNestsP
namespace Go.Proofs.YteoongjimggbgaaDoor
open Go.RowKit Go.Proofs.YteoongjimggbgaaDoor.Lx

theorem toL_size {x : ByteArray} {l : List UInt8} (h : x.toList = l) : x.size = l.length := by rw [← toL_len, h]
set_option maxRecDepth 100000 in
set_option maxHeartbeats 1000000 in
theorem nests_any (ao : Option Addr) (len cap : Nat) (zs : List Int) (n : Int) (w : World) (hv : Vars w) (hm : len ≤ maxLen)
    (hc : Hid (∀ j, j < len → ∃ b off, ao = some ⟨b, off, none⟩ ∧ b < w.heap.size ∧ w.cell? ⟨b, off + j, none⟩ = some (.int .i64 (zs.getD j 0)))) :
    Calls Tryd.prog 5 #[.slice ao len cap, .int .i64 n] w fun e w' => e = .returned (.bool true) ∧ Below w.heap.size w w' := by
  unfold maxLen at hm
  have HA := hide (anchor_any w hv)
  have HV := hide hv
  have hvl := hv.lt
  clear hv
  by_cases h1 : 100 < len
  · have t1 : (100 : Int) < len := by omega
    go_enter Tryd.func5, Tryd.ntmps5
    go_wp2_with (first | (go_at_call 9; refine (unhide HA).mono ?_; rintro e w1 ⟨rfl, hb1⟩; have HB1 := hide hb1; clear hb1))
    go_ret
    exact ⟨rfl, unhide HB1⟩
  · have t1 : ¬ (100 : Int) < len := by omega
    by_cases h2 : n < 0
    · go_enter Tryd.func5, Tryd.ntmps5
      go_wp2_with (first | (go_at_call 9; refine (unhide HA).mono ?_; rintro e w1 ⟨rfl, hb1⟩; have HB1 := hide hb1; clear hb1))
      go_ret
      exact ⟨rfl, unhide HB1⟩
    · by_cases h3 : 100 < n
      · go_enter Tryd.func5, Tryd.ntmps5
        go_wp2_with (first | (go_at_call 9; refine (unhide HA).mono ?_; rintro e w1 ⟨rfl, hb1⟩; have HB1 := hide hb1; clear hb1))
        go_ret
        exact ⟨rfl, unhide HB1⟩
      · obtain ⟨m, rfl⟩ := Int.eq_ofNat_of_zero_le (show 0 ≤ n by omega)
        go_enter Tryd.func5, Tryd.ntmps5
        go_wp2_with (first | (go_at_call 9; refine (unhide HA).mono ?_; rintro e w1 ⟨rfl, hb1⟩; have HB1 := hide hb1; clear hb1))
        go_loop [5, 6] (fun t i => ∃ (j : Nat) (x : ByteArray), j ≤ m ∧ i = .int .i64 j ∧ t = .string x ∧ x.toList = pairsL j) (fun _ i => m - (intOf i).toNat)
        case atStart => exact ⟨0, ⟨#[]⟩, Nat.zero_le _, rfl, rfl, ByteArray.toList_mk []⟩
        case round =>
          obtain ⟨j, x, hj, rfl, rfl, hx⟩ := hrel
          have hxs : x.size ≤ 200 := by rw [toL_size hx, pairsL_len]; omega
          have HX := hide hx
          clear hx
          by_cases hlt : j < m
          · go_wp2_with fail
            go_round
            case rel => exact ⟨j + 1, x ++ ⟨#[40, 41]⟩, hlt, by go_num, rfl, by rw [toL_append, unhide HX, ByteArray.toList_mk [40, 41]]; rfl⟩
            case measure => simp [intOf]; omega
          · obtain rfl : j = m := by omega
            go_wp2_with fail
            go_loop [5, 33] (fun t i => ∃ (q : Nat) (y : ByteArray) (l : List UInt8), q ≤ len ∧ i = .int .i64 q ∧ t = .string y ∧ y.toList = pairsL j ++ l ∧ l.length = q ∧ ∀ c ∈ l, isOp c = true) (fun _ i => len - (intOf i).toNat)
            case atStart => exact ⟨0, x, [], Nat.zero_le _, rfl, rfl, by rw [unhide HX]; simp, rfl, fun c hc => by simp at hc⟩
            case round =>
              obtain ⟨q, y, l, hq, rfl, rfl, hy, hlq, hop⟩ := hrel
              have hys : y.size ≤ 300 := by rw [toL_size hy, List.length_append, pairsL_len]; omega
              have HY := hide hy
              have HL := hide hlq
              have HO := hide hop
              clear hy hlq hop
              by_cases hql : q < len
              · obtain ⟨b, off, rfl, hb, hcell⟩ := unhide hc q hql
                have k0 := ((unhide HB1).cell (p := ⟨b, off + q, none⟩) hb).trans hcell
                generalize zs.getD q 0 = z at *
                have h4 : (q : Int) < len := by omega
                have h5 : (0 : Int) ≤ q := by omega
                go_wp2_with fail
                · go_round
                  case rel => exact ⟨q + 1, y ++ ⟨#[40]⟩, l ++ [40], hql, by go_num, rfl, by rw [toL_append, unhide HY, ByteArray.toList_mk [40], List.append_assoc], by rw [List.length_append, unhide HL]; rfl, fun d hd => by
                    rcases List.mem_append.1 hd with hd | hd
                    · exact unhide HO d hd
                    · rw [List.mem_singleton.1 hd]; decide⟩
                  case measure => simp [intOf]; omega
                · go_round
                  case rel => exact ⟨q + 1, y ++ ⟨#[91]⟩, l ++ [91], hql, by go_num, rfl, by rw [toL_append, unhide HY, ByteArray.toList_mk [91], List.append_assoc], by rw [List.length_append, unhide HL]; rfl, fun d hd => by
                    rcases List.mem_append.1 hd with hd | hd
                    · exact unhide HO d hd
                    · rw [List.mem_singleton.1 hd]; decide⟩
                  case measure => simp [intOf]; omega
                · go_round
                  case rel => exact ⟨q + 1, y ++ ⟨#[123]⟩, l ++ [123], hql, by go_num, rfl, by rw [toL_append, unhide HY, ByteArray.toList_mk [123], List.append_assoc], by rw [List.length_append, unhide HL]; rfl, fun d hd => by
                    rcases List.mem_append.1 hd with hd | hd
                    · exact unhide HO d hd
                    · rw [List.mem_singleton.1 hd]; decide⟩
                  case measure => simp [intOf]; omega
              · have hv1 : Vars w1 := (unhide HV).below (B := w.heap.size) (by omega) (unhide HB1)
                obtain rfl : q = len := by omega
                have hln := unhide HL
                obtain ⟨L1, L2⟩ := lex_nests j l (unhide HO) (by omega) (by omega)
                by_cases h40 : 40 < q
                · have t4 : (40 : Int) < q := by omega
                  have HS := hide (Scan_is y w1 hv1 [] 3 (2 * (j : Int) + 40) (by rw [unhide HY]; exact L1 (by omega)))
                  clear L1 L2 hln hv1
                  go_wp2_with (first | (go_at_call 10; refine (unhide HS).mono ?_; rintro e w2 ⟨v, rfl, hown, hb2⟩; obtain ⟨ao2, cap2, hvv⟩ := own_form hown; subst hvv; have HB2 := hide hb2; clear hb2 hown))
                  go_ret
                  exact ⟨rfl, (((unhide HB1).trans ((unhide HB2).mono (unhide HB1).size)).alloc (Nat.le_trans (unhide HB1).size (unhide HB2).size) _)⟩
                · have t4 : ¬ (40 : Int) < q := by omega
                  obtain ⟨tk, htk, hlen⟩ := L2 (by omega)
                  have HS := hide (Scan_is y w1 hv1 tk 0 0 (by rw [unhide HY]; exact htk))
                  have t5 : (q : Int) + 2 * (j : Int) + 1 ≤ tk.length := by omega
                  clear L1 L2 hln hv1 htk hlen
                  go_wp2_with (first | (go_at_call 10; refine (unhide HS).mono ?_; rintro e w2 ⟨v, rfl, hown, hb2⟩; obtain ⟨ao2, cap2, hvv⟩ := own_form hown; subst hvv; have HB2 := hide hb2; clear hb2 hown))
                  go_ret
                  exact ⟨rfl, (((unhide HB1).trans ((unhide HB2).mono (unhide HB1).size)).alloc (Nat.le_trans (unhide HB1).size (unhide HB2).size) _)⟩
end Go.Proofs.YteoongjimggbgaaDoor
