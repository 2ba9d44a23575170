/- The law LexNames, walked. -/
import Derived.Test.YteoongjimggbgaaDoorInts
import Derived.Test.YteoongjimggbgaaDoorNamesP
namespace Go.Proofs.YteoongjimggbgaaDoor
open Go.RowKit Go.Proofs.YteoongjimggbgaaDoor.Lx

set_option maxRecDepth 100000 in
set_option maxHeartbeats 1000000 in
theorem names_any (s : ByteArray) (w : World) (hv : Vars w) : Calls Tryd.prog 7 #[.string s] w fun e w' => e = .returned (.bool true) ∧ Below w.heap.size w w' := by
  have HA := hide (anchor_any w hv)
  have HV := hide hv
  have hvl := hv.lt
  clear hv
  by_cases hs1 : s.size < 1
  · have t1 : (s.size : Int) < 1 := by omega
    go_enter Tryd.func7, Tryd.ntmps7
    go_wp2_with (first | (go_at_call 9; refine (unhide HA).mono ?_; rintro e w1 ⟨rfl, hb1⟩; have HB1 := hide hb1; clear hb1))
    go_ret
    exact ⟨rfl, unhide HB1⟩
  · have t1 : ¬ (s.size : Int) < 1 := by omega
    by_cases hs2 : 100 < s.size
    · have t2 : (100 : Int) < s.size := by omega
      go_enter Tryd.func7, Tryd.ntmps7
      go_wp2_with (first | (go_at_call 9; refine (unhide HA).mono ?_; rintro e w1 ⟨rfl, hb1⟩; have HB1 := hide hb1; clear hb1))
      go_ret
      exact ⟨rfl, unhide HB1⟩
    · have t2 : ¬ (100 : Int) < s.size := by omega
      have h0 : 0 < s.size := by omega
      by_cases hl0 : isLet s[0] = true
      · go_enter Tryd.func7, Tryd.ntmps7
        go_wp2_with (first | (go_at_call 9; refine (unhide HA).mono ?_; rintro e w1 ⟨rfl, hb1⟩; have HB1 := hide hb1; clear hb1) | (go_at_call 12; refine (Letter_b _ _).mono ?_; rintro e w' ⟨rfl, hww⟩; have hw2 := hww.symm; clear hww; subst hw2))
        go_loop [27] (fun i => ∃ j : Nat, j ≤ s.size ∧ i = .int .i64 j ∧ ∀ c ∈ s.toList.take j, isNam c = true) (fun i => s.size - (intOf i).toNat)
        case atStart => exact ⟨0, Nat.zero_le _, rfl, fun c hc => by simp at hc⟩
        case round =>
          obtain ⟨j, hj, rfl, hd⟩ := hrel
          have HD := hide hd
          clear hd
          by_cases hlt : j < s.size
          · by_cases hlj : isLet s[j] = true
            · have HN : Hid (∀ c ∈ s.toList.take (j + 1), isNam c = true) := all_take_succ hlt (unhide HD) (by simp [isNam, hlj])
              go_wp2_with (first | (go_at_call 12; refine (Letter_b _ _).mono ?_; rintro e w' ⟨rfl, hww⟩; have hw2 := hww.symm; clear hww; subst hw2))
              go_round
              case rel => exact ⟨j + 1, hlt, by go_num, unhide HN⟩
              case measure => simp [intOf]; omega
            · have hlf : isLet s[j] = false := by simpa using hlj
              clear hlj
              by_cases b3 : (s[j].toNat : Int) < 48
              · go_wp2_with (first | (go_at_call 12; refine (Letter_b _ _).mono ?_; rintro e w' ⟨rfl, hww⟩; have hw2 := hww.symm; clear hww; subst hw2))
                go_ret
                exact ⟨rfl, unhide HB1⟩
              · by_cases b4 : (57 : Int) < (s[j].toNat : Int)
                · go_wp2_with (first | (go_at_call 12; refine (Letter_b _ _).mono ?_; rintro e w' ⟨rfl, hww⟩; have hw2 := hww.symm; clear hww; subst hw2))
                  go_ret
                  exact ⟨rfl, unhide HB1⟩
                · have HN : Hid (∀ c ∈ s.toList.take (j + 1), isNam c = true) := all_take_succ hlt (unhide HD) (by simp [isNam, isDig, digZ]; right; omega)
                  go_wp2_with (first | (go_at_call 12; refine (Letter_b _ _).mono ?_; rintro e w' ⟨rfl, hww⟩; have hw2 := hww.symm; clear hww; subst hw2))
                  go_round
                  case rel => exact ⟨j + 1, hlt, by go_num, unhide HN⟩
                  case measure => simp [intOf]; omega
          · have hja : s.toList.take j = s.toList := take_all s j (by omega)
            rw [hja] at HD
            clear hja
            have hv1 : Vars w1 := (unhide HV).below (B := w.heap.size) (by omega) (unhide HB1)
            have hg0 := toL_get s 0 h0
            have hlen : s.toList.length ≤ 8000 := by rw [toL_len]; omega
            have HSB := hide (fun X hX => Scan_is (⟨#[49]⟩ ++ s) X hX [] 2 1 (by rw [toL_append, ByteArray.toList_mk [49]]; exact lex_dig_name s.toList _ hg0 hl0 hlen : lexR (_ : List UInt8) = _))
            by_cases h24 : 24 < s.size
            · have t3 : (24 : Int) < s.size := by omega
              have HSA := hide (Scan_is (s ++ ⟨#[32]⟩) w1 hv1 [] 2 0 (by rw [toL_append, ByteArray.toList_mk [32]]; exact lex_name_long s.toList (unhide HD) _ hg0 hl0 hlen (by rw [toL_len]; exact h24)))
              clear hg0 hv1
              go_wp2_with fail
              refine (unhide HSA).mono ?_
              rintro e w2 ⟨v, rfl, hown, hb2⟩
              have hb2' : Below w.heap.size w (w2.alloc (.cells #[.int .i64 2, .int .i64 0] 26)) := ((unhide HB1).trans (hb2.mono (unhide HB1).size)).alloc (Nat.le_trans (unhide HB1).size hb2.size) _
              have HSB2 := hide (unhide HSB _ ((unhide HV).below (B := w.heap.size) (by omega) hb2'))
              have hz2 := Nat.le_trans (unhide HB1).size hb2.size
              have HB2 := hide hb2'
              clear hb2 hb2' hown
              go_wp2_with fail
              refine (unhide HSB2).mono ?_
              rintro e w3 ⟨v3, rfl, hown3, hb3⟩
              have hz3 := hb3.size
              simp only [World.size_alloc] at hz3
              have r0 : (w3.alloc (.cells #[.int .i64 2, .int .i64 1] 26)).cell? ⟨w2.heap.size, 0, none⟩ = some (.int .i64 2) := by rw [World.cell?_alloc_lt _ _ _ (by show w2.heap.size < _; omega), hb3.cell (p := ⟨w2.heap.size, 0, none⟩) (by simp)]; simp
              have r1 : (w3.alloc (.cells #[.int .i64 2, .int .i64 1] 26)).cell? ⟨w2.heap.size, 1, none⟩ = some (.int .i64 0) := by rw [World.cell?_alloc_lt _ _ _ (by show w2.heap.size < _; omega), hb3.cell (p := ⟨w2.heap.size, 1, none⟩) (by simp)]; simp
              have HB3 := hide hb3
              clear hb3 hown3
              go_wp2_with fail
              go_ret
              exact ⟨rfl, (((unhide HB2).trans ((unhide HB3).mono (by simp; omega)))).alloc (by omega) _⟩
            · have t3 : ¬ (24 : Int) < s.size := by omega
              have HSA := hide (Scan_is (s ++ ⟨#[32]⟩) w1 hv1 (nameToks s.toList) 0 0 (by rw [toL_append, ByteArray.toList_mk [32]]; exact lex_name_ok s.toList (unhide HD) _ hg0 hl0 (by rw [toL_len]; exact h24)))
              clear hg0 hv1
              have HK : Hid (nmK s.toList = if isWd s.toList = true then 4 else 1) := rfl
              have hn2 := nameToks_len s.toList
              have HT0 := hide (nameToks_head s.toList)
              generalize nameToks s.toList = tk at *
              go_wp2_with fail
              refine (unhide HSA).mono ?_
              rintro e w2 ⟨v, rfl, hown, hb2⟩
              have hb2' : Below w.heap.size w (w2.alloc (.cells #[.int .i64 0, .int .i64 0] 26)) := ((unhide HB1).trans (hb2.mono (unhide HB1).size)).alloc (Nat.le_trans (unhide HB1).size hb2.size) _
              have HSB2 := hide (unhide HSB _ ((unhide HV).below (B := w.heap.size) (by omega) hb2'))
              have hz2 := Nat.le_trans (unhide HB1).size hb2.size
              obtain ⟨g, cap, rfl, hg1, hg2, d0, d1, d2, d3⟩ := tok_cells hown 0 _ (unhide HT0)
              rw [ba_of] at d1
              have HB2 := hide hb2'
              clear hb2 hb2' hown
              go_wp2_with fail
              refine (unhide HSB2).mono ?_
              rintro e w3 ⟨v3, rfl, hown3, hb3⟩
              have hz3 := hb3.size
              simp only [World.size_alloc] at hz3
              have old : ∀ j v, w2.cell? ⟨g, j, none⟩ = some v → (w3.alloc (.cells #[.int .i64 2, .int .i64 1] 26)).cell? ⟨g, j, none⟩ = some v := fun j v hj => by
                rw [World.cell?_alloc_lt _ _ _ (by show g < _; omega), hb3.cell (p := ⟨g, j, none⟩) (by simp; omega), World.cell?_alloc_lt _ _ _ hg2]; exact hj
              have k0 := old 0 _ d0
              have k1 := old 1 _ d1
              have k2 := old 2 _ d2
              have k3 := old 3 _ d3
              have r0 : (w3.alloc (.cells #[.int .i64 2, .int .i64 1] 26)).cell? ⟨w2.heap.size, 0, none⟩ = some (.int .i64 0) := by rw [World.cell?_alloc_lt _ _ _ (by show w2.heap.size < _; omega), hb3.cell (p := ⟨w2.heap.size, 0, none⟩) (by simp)]; simp
              have HB3 := hide hb3
              clear hb3 hown3 old d0 d1 d2 d3
              have hl2 : (2 : Int) ≤ tk.length := by omega
              cases hw : isWd s.toList with
              | true =>
                rw [hw, if_pos rfl] at HK
                rw [unhide HK] at k0
                go_wp2_with (first | (go_at_call 13; refine (IsWord_any _ _).mono ?_; rintro e w' ⟨rfl, hww⟩; have hw2 := hww.symm; clear hww; subst hw2))
                go_ret
                exact ⟨rfl, (((unhide HB2).trans ((unhide HB3).mono (by simp; omega)))).alloc (by omega) _⟩
              | false =>
                rw [hw, if_neg (by simp)] at HK
                rw [unhide HK] at k0
                go_wp2_with (first | (go_at_call 13; refine (IsWord_any _ _).mono ?_; rintro e w' ⟨rfl, hww⟩; have hw2 := hww.symm; clear hww; subst hw2))
                go_ret
                exact ⟨rfl, (((unhide HB2).trans ((unhide HB3).mono (by simp; omega)))).alloc (by omega) _⟩
      · have hlf : isLet s[0] = false := by simpa using hl0
        clear hl0
        go_enter Tryd.func7, Tryd.ntmps7
        go_wp2_with (first | (go_at_call 9; refine (unhide HA).mono ?_; rintro e w1 ⟨rfl, hb1⟩; have HB1 := hide hb1; clear hb1) | (go_at_call 12; refine (Letter_b _ _).mono ?_; rintro e w' ⟨rfl, hww⟩; have hw2 := hww.symm; clear hww; subst hw2))
        go_ret
        exact ⟨rfl, unhide HB1⟩
end Go.Proofs.YteoongjimggbgaaDoor
