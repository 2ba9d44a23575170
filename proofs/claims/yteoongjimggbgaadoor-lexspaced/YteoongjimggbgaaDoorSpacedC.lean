/- The law LexSpaced, walked. -/
import Derived.Test.YteoongjimggbgaaDoorSpacedB
namespace Go.Proofs.YteoongjimggbgaaDoor
open Go.RowKit Go.Proofs.YteoongjimggbgaaDoor.Lx

set_option maxRecDepth 100000 in
set_option maxHeartbeats 2000000 in
theorem spaced_any (ao : Option Addr) (len cap : Nat) (ss : List ByteArray) (w : World) (hv : Vars w) (hm : len ≤ 9223372036854775807) (hc : Hid (StrsAt w ao len ss)) :
    Calls Tryd.prog 3 #[.slice ao len cap] w fun e w' => e = .returned (.bool true) ∧ Below w.heap.size w w' := by
  have HA := hide (anchor_any w hv)
  have HV := hide hv
  have hvl := hv.lt
  clear hv
  go_enter Tryd.func3, Tryd.ntmps3
  go_wp2_with (first | (go_at_call 9; refine (unhide HA).mono ?_; rintro e w1 ⟨rfl, hb1⟩; have HB1 := hide hb1; clear hb1))
  have hw1 := (unhide HB1).size
  have HC := hide ((unhide hc).below (unhide HB1))
  go_loop [3, 4, 18] (fun a b i => ∃ (q : Nat) (x y : ByteArray), q ≤ len ∧ i = .int .i64 q ∧ a = .string x ∧ b = .string y ∧ Hid (Half ss q x y)) (fun _ _ i => len - (intOf i).toNat)
  case atStart => exact ⟨0, ⟨#[]⟩, ⟨#[]⟩, Nat.zero_le _, rfl, rfl, rfl, Half.zero ss⟩
  case round =>
    obtain ⟨q, x, y, hq, rfl, rfl, rfl, HH⟩ := hrel
    have hx1 := (unhide HH).lx
    have hy1 := (unhide HH).ly
    have hq2 := (unhide HH).few
    by_cases hlt : q < len
    · obtain ⟨b, off, s, rfl, hb, hss, hcell, hsz⟩ := (unhide HC).line q hlt
      have HS := hide hss
      clear hss
      have h4 : (q : Int) < len := by omega
      have h5 : (0 : Int) ≤ q := by omega
      by_cases h3 : 3000 < x.size + s.size
      · have t1 : (3000 : Int) < (x.size : Int) + s.size := by omega
        go_wp2_with fail
        go_ret
        exact ⟨rfl, unhide HB1⟩
      · have t1 : ¬ (3000 : Int) < (x.size : Int) + s.size := by omega
        by_cases h2 : 200 < len
        · have t2 : (200 : Int) < len := by omega
          go_wp2_with fail
          go_ret
          exact ⟨rfl, unhide HB1⟩
        · have t2 : ¬ (200 : Int) < len := by omega
          go_wp2_with fail
          go_loop [35] (fun i => ∃ j : Nat, j ≤ s.size ∧ i = .int .i64 j ∧ Hid (∀ c ∈ s.toList.take j, c ≠ 10)) (fun i => s.size - (intOf i).toNat)
          case atStart => exact ⟨0, Nat.zero_le _, rfl, fun c hc => by simp at hc⟩
          case round =>
            obtain ⟨j, hj, rfl, HD⟩ := hrel
            by_cases hjl : j < s.size
            · have h6 : (j : Int) < s.size := by omega
              have h7 : (0 : Int) ≤ j := by omega
              by_cases c10 : s[j] = 10
              · have b10 : ((s[j].toNat : Int) == 10) = true := beqT c10
                clear c10
                go_wp2_with fail
                go_ret
                exact ⟨rfl, unhide HB1⟩
              · have b10 : ((s[j].toNat : Int) == 10) = false := beqF c10
                have HN : Hid (∀ c ∈ s.toList.take (j + 1), c ≠ 10) := all_take_succ hjl (unhide HD) c10
                clear c10
                go_wp2_with fail
                go_round
                case rel => exact ⟨j + 1, hjl, by go_num, HN⟩
                case measure => simp [intOf]; omega
            · have HN : Hid (∀ c ∈ s.toList, c ≠ 10) := by rw [← take_all s j (by omega)]; exact unhide HD
              go_wp2_with fail
              go_round
              case rel => exact ⟨q + 1, _, _, hlt, by go_num, rfl, rfl, (unhide HH).next (unhide HS) (unhide HN) (by omega) (by omega)⟩
              case measure => simp [intOf]; omega
    · obtain rfl : q = len := by omega
      rcases (unhide HH).lex with ⟨p, kb, sb, pb, hne, l1, l2⟩ | ⟨ka, kb, st, p1, p2, l1, l2, hmap, hkl⟩
      · have L1 := hide l1
        have L2 := hide l2
        clear l1 l2 HH
        go_wp2_with fail
        have hcx := (Scan_to x w1 ((unhide HV).below (B := w.heap.size) (by omega) (unhide HB1)) [] 2 p (unhide L1))
        refine hcx.mono ?_
        clear hcx
        rintro e w2 ⟨ao1, cap1, rfl, T1, b2⟩
        have hz2 := b2.size
        have B2 : Hid (Below w.heap.size w (w2.alloc (.cells #[.int .i64 2, .int .i64 p] 26))) := ((unhide HB1).trans (b2.mono (unhide HB1).size)).alloc (Nat.le_trans (unhide HB1).size hz2) _
        clear T1 b2
        go_wp2_with fail
        have hcx := (Scan_to y _ ((unhide HV).below (B := w.heap.size) (by omega) (unhide B2)) kb sb pb (unhide L2))
        refine hcx.mono ?_
        clear hcx
        rintro e w3 ⟨ao2, cap2, rfl, T2, b3⟩
        have hz3 := b3.size
        have B3 : Hid (Below w.heap.size w (w3.alloc (.cells #[.int .i64 sb, .int .i64 pb] 26))) := ((unhide B2).trans (b3.mono (by simp; omega))).alloc (by simp at hz3; omega) _
        have C2 : Hid (Below (w2.alloc (.cells #[.int .i64 2, .int .i64 p] 26)).heap.size (w2.alloc (.cells #[.int .i64 2, .int .i64 p] 26)) (w3.alloc (.cells #[.int .i64 sb, .int .i64 pb] 26))) := b3.alloc b3.size _
        clear T2 b3
        simp only [World.size_alloc] at hz3
        have x10 : (w3.alloc (.cells #[.int .i64 sb, .int .i64 pb] 26)).cell? ⟨w2.heap.size, 0, none⟩ = some (.int .i64 2) := by rw [(unhide C2).cell (p := ⟨w2.heap.size, 0, none⟩) (by simp)]; simp
        go_wp2_with fail
        go_ret
        exact ⟨rfl, unhide B3⟩
      · have L1 := hide l1
        have L2 := hide l2
        have HM := hide hmap
        have hkk : kb.length = ka.length := by have := congrArg List.length hmap; simpa using this.symm
        clear l1 l2 HH hmap
        have q0 : (st != st) = false := by simp
        have q1 : ((ka.length : Int) != (ka.length : Int)) = false := by simp
        go_wp2_with fail
        have hcx := (Scan_to x w1 ((unhide HV).below (B := w.heap.size) (by omega) (unhide HB1)) ka st p1 (unhide L1))
        refine hcx.mono ?_
        clear hcx
        rintro e w2 ⟨ao1, cap1, rfl, T1, b2⟩
        have hz2 := b2.size
        have B2 : Hid (Below w.heap.size w (w2.alloc (.cells #[.int .i64 st, .int .i64 p1] 26))) := ((unhide HB1).trans (b2.mono (unhide HB1).size)).alloc (Nat.le_trans (unhide HB1).size hz2) _
        have TT1 := hide (T1.below ((Below.refl _ _).alloc (Nat.le_refl _) (.cells #[.int .i64 st, .int .i64 p1] 26)))
        clear T1 b2
        go_wp2_with fail
        have hcx := (Scan_to y _ ((unhide HV).below (B := w.heap.size) (by omega) (unhide B2)) kb st p2 (unhide L2))
        rw [hkk] at hcx
        refine hcx.mono ?_
        clear hcx
        rintro e w3 ⟨ao2, cap2, rfl, T2, b3⟩
        have hz3 := b3.size
        have B3 : Hid (Below w.heap.size w (w3.alloc (.cells #[.int .i64 st, .int .i64 p2] 26))) := ((unhide B2).trans (b3.mono (by simp; omega))).alloc (by simp at hz3; omega) _
        have TT2 := hide (T2.below ((Below.refl _ _).alloc (Nat.le_refl _) (.cells #[.int .i64 st, .int .i64 p2] 26)))
        have C2 : Hid (Below (w2.alloc (.cells #[.int .i64 st, .int .i64 p1] 26)).heap.size (w2.alloc (.cells #[.int .i64 st, .int .i64 p1] 26)) (w3.alloc (.cells #[.int .i64 st, .int .i64 p2] 26))) := b3.alloc b3.size _
        clear T2 b3
        simp only [World.size_alloc] at hz3
        have x10 : (w3.alloc (.cells #[.int .i64 st, .int .i64 p2] 26)).cell? ⟨w2.heap.size, 0, none⟩ = some (.int .i64 st) := by rw [(unhide C2).cell (p := ⟨w2.heap.size, 0, none⟩) (by simp)]; simp
        have R1 := hide ((unhide TT1).below (unhide C2))
        clear TT1
        have HK := hide hkk
        clear hkk
        go_wp2_with fail
        have hcx := slash_any ao q cap ss (w3.alloc (.cells #[.int .i64 st, .int .i64 p2] 26)) hm ((unhide hc).below (unhide B3))
        refine hcx.mono ?_
        clear hcx
        rintro e w4 ⟨he, rfl⟩
        rcases he with rfl | rfl
        · go_wp2_with fail
          go_ret
          exact ⟨rfl, unhide B3⟩
        · go_wp2_with fail
          go_loopw [89] (fun i wr => ∃ r : Nat, r ≤ ka.length ∧ i = .int .i64 r ∧ Below (w3.alloc (.cells #[.int .i64 st, .int .i64 p2] 26)).heap.size (w3.alloc (.cells #[.int .i64 st, .int .i64 p2] 26)) wr) (fun i _ => ka.length - (intOf i).toNat)
          case atStart => exact ⟨0, Nat.zero_le _, rfl, Below.refl _ _⟩
          case round =>
            obtain ⟨r, hr, rfl, hbel⟩ := hrel
            have hsz := hbel.size
            simp only [World.size_alloc] at hsz
            have HB := hide hbel
            clear hbel
            by_cases hrl : r < ka.length
            · have h4 : (r : Int) < ka.length := by omega
              have h5 : (0 : Int) ≤ r := by omega
              have hg1 : ka[r]? = some ka[r] := List.getElem?_eq_getElem hrl
              obtain ⟨u, hu, e1, e2, e3⟩ := er_at (unhide HM) hg1
              generalize ka[r] = t at *
              have HT2 : ToksAt wr (.slice ao2 kb.length cap2) kb := by rw [unhide HK]; exact (unhide TT2).below (unhide HB)
              obtain ⟨g1, rfl, hz1, c0, c1, c2, c3⟩ := ((unhide R1).below (unhide HB)).cells r t hg1
              obtain ⟨g2, rfl, hz2', d0, d1, d2, d3⟩ := HT2.cells r u hu
              rw [e1] at d0
              rw [e2] at d1
              rw [e3] at d2
              have old : ∀ j v, wr.cell? ⟨g2, j, none⟩ = some v → (wr.alloc (.cells #[.int .i64 t.kind, .string ⟨t.text.toArray⟩, .int .i64 t.num, .int .i64 t.pos] 31)).cell? ⟨g2, j, none⟩ = some v := fun j v hj => by rw [World.cell?_alloc_lt _ _ _ hz2']; exact hj
              have f0 := old _ _ d0
              have f1 := old _ _ d1
              have f2 := old _ _ d2
              clear old d0 d1 d2 d3 hg1 hu e1 e2 e3 HT2
              go_wp2_with fail
              go_quiet (fail)
              go_wp2_with fail
              exact ⟨⟨r + 1, hrl, by go_num, ((unhide HB).alloc (unhide HB).size _).trans (below_drawn _ _ _)⟩, by simp [intOf]; omega⟩
            · go_wp2_with fail
              go_ret
              exact ⟨rfl, (unhide B3).trans ((unhide HB).mono (by simp; omega))⟩
end Go.Proofs.YteoongjimggbgaaDoor
