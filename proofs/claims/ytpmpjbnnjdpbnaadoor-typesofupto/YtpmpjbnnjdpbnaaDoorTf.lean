/- The reference's Of over trees that are handed in. -/
import Derived.Test.YtpmpjbnnjdpbnaaDoorTw
set_option linter.unusedVariables false
set_option linter.unusedSimpArgs false
namespace Go.Proofs.YtpmpjbnnjdpbnaaDoor
open Go.RowKit Go.Proofs.YtpmpjbnnjdpbnaaDoor.Lx

theorem toL_app2 (a b : ByteArray) : (a ++ b).toList = a.toList ++ b.toList := by
  rw [ByteArray.toList_eq, ByteArray.toList_eq, ByteArray.toList_eq, ByteArray.data_append, Array.toList_append]
theorem mk_toL2 (a : Array UInt8) : (⟨a⟩ : ByteArray).toList = a.toList := ByteArray.toList_eq _
theorem blk_keep {w w2 : World} {o : Obj} (h : Below (w.alloc o).heap.size (w.alloc o) w2) : w2.heap[w.heap.size]? = some o := (h.block _ (by simp)).trans (heap_alloc_new' _ _ rfl)
theorem sum_take (n : Nat) (kids : List Tr) (j : Nat) : ((kids.take j).map (wt n)).sum ≤ (kids.map (wt n)).sum := by
  have h := List.take_append_drop j kids
  conv => rhs; rw [← h]
  rw [List.map_append, List.sum_append]
  omega
theorem ofT_succ (n : Nat) (kd : Int) (tx : ByteArray) (nm ps : Int) (ty : ByteArray) (rf : Int) (kids : List Tr) : ofT (n + 1) (.mk kd tx nm ps ty rf kids) = form kd tx.toList (kids.map (ofT n)) := rfl
def OfP (N n : Nat) : Prop := ∀ (kd : Int) (tx : ByteArray) (nm ps : Int) (ty : ByteArray) (rf : Int) (kids : List Tr) (a : Option Addr) (cp : Nat) (w : World), KidsT N w n kids a → N ≤ w.heap.size → kids.length ≤ cp → wt (n + 1) (.mk kd tx nm ps ty rf kids) ≤ 2097152 →
    Calls Tryd.prog 26 #[.agg #[.int .i64 kd, .string tx, .int .i64 nm, .int .i64 ps, .string ty, .int .i64 rf, .slice a kids.length cp]] w fun e w' => (∃ s : ByteArray, e = .returned (.string s) ∧ s.toList = ofT (n + 1) (.mk kd tx nm ps ty rf kids)) ∧ Below w.heap.size w w'
theorem size_of {s : ByteArray} {n : Nat} {t : Tr} (h : s.toList = ofT n t) (hw : wt n t ≤ 2097152) : s.size ≤ 2097152 := by
  have := ofT_len n t
  rw [← h, toL_len] at this
  omega
/-- What is behind the kids' first one. -/
theorem form_cases (kd : Int) : kd = 9 ∨ kd = 10 ∨ kd = 11 ∨ kd = 12 ∨ kd = 13 ∨ kd = 14 ∨ kd = 15 ∨ (¬ kd = 9 ∧ ¬ kd = 10 ∧ ¬ kd = 11 ∧ ¬ kd = 12 ∧ ¬ kd = 13 ∧ ¬ kd = 14 ∧ ¬ kd = 15) := by omega
set_option maxRecDepth 100000 in
set_option maxHeartbeats 2000000 in
theorem of_step (N n : Nat) (ih : ∀ m, n = m + 1 → OfP N m) : OfP N n := by
  intro kd tx nm ps ty rf kids a cp w hk hN hcp hwt
  have hfew := hk.1
  unfold maxLen at hfew
  have htx : tx.size ≤ 2097152 := by simp only [wt] at hwt; omega
  have HK := hide hk
  have HI := hide ih
  have HW := hide hwt
  clear hk ih hwt
  by_cases h0 : kids.length = 0
  · have hkn : kids = [] := by simpa using h0
    subst hkn
    clear h0
    simp only [List.length_nil] at hcp hfew ⊢
    rcases form_cases kd with rfl | rfl | rfl | rfl | rfl | rfl | rfl | ⟨h9, h10, h11, h12, h13, h14, h15⟩
    all_goals go_enter Tryd.func26, Tryd.ntmps26
    all_goals go_wp2
    rotate_left 6
    · go_loopg [4, 5] 1 (fun g v4 v5 wr => g = 1 ∧ v5 = .int .i64 0 ∧ v4 = .string ⟨#[102, 117, 110, 99, 40]⟩ ∧ Below w.heap.size w wr ∧ wr.heap[w.heap.size]? = some (.cells #[.int .i64 15, .string tx, .int .i64 nm, .int .i64 ps, .string ty, .int .i64 rf, .slice a 0 cp] 33))
      case atStart => exact ⟨rfl, rfl, rfl, (Below.refl _ _).alloc (Nat.le_refl _) _, heap_alloc_new' _ _ rfl⟩
      case round =>
        obtain ⟨rfl, rfl, rfl, hb, hbl⟩ := hrel
        have x6 := blk_cell hbl 6
        simp at x6
        go_wp2
        go_ret
        exact ⟨⟨_, rfl, by simp [ofT, form, toL_app2, mk_toL2, pt]⟩, hb⟩
    all_goals go_ret
    all_goals refine ⟨⟨_, rfl, ?_⟩, (Below.refl _ _).alloc (Nat.le_refl _) _⟩
    all_goals simp [ofT, form, toL_app2, mk_toL2, *]
  · have hlt : 0 < kids.length := by omega
    have hltz : (0 : Int) < kids.length := by omega
    obtain ⟨m, b, off, kd2, tx2, nm2, ps2, ty2, rf2, ks2, a2, cp2, hn, rfl, hbN, ek, hcp2, hk2, c0, c1, c2, c3, c4, c5, c6⟩ := (unhide HK).kid hlt
    simp only [Nat.zero_mul, Nat.add_zero] at c0 c1 c2 c3 c4 c5 c6
    have hbw : b < w.heap.size := by omega
    have IH := hide (unhide HI m hn)
    have HK2 := hide hk2
    have HW2 : Hid (wt (m + 1) (.mk kd2 tx2 nm2 ps2 ty2 rf2 ks2) ≤ 2097152) := by
      have h1 := wt_kid (n := n) (kd := kd) (tx := tx) (nm := nm) (ps := ps) (ty := ty) (rf := rf) ek
      have h2 := unhide HW
      rw [← hn]
      show _ ≤ _
      omega
    have HE := hide ek
    clear hk2 ek
    rcases form_cases kd with rfl | rfl | rfl | rfl | rfl | rfl | rfl | ⟨h9, h10, h11, h12, h13, h14, h15⟩
    all_goals go_enter Tryd.func26, Tryd.ntmps26
    all_goals go_wp2_with (go_at_call 26; refine (unhide IH kd2 tx2 nm2 ps2 ty2 rf2 ks2 a2 cp2 _ ((unhide HK2).below ((Below.refl N w).alloc hN _)) (by simp; omega) hcp2 (unhide HW2)).mono ?_; rintro e w2 ⟨⟨s0, rfl, hs0⟩, hb2⟩; have hz0 := size_of hs0 (unhide HW2); rw [← hn] at hs0; have HS0 := hide hs0; have HB2 := hide (bt2 ((Below.refl _ _).alloc (Nat.le_refl _) _) hb2); have hbl := blk_keep hb2; have x0 := blk_cell hbl 0; have x1 := blk_cell hbl 1; have x6 := blk_cell hbl 6; simp at x0 x1 x6; have HBL := hide hbl; clear hb2 hs0 hbl)
    rotate_left 6
    · have HE2 := hide (getD_map (n := n) (unhide HE))
      go_loopg [4, 5] (kids.length + 1) (fun g v4 v5 wr => ∃ (j : Nat) (t : ByteArray), g = kids.length + 1 - j ∧ j + 1 ≤ kids.length ∧ v5 = .int .i64 j ∧ v4 = .string t ∧ Hid (t.toList = [102, 117, 110, 99, 40] ++ pt (kids.map (ofT n)) j) ∧ Below w.heap.size w wr ∧ wr.heap[w.heap.size]? = some (.cells #[.int .i64 15, .string tx, .int .i64 nm, .int .i64 ps, .string ty, .int .i64 rf, .slice (some ⟨b, off, none⟩) kids.length cp] 33))
      case atStart => exact ⟨0, _, by omega, by omega, rfl, rfl, hide (by simp [pt, mk_toL2]), unhide HB2, unhide HBL⟩
      case round =>
        obtain ⟨j, t, rfl, hj, rfl, rfl, ht, hb, hbl⟩ := hrel
        clear x0 x1 x6
        have x6 := blk_cell hbl 6
        simp at x6
        have hz : t.size ≤ 2097152 := by
          have h1 := pt_len n kids (ofT_len n) j (by omega)
          have h2 := unhide HW
          have h3 : ((kids.take j).map (wt n)).sum ≤ (kids.map (wt n)).sum := sum_take n kids j
          simp only [wt] at h2
          rw [← toL_len, unhide ht]
          simp only [List.length_append, List.length_cons, List.length_nil]
          omega
        have hbs := hb.size
        clear c0 c1 c2 c3 c4 c5 c6
        by_cases hl2 : j + 1 < kids.length
        · have hl2z : (j : Int) + 1 < kids.length := by omega
          obtain ⟨m', b', off', kd3, tx3, nm3, ps3, ty3, rf3, ks3, a3, cp3, hn', hbo, hbN', ek', hcp3, hk3, c0, c1, c2, c3, c4, c5, c6⟩ := ((unhide HK).below (below_in hb hN)).kid (show j < kids.length by omega)
          simp only [Option.some.injEq, Addr.mk.injEq] at hbo
          obtain ⟨rfl, rfl, _⟩ := hbo
          obtain rfl : m' = m := by omega
          have HW3 : Hid (wt (m' + 1) (.mk kd3 tx3 nm3 ps3 ty3 rf3 ks3) ≤ 2097152) := by
            have h1 := wt_kid (n := n) (kd := 15) (tx := tx) (nm := nm) (ps := ps) (ty := ty) (rf := rf) ek'
            have h2 := unhide HW
            rw [← hn]
            show _ ≤ _
            omega
          have HK3 := hide hk3
          have HE3 := hide ek'
          clear hk3 ek'
          by_cases hj0 : 0 < j
          · have hj0z : (0 : Int) < j := by omega
            go_wp2_with (go_at_call 26; refine (unhide IH kd3 tx3 nm3 ps3 ty3 rf3 ks3 a3 cp3 _ (unhide HK3) (by omega) hcp3 (unhide HW3)).mono ?_; rintro e w3 ⟨⟨s3, rfl, hs3⟩, hb3⟩; have hz3 := size_of hs3 (unhide HW3); rw [← hn] at hs3; have HS3 := hide hs3; have HB3 := hide (bt2 hb hb3); have HL3 := hide ((hb3.block _ (blk_lt hbl)).trans hbl); clear hb3 hs3)
            go_roundg (kids.length + 1 - (j + 1))
            case measure => omega
            case rel => exact ⟨j + 1, _, rfl, by omega, by go_num, rfl, hide (by rw [pt, getD_map (unhide HE3)]; simp [toL_app2, mk_toL2, unhide ht, unhide HS3, show ¬ j = 0 by omega]), unhide HB3, unhide HL3⟩
          · have hj0z : ¬ (0 : Int) < j := by omega
            go_wp2_with (go_at_call 26; refine (unhide IH kd3 tx3 nm3 ps3 ty3 rf3 ks3 a3 cp3 _ (unhide HK3) (by omega) hcp3 (unhide HW3)).mono ?_; rintro e w3 ⟨⟨s3, rfl, hs3⟩, hb3⟩; have hz3 := size_of hs3 (unhide HW3); rw [← hn] at hs3; have HS3 := hide hs3; have HB3 := hide (bt2 hb hb3); have HL3 := hide ((hb3.block _ (blk_lt hbl)).trans hbl); clear hb3 hs3)
            go_roundg (kids.length + 1 - (j + 1))
            case measure => omega
            case rel => exact ⟨j + 1, _, rfl, by omega, by go_num, rfl, hide (by rw [pt, getD_map (unhide HE3)]; simp [toL_app2, mk_toL2, unhide ht, unhide HS3, show j = 0 by omega]), unhide HB3, unhide HL3⟩
        · have hl2z : ¬ (j : Int) + 1 < kids.length := by omega
          obtain ⟨m', b', off', kd3, tx3, nm3, ps3, ty3, rf3, ks3, a3, cp3, hn', hbo, hbN', ek', hcp3, hk3, c0, c1, c2, c3, c4, c5, c6⟩ := ((unhide HK).below (below_in hb hN)).kid (show kids.length - 1 < kids.length by omega)
          simp only [Option.some.injEq, Addr.mk.injEq] at hbo
          obtain ⟨rfl, rfl, _⟩ := hbo
          obtain rfl : m' = m := by omega
          have HW3 : Hid (wt (m' + 1) (.mk kd3 tx3 nm3 ps3 ty3 rf3 ks3) ≤ 2097152) := by
            have h1 := wt_kid (n := n) (kd := 15) (tx := tx) (nm := nm) (ps := ps) (ty := ty) (rf := rf) ek'
            have h2 := unhide HW
            rw [← hn]
            show _ ≤ _
            omega
          have HK3 := hide hk3
          have HE3 := hide ek'
          clear hk3 ek'
          have HJ : Hid (kids.length - 1 = j) := by show _ = _; omega
          go_wp2_with (go_at_call 26; refine (unhide IH kd3 tx3 nm3 ps3 ty3 rf3 ks3 a3 cp3 _ (unhide HK3) (by omega) hcp3 (unhide HW3)).mono ?_; rintro e w3 ⟨⟨s3, rfl, hs3⟩, hb3⟩; have hz3 := size_of hs3 (unhide HW3); rw [← hn] at hs3; have HS3 := hide hs3; have HB3 := hide (bt2 hb hb3); clear hb3 hs3)
          go_ret
          refine ⟨⟨_, rfl, ?_⟩, unhide HB3⟩
          have e3 := getD_map (n := n) (unhide HE3)
          rw [unhide HJ] at e3
          rw [ofT_succ]
          simp only [form, List.length_map, unhide HJ, e3, toL_app2, mk_toL2, unhide ht, unhide HS3]
          simp
    all_goals go_wp2
    all_goals go_ret
    all_goals refine ⟨⟨_, rfl, ?_⟩, unhide HB2⟩
    all_goals first | (simp [ofT_succ, form, toL_app2, mk_toL2, unhide HS0, List.getD, unhide HE]; done) | simp [ofT_succ, form, h9, h10, h11, h12, h13, h14, h15]
theorem of_w (N : Nat) : ∀ n, OfP N n := by
  intro n
  induction n with
  | zero => exact of_step N 0 fun m h => by omega
  | succ n ih => exact of_step N (n + 1) fun m h => by obtain rfl : m = n := by omega
                                                       exact ih
end Go.Proofs.YtpmpjbnnjdpbnaaDoor
