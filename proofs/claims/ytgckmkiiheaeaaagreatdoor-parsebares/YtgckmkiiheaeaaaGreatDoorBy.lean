/- The reference's Bare, the law's copied and the code's Bare over trees. -/
import Derived.Test.YtgckmkiiheaeaaaGreatDoorBx
import Derived.Laws.MakeOwn
set_option linter.unusedVariables false
set_option linter.unusedSimpArgs false
namespace Go.Proofs.YtgckmkiiheaeaaaGreatDoor
open Go.RowKit Go.Proofs.YtgckmkiiheaeaaaGreatDoor.Lx

def BareP (F : Nat) (n : Nat) : Prop := ∀ (kd : Int) (tx : ByteArray) (nm ps : Int) (ty : ByteArray) (rf : Int) (kids : List Tr) (a : Option Addr) (cp : Nat) (w : World), KidsT (Old w) w n kids a → kids.length ≤ cp →
    Calls Tryz.prog F #[.agg #[.int .i64 kd, .string tx, .int .i64 nm, .int .i64 ps, .string ty, .int .i64 rf, .slice a kids.length cp]] w fun e w' => (∃ a' cp', e = .returned (.agg #[.int .i64 kd, .string tx, .int .i64 nm, .int .i64 0, .string ⟨#[]⟩, .int .i64 0, .slice a' kids.length cp']) ∧ kids.length ≤ cp' ∧ KidsT (New w.heap.size w') w' n (kids.map (bareT n)) a') ∧ Below w.heap.size w w'
theorem take_map {n j : Nat} {kids : List Tr} {t : Tr} (h : kids[j]? = some t) : (kids.take (j + 1)).map (bareT n) = (kids.take j).map (bareT n) ++ [bareT n t] := by
  rw [List.take_add_one, h]
  simp
theorem below_push {w wr w2 w3 : World} {o : Obj} {r : Option Nat} (h : Below w.heap.size w wr) (h2 : Below wr.heap.size wr w2) (hg : (w2.alloc o).grownBy w3 r) (hr : ∀ x, r = some x → w.heap.size ≤ x) : Below w.heap.size w w3 := by
  have h3 := ba2 (bt2 h h2) o
  exact ⟨hg.os.trans h3.os, hg.tape.trans h3.tape, hg.output.trans h3.output, Nat.le_trans h3.size hg.size, fun k hk => (hg.block k (Nat.lt_of_lt_of_le hk h3.size) (fun e => by have := hr k e.symm; omega)).trans (h3.block k hk)⟩
theorem keep3 {wr w2 w3 : World} {o ob : Obj} {k lo : Nat} {v : Value} (hb : Below wr.heap.size wr w2) (h : wr.heap[k]? = some ob) (hg : (w2.alloc o).grownBy w3 v.ownBlock) (hv : ∀ x, v.ownBlock = some x → lo ≤ x ∧ x < wr.heap.size) (hk : k < lo) : w3.heap[k]? = some ob := by
  have hl := blk_lt h
  have hz := hb.size
  rw [hg.block k (by simp; omega) (fun e => by have := (hv k e.symm).1; omega), Below.heap_alloc _ _ _ (by omega), hb.block k hl]
  exact h
set_option maxRecDepth 100000 in
set_option maxHeartbeats 2000000 in
theorem rbare_step (n : Nat) (ih : ∀ m, n = m + 1 → BareP 12 m) : BareP 12 n := by
  intro kd tx nm ps ty rf kids a cp w hk hcp
  have hfew := hk.1
  have HK := hide hk
  have HI := hide ih
  clear hk ih
  go_enter Tryz.func12, Tryz.ntmps12
  go_wp2
  go_loopg [4] (kids.length + 1) (fun g v4 wr => ∃ (j : Nat) (acc : List Tr) (ao0 : Option Addr) (cp0 : Nat), g = kids.length + 1 - j ∧ j ≤ kids.length ∧ v4 = .int .i64 j ∧ Hid (acc = (kids.take j).map (bareT n)) ∧ Hid (acc.length = j) ∧ Below w.heap.size w wr ∧ wr.heap[w.heap.size]? = some (.cells #[.int .i64 kd, .string tx, .int .i64 nm, .int .i64 ps, .string ty, .int .i64 rf, .slice a kids.length cp] 24) ∧ wr.heap[w.heap.size + 1]? = some (.cells #[.int .i64 0, .string ⟨#[]⟩, .int .i64 0, .int .i64 0, .string ⟨#[]⟩, .int .i64 0, .slice none 0 0] 24) ∧ wr.heap[w.heap.size + 1 + 1]? = some (.cells #[.int .i64 kd, .string tx, .int .i64 nm, .int .i64 0, .string ⟨#[]⟩, .int .i64 0, .slice ao0 acc.length cp0] 24) ∧ Gr wr (w.heap.size + 3) n (.slice ao0 acc.length cp0) acc)
  case atStart => exact ⟨0, [], none, 0, by omega, by omega, rfl, hide (by simp), hide rfl, ba2 (ba2 (ba _ _) _) _, blk_alloc (blk_alloc (heap_alloc_new' _ _ rfl) _) _, blk_alloc (heap_alloc_new' _ _ (by simp)) _, heap_alloc_new' _ _ (by simp), Gr.nil _ _ _⟩
  case round =>
    obtain ⟨j, acc, ao0, cp0, rfl, hj, rfl, HACC, HAL, hb, b0, b1, b2, row0⟩ := hrel
    have hal2 : acc.length ≤ kids.length := by have := unhide HAL; omega
    have x06 := blk_cell b0 6
    have x26 := blk_cell b2 6
    simp at x06 x26
    have hl2 := blk_lt b2
    by_cases hlt : j < kids.length
    · have hltz : (j : Int) < kids.length := by omega
      have hal3 : acc.length + 1 ≤ kids.length := by have := unhide HAL; omega
      obtain ⟨m, b, off, kd2, tx2, nm2, ps2, ty2, rf2, ks2, a2, cp2, hn, rfl, hbN, ek, hcp2, hk2, c0, c1, c2, c3, c4, c5, c6⟩ := ((unhide HK).next hb).kid hlt
      have hbw : b < wr.heap.size := hbN
      have HC : Hid (∀ W, Below wr.heap.size wr W → Calls Tryz.prog 12 #[.agg #[.int .i64 kd2, .string tx2, .int .i64 nm2, .int .i64 ps2, .string ty2, .int .i64 rf2, .slice a2 ks2.length cp2]] W fun e w' => ∃ a3 cp3, e = .returned (.agg #[.int .i64 kd2, .string tx2, .int .i64 nm2, .int .i64 0, .string ⟨#[]⟩, .int .i64 0, .slice a3 ks2.length cp3]) ∧ ks2.length ≤ cp3 ∧ KidsT (New wr.heap.size w') w' m (ks2.map (bareT m)) a3 ∧ Below wr.heap.size wr w') := by
        intro W hW
        refine (unhide HI m hn kd2 tx2 nm2 ps2 ty2 rf2 ks2 a2 cp2 W (hk2.next hW) hcp2).mono ?_
        rintro e w' ⟨⟨a3, cp3, h1, h2, h3⟩, h4⟩
        exact ⟨a3, cp3, h1, h2, h3.same fun k hk => ⟨⟨Nat.le_trans hW.size hk.1, hk.2⟩, rfl⟩, hW.trans (h4.mono hW.size)⟩
      have HB := hide hb
      have HB0 := hide b0
      have HB1 := hide b1
      have HB2 := hide b2
      have HR := hide row0
      have HE := hide ek
      have HN := hide hn
      clear hk2 ek hb b0 b1 b2 row0 hn
      have HOB : Hid (∀ x, (Value.slice ao0 acc.length cp0).ownBlock = some x → w.heap.size + 3 ≤ x ∧ x < wr.heap.size) := (unhide HR).own
      go_wp2
      go_region_law (first
        | (refine step_app7 rfl (.tmp 20) (.tmp 27) rfl (lo := w.heap.size + 3) (n := n) (ao := ao0) (cp := cp0) (l := acc) (t := .mk kd2 tx2 nm2 0 ⟨#[]⟩ 0 (ks2.map (bareT m))) (A := wr.heap.size) (B := w2.heap.size) (g0 := w2.heap.size) (cur := #[.int .i64 kd2, .string tx2, .int .i64 nm2, .int .i64 0, .string ⟨#[]⟩, .int .i64 0, .slice a3 ks2.length cp3]) (by simp [Act.eval]) (unhide HR2 _) (by simp [Act.eval]) (heap_alloc_new' _ _ rfl) (unhide HT2 _) rfl b_one7 (by omega) (by simp; omega) (by omega) (by simp) (fun x hx => (unhide HOB x hx).2) ?_; intro g3 cp4 w3 hrow3 hg3 hlo3 hgl3; have HR3 := hide hrow3; have HG3 := hide hg3; have z3 : w2.heap.size + 1 ≤ w3.heap.size := (by (have := hg3.size; simpa using this)); have HZ3 := hide (unhide HV3 _ w3 hg3); have y26 : w3.cell? ⟨w.heap.size + 1 + 1, 6, none⟩ = some (.slice ao0 acc.length cp0) := blk_cell (unhide HZ3).2.2 6; have f26 : w3.frozen? ⟨w.heap.size + 1 + 1, 6, none⟩ = false := blk_frozen (unhide HZ3).2.2 6; clear hrow3 hg3)
        | (go_simp; go_at_call 12; refine (unhide HC _ (by (repeat' (first | exact Below.refl _ _ | refine Below.drew ?_)))).mono ?_; rintro e w2 ⟨a3, cp3, rfl, hcp3, hk3, hb3⟩; have z2 := hb3.size; have HR2 : Hid (∀ o, Gr (w2.alloc o) (w.heap.size + 3) n (.slice ao0 acc.length cp0) acc) := fun o => (unhide HR).below (ba2 hb3 o); have HT2 : Hid (∀ o, TrC (fun k => wr.heap.size ≤ k ∧ k < w2.heap.size) (w2.alloc o) n (.mk kd2 tx2 nm2 0 ⟨#[]⟩ 0 (ks2.map (bareT m))) #[.int .i64 kd2, .string tx2, .int .i64 nm2, .int .i64 0, .string ⟨#[]⟩, .int .i64 0, .slice a3 ks2.length cp3].toList) := (by intro o; rw [unhide HN]; exact ⟨a3, cp3, by simp, by simpa using hcp3, hk3.same fun k hk => ⟨hk, Below.heap_alloc _ _ _ hk.2⟩⟩); have HV3 : Hid (∀ o w3, (w2.alloc o).grownBy w3 (Value.slice ao0 acc.length cp0).ownBlock → w3.heap[w.heap.size]? = some (.cells #[.int .i64 kd, .string tx, .int .i64 nm, .int .i64 ps, .string ty, .int .i64 rf, .slice (some ⟨b, off, none⟩) kids.length cp] 24) ∧ w3.heap[w.heap.size + 1]? = some (.cells #[.int .i64 0, .string ⟨#[]⟩, .int .i64 0, .int .i64 0, .string ⟨#[]⟩, .int .i64 0, .slice none 0 0] 24) ∧ w3.heap[w.heap.size + 1 + 1]? = some (.cells #[.int .i64 kd, .string tx, .int .i64 nm, .int .i64 0, .string ⟨#[]⟩, .int .i64 0, .slice ao0 acc.length cp0] 24)) := (by intro o w3 hg; exact ⟨keep3 hb3 (unhide HB0) hg (unhide HOB) (by omega), keep3 hb3 (unhide HB1) hg (unhide HOB) (by omega), keep3 hb3 (unhide HB2) hg (unhide HOB) (by omega)⟩); have y2 : w2.cell? ⟨w.heap.size + 1 + 1, 6, none⟩ = some (.slice ao0 acc.length cp0) := blk_cell ((hb3.block _ (blk_lt (unhide HB2))).trans (unhide HB2)) 6; have zlt : w.heap.size + 1 + 1 < w2.heap.size := (by omega); have HB3 := hide hb3; clear hk3 hb3))
      all_goals
        go_wp2
        go_roundg (kids.length + 1 - (j + 1))
        case measure => omega
        case rel =>
          have hlen : (acc ++ [(.mk kd2 tx2 nm2 0 ⟨#[]⟩ 0 (ks2.map (bareT m)) : Tr)]).length = acc.length + 1 := by simp
          refine ⟨j + 1, acc ++ [.mk kd2 tx2 nm2 0 ⟨#[]⟩ 0 (ks2.map (bareT m))], some ⟨g3, 0, none⟩, cp4, rfl, by omega, by go_num, hide ?_, hide ?_, ?_, ?_, ?_, ?_, ?_⟩
          · rw [take_map (unhide HE), ← unhide HACC, unhide HN]; rfl
          · rw [hlen, unhide HAL]
          · exact (below_push (unhide HB) (unhide HB3) (unhide HG3) fun x hx => by have := (unhide HOB x hx).1; omega).setCell (by show _ ≤ w.heap.size + 1 + 1; omega) _
          · exact (Below.heap_setCell _ _ _ _ (by show _ ≠ w.heap.size + 1 + 1; omega)).trans (unhide HZ3).1
          · exact (Below.heap_setCell _ _ _ _ (by show _ ≠ w.heap.size + 1 + 1; omega)).trans (unhide HZ3).2.1
          · rw [hlen]
            exact setCell_blk (unhide HZ3).2.2 6 _
          · rw [hlen]
            exact (unhide HR3).set _ (by show w.heap.size + 1 + 1 < _; omega)
    · have hltz : ¬ (j : Int) < kids.length := by omega
      have hjn : j = kids.length := by omega
      have hfin := hide (show acc = kids.map (bareT n) by rw [unhide HACC, hjn, List.take_length])
      have hle := hide (show kids.length = acc.length by rw [unhide HAL]; exact hjn.symm)
      have y0 : wr.cell? ⟨w.heap.size + 1 + 1, 0, none⟩ = some (.int .i64 kd) := blk_cell b2 0
      have y1 : wr.cell? ⟨w.heap.size + 1 + 1, 1, none⟩ = some (.string tx) := blk_cell b2 1
      have y2 : wr.cell? ⟨w.heap.size + 1 + 1, 2, none⟩ = some (.int .i64 nm) := blk_cell b2 2
      have y3 : wr.cell? ⟨w.heap.size + 1 + 1, 3, none⟩ = some (.int .i64 0) := blk_cell b2 3
      have y4 : wr.cell? ⟨w.heap.size + 1 + 1, 4, none⟩ = some (.string ⟨#[]⟩) := blk_cell b2 4
      have y5 : wr.cell? ⟨w.heap.size + 1 + 1, 5, none⟩ = some (.int .i64 0) := blk_cell b2 5
      have y6 : wr.cell? ⟨w.heap.size + 1 + 1, 6, none⟩ = some (.slice ao0 acc.length cp0) := blk_cell b2 6
      have zc1 := blk_cell b1
      have fz1 := blk_frozen b1
      have HB1 := hide b1
      have HR := hide row0
      clear b0 b1 b2 row0
      go_wp2
      refine bodyPost_ret (v := .agg #[.int .i64 kd, .string tx, .int .i64 nm, .int .i64 0, .string ⟨#[]⟩, .int .i64 0, .slice ao0 acc.length cp0]) (by simp [results, Tryz.results12, go_sem, *]) rfl ⟨⟨ao0, cp0, by rw [unhide hle], by rw [unhide hle]; exact (unhide HR).cap, ?_⟩, b_set7 hb (by omega)⟩
      rw [← unhide hfin]
      exact ((unhide HR).set7 (by omega)).kids.same fun k hk => ⟨⟨by have := hk.1; omega, hk.2⟩, rfl⟩
theorem rbare_w : ∀ n, BareP 12 n := by
  intro n
  induction n with
  | zero => exact rbare_step 0 fun m h => by omega
  | succ n ih => exact rbare_step (n + 1) fun m h => by obtain rfl : m = n := by omega
                                                        exact ih
end Go.Proofs.YtgckmkiiheaeaaaGreatDoor
namespace Go.Proofs.YtgckmkiiheaeaaaGreatDoor
open Go.RowKit Go.Proofs.YtgckmkiiheaeaaaGreatDoor.Lx

def CopyP (n : Nat) : Prop := ∀ (kd : Int) (tx : ByteArray) (nm ps : Int) (ty : ByteArray) (rf : Int) (kids : List Tr) (a : Option Addr) (cp : Nat) (w : World), KidsT (Old w) w n kids a → kids.length ≤ cp →
    Calls Tryz.prog 9 #[.agg #[.int .i64 kd, .string tx, .int .i64 nm, .int .i64 ps, .string ty, .int .i64 rf, .slice a kids.length cp]] w fun e w' => (∃ a' cp', e = .returned (.agg #[.int .i64 kd, .string tx, .int .i64 nm, .int .i64 ps, .string ty, .int .i64 rf, .slice a' kids.length cp']) ∧ kids.length ≤ cp' ∧ KidsT (New w.heap.size w') w' n kids a') ∧ Below w.heap.size w w'
theorem take_one7 {j : Nat} {kids : List Tr} {t : Tr} (h : kids[j]? = some t) : kids.take (j + 1) = kids.take j ++ [t] := by
  rw [List.take_add_one, h]
  simp
theorem keep4 {wr w2 w3 : World} {o ob : Obj} {k lo : Nat} {v : Value} (hb : Below wr.heap.size wr w2) (h : wr.heap[k]? = some ob) (hg : (w2.alloc o).grownBy w3 v.ownBlock) (hv : ∀ x, v.ownBlock = some x → lo ≤ x ∧ x < wr.heap.size) (hk : k < lo) : w3.heap[k]? = some ob := keep3 hb h hg hv hk
set_option maxRecDepth 100000 in
set_option maxHeartbeats 2000000 in
theorem copy_step (n : Nat) (ih : ∀ m, n = m + 1 → CopyP m) : CopyP n := by
  intro kd tx nm ps ty rf kids a cp w hk hcp
  have hfew := hk.1
  have HK := hide hk
  have HI := hide ih
  clear hk ih
  go_enter Tryz.func9, Tryz.ntmps9
  go_wp2
  go_loopg [11] (kids.length + 1) (fun g v11 wr => ∃ (j : Nat) (acc : List Tr) (ao0 : Option Addr) (cp0 : Nat), g = kids.length + 1 - j ∧ j ≤ kids.length ∧ v11 = .int .i64 j ∧ Hid (acc = kids.take j) ∧ Hid (acc.length = j) ∧ Below w.heap.size w wr ∧ wr.heap[w.heap.size]? = some (.cells #[.int .i64 kd, .string tx, .int .i64 nm, .int .i64 ps, .string ty, .int .i64 rf, .slice ao0 acc.length cp0] 24) ∧ wr.heap[w.heap.size + 1]? = some (.cells #[.int .i64 0, .string ⟨#[]⟩, .int .i64 0, .int .i64 0, .string ⟨#[]⟩, .int .i64 0, .slice none 0 0] 24) ∧ Gr wr (w.heap.size + 2) n (.slice ao0 acc.length cp0) acc)
  case atStart =>
    refine ⟨0, [], none, 0, by omega, by omega, rfl, hide (by simp), hide rfl, ?_, ?_, ?_, Gr.nil _ _ _⟩
    · exact ba2 (ba _ _) _
    · exact blk_alloc (heap_alloc_new' _ _ rfl) _
    · exact heap_alloc_new' _ _ (by simp)
  case round =>
    obtain ⟨j, acc, ao0, cp0, rfl, hj, rfl, HACC, HAL, hb, b0, b1, row0⟩ := hrel
    have hal2 : acc.length ≤ kids.length := by have := unhide HAL; omega
    have x06 : wr.cell? ⟨w.heap.size, 6, none⟩ = some (.slice ao0 acc.length cp0) := blk_cell b0 6
    have hl2 := blk_lt b1
    by_cases hlt : j < kids.length
    · have hltz : (j : Int) < kids.length := by omega
      have hal3 : acc.length + 1 ≤ kids.length := by have := unhide HAL; omega
      obtain ⟨m, b, off, kd2, tx2, nm2, ps2, ty2, rf2, ks2, a2, cp2, hn, rfl, hbN, ek, hcp2, hk2, c0, c1, c2, c3, c4, c5, c6⟩ := ((unhide HK).next hb).kid hlt
      have hbw : b < wr.heap.size := hbN
      have HC : Hid (∀ W, Below wr.heap.size wr W → Calls Tryz.prog 9 #[.agg #[.int .i64 kd2, .string tx2, .int .i64 nm2, .int .i64 ps2, .string ty2, .int .i64 rf2, .slice a2 ks2.length cp2]] W fun e w' => ∃ a3 cp3, e = .returned (.agg #[.int .i64 kd2, .string tx2, .int .i64 nm2, .int .i64 ps2, .string ty2, .int .i64 rf2, .slice a3 ks2.length cp3]) ∧ ks2.length ≤ cp3 ∧ KidsT (New wr.heap.size w') w' m ks2 a3 ∧ Below wr.heap.size wr w') := by
        intro W hW
        refine (unhide HI m hn kd2 tx2 nm2 ps2 ty2 rf2 ks2 a2 cp2 W (hk2.next hW) hcp2).mono ?_
        rintro e w' ⟨⟨a3, cp3, h1, h2, h3⟩, h4⟩
        exact ⟨a3, cp3, h1, h2, h3.same fun k hk => ⟨⟨Nat.le_trans hW.size hk.1, hk.2⟩, rfl⟩, hW.trans (h4.mono hW.size)⟩
      have HB := hide hb
      have HB0 := hide b0
      have HB1 := hide b1
      have HR := hide row0
      have HE := hide ek
      have HN := hide hn
      clear hk2 ek hb b0 b1 row0 hn
      have HOB : Hid (∀ x, (Value.slice ao0 acc.length cp0).ownBlock = some x → w.heap.size + 2 ≤ x ∧ x < wr.heap.size) := (unhide HR).own
      have hwl : w.heap.size < wr.heap.size := by omega
      go_wp2
      go_region_law (first
        | (refine step_app7 rfl (.tmp 16) (.tmp 19) rfl (lo := w.heap.size + 2) (n := n) (ao := ao0) (cp := cp0) (l := acc) (t := .mk kd2 tx2 nm2 ps2 ty2 rf2 ks2) (A := wr.heap.size) (B := w2.heap.size) (g0 := w2.heap.size) (cur := #[.int .i64 kd2, .string tx2, .int .i64 nm2, .int .i64 ps2, .string ty2, .int .i64 rf2, .slice a3 ks2.length cp3]) (by simp [Act.eval]) (unhide HR2 _) (by simp [Act.eval]) (heap_alloc_new' _ _ rfl) (unhide HT2 _) rfl b_one7 (by omega) (by simp; omega) (by omega) (by simp) (fun x hx => (unhide HOB x hx).2) ?_; intro g3 cp4 w3 hrow3 hg3 hlo3 hgl3; have HR3 := hide hrow3; have HG3 := hide hg3; have z3 : w2.heap.size + 1 ≤ w3.heap.size := (by (have := hg3.size; simpa using this)); have HZ3 := hide (unhide HV3 _ w3 hg3); have y26 : w3.cell? ⟨w.heap.size, 6, none⟩ = some (.slice ao0 acc.length cp0) := blk_cell (unhide HZ3).1 6; have f26 : w3.frozen? ⟨w.heap.size, 6, none⟩ = false := blk_frozen (unhide HZ3).1 6; clear hrow3 hg3)
        | (go_simp; go_at_call 9; refine (unhide HC _ (by (repeat' (first | exact Below.refl _ _ | refine Below.drew ?_ | refine ba2 ?_ _)))).mono ?_; rintro e w2 ⟨a3, cp3, rfl, hcp3, hk3, hb3⟩; have z2 := hb3.size; have HR2 : Hid (∀ o, Gr (w2.alloc o) (w.heap.size + 2) n (.slice ao0 acc.length cp0) acc) := fun o => (unhide HR).below (ba2 hb3 o); have HT2 : Hid (∀ o, TrC (fun k => wr.heap.size ≤ k ∧ k < w2.heap.size) (w2.alloc o) n (.mk kd2 tx2 nm2 ps2 ty2 rf2 ks2) #[.int .i64 kd2, .string tx2, .int .i64 nm2, .int .i64 ps2, .string ty2, .int .i64 rf2, .slice a3 ks2.length cp3].toList) := (by intro o; rw [unhide HN]; exact ⟨a3, cp3, by simp, hcp3, hk3.same fun k hk => ⟨hk, Below.heap_alloc _ _ _ hk.2⟩⟩); have HV3 : Hid (∀ o w3, (w2.alloc o).grownBy w3 (Value.slice ao0 acc.length cp0).ownBlock → w3.heap[w.heap.size]? = some (.cells #[.int .i64 kd, .string tx, .int .i64 nm, .int .i64 ps, .string ty, .int .i64 rf, .slice ao0 acc.length cp0] 24) ∧ w3.heap[w.heap.size + 1]? = some (.cells #[.int .i64 0, .string ⟨#[]⟩, .int .i64 0, .int .i64 0, .string ⟨#[]⟩, .int .i64 0, .slice none 0 0] 24)) := (by intro o w3 hg; exact ⟨keep3 hb3 (unhide HB0) hg (unhide HOB) (by omega), keep3 hb3 (unhide HB1) hg (unhide HOB) (by omega)⟩); have y2 : w2.cell? ⟨w.heap.size, 6, none⟩ = some (.slice ao0 acc.length cp0) := blk_cell ((hb3.block _ (blk_lt (unhide HB0))).trans (unhide HB0)) 6; have zlt : w.heap.size < w2.heap.size := (by omega); have HB3 := hide hb3; clear hk3 hb3))
      all_goals
        go_wp2
        go_roundg (kids.length + 1 - (j + 1))
        case measure => omega
        case rel =>
          have hlen : (acc ++ [(.mk kd2 tx2 nm2 ps2 ty2 rf2 ks2 : Tr)]).length = acc.length + 1 := by simp
          refine ⟨j + 1, acc ++ [.mk kd2 tx2 nm2 ps2 ty2 rf2 ks2], some ⟨g3, 0, none⟩, cp4, rfl, by omega, by go_num, hide ?_, hide ?_, ?_, ?_, ?_, ?_⟩
          · rw [take_one7 (unhide HE), ← unhide HACC]
          · rw [hlen, unhide HAL]
          · exact (below_push (unhide HB) (unhide HB3) (unhide HG3) fun x hx => by have := (unhide HOB x hx).1; omega).setCell (p := ⟨w.heap.size, 6, none⟩) (Nat.le_refl _) _
          · rw [hlen]
            exact setCell_blk (unhide HZ3).1 6 _
          · exact (Below.heap_setCell _ _ _ _ (by show _ ≠ w.heap.size; omega)).trans (unhide HZ3).2
          · rw [hlen]
            exact (unhide HR3).set _ (by show w.heap.size < _; omega)
    · have hltz : ¬ (j : Int) < kids.length := by omega
      have hjn : j = kids.length := by omega
      have hfin := hide (show acc = kids by rw [unhide HACC, hjn, List.take_length])
      have hle := hide (show kids.length = acc.length by rw [unhide HAL]; exact hjn.symm)
      have y0 : wr.cell? ⟨w.heap.size, 0, none⟩ = some (.int .i64 kd) := blk_cell b0 0
      have y1 : wr.cell? ⟨w.heap.size, 1, none⟩ = some (.string tx) := blk_cell b0 1
      have y2 : wr.cell? ⟨w.heap.size, 2, none⟩ = some (.int .i64 nm) := blk_cell b0 2
      have y3 : wr.cell? ⟨w.heap.size, 3, none⟩ = some (.int .i64 ps) := blk_cell b0 3
      have y4 : wr.cell? ⟨w.heap.size, 4, none⟩ = some (.string ty) := blk_cell b0 4
      have y5 : wr.cell? ⟨w.heap.size, 5, none⟩ = some (.int .i64 rf) := blk_cell b0 5
      have zc1 := blk_cell b1
      have fz1 := blk_frozen b1
      have HR := hide row0
      clear b0 b1 row0
      go_wp2
      refine bodyPost_ret (v := .agg #[.int .i64 kd, .string tx, .int .i64 nm, .int .i64 ps, .string ty, .int .i64 rf, .slice ao0 acc.length cp0]) (by simp [results, Tryz.results9, go_sem, *]) rfl ⟨⟨ao0, cp0, by rw [unhide hle], by rw [unhide hle]; exact (unhide HR).cap, ?_⟩, b_set7 hb (by omega)⟩
      rw [← unhide hfin]
      exact ((unhide HR).set7 (by omega)).kids.same fun k hk => ⟨⟨by have := hk.1; omega, hk.2⟩, rfl⟩
theorem copy_w : ∀ n, CopyP n := by
  intro n
  induction n with
  | zero => exact copy_step 0 fun m h => by omega
  | succ n ih => exact copy_step (n + 1) fun m h => by obtain rfl : m = n := by omega
                                                       exact ih
end Go.Proofs.YtgckmkiiheaeaaaGreatDoor
namespace Go.Proofs.YtgckmkiiheaeaaaGreatDoor
open Go.RowKit Go.Proofs.YtgckmkiiheaeaaaGreatDoor.Lx

theorem made7 (n : Nat) (hn : n ≤ 1599289640354) : ∃ cur : Array Value, cur.size = n * 7 ∧ ∀ w : World, (Instr.makeSlice 22 (.int .i64 (n : Int)) (.int .i64 (n : Int))).run Tryz.prog w = .ok (.slice (some ⟨w.heap.size, 0, none⟩) n n) (w.alloc (.cells cur 24)) := by
  obtain ⟨i0, hi0, hz0, hz1, hz2⟩ := b_parts b_info24
  refine ⟨madeCells (Value.agg #[.int .i64 0, .string ⟨#[]⟩, .int .i64 0, .int .i64 0, .string ⟨#[]⟩, .int .i64 0, .slice none 0 0]).cells (n * 7), size_madeCells _ _, fun w => ?_⟩
  have h := run_make (P := Tryz.prog) w 22 24 i0 _ Tryz.underlying22 hi0 hz0 .i64 .i64 n n (by omega) (Int.le_refl _) (by rw [hz2]; omega) (by omega)
  rw [hz1] at h
  simp only [Int.toNat_natCast] at h
  exact h
def put7 (cur : Array Value) (p : Nat) (v0 v1 v2 v3 v4 v5 v6 : Value) : Array Value := ((((((cur.setIfInBounds p v0).setIfInBounds (p + 1) v1).setIfInBounds (p + 2) v2).setIfInBounds (p + 3) v3).setIfInBounds (p + 4) v4).setIfInBounds (p + 5) v5).setIfInBounds (p + 6) v6
theorem put7_size {cur : Array Value} {p : Nat} {v0 v1 v2 v3 v4 v5 v6 : Value} : (put7 cur p v0 v1 v2 v3 v4 v5 v6).size = cur.size := by simp [put7]
theorem put7_lt {cur : Array Value} {p i : Nat} {v0 v1 v2 v3 v4 v5 v6 : Value} (h : i < p) : (put7 cur p v0 v1 v2 v3 v4 v5 v6)[i]? = cur[i]? := by
  unfold put7
  repeat rw [Array.getElem?_setIfInBounds_ne (by omega)]
theorem put7_at {cur : Array Value} {p k : Nat} {v0 v1 v2 v3 v4 v5 v6 u : Value} (h : p + 6 < cur.size) (hk : [v0, v1, v2, v3, v4, v5, v6][k]? = some u) : (put7 cur p v0 v1 v2 v3 v4 v5 v6)[p + k]? = some u := by
  have hk7 : k < 7 := by
    rcases Nat.lt_or_ge k 7 with h | h
    · exact h
    · rw [List.getElem?_eq_none (by simpa using h)] at hk; cases hk
  have : k = 0 ∨ k = 1 ∨ k = 2 ∨ k = 3 ∨ k = 4 ∨ k = 5 ∨ k = 6 := by omega
  unfold put7
  rcases this with rfl | rfl | rfl | rfl | rfl | rfl | rfl <;> simp at hk <;> subst hk <;> simp [Array.getElem?_setIfInBounds] <;> omega
theorem b_put7 {w : World} {g t : Nat} {cur : Array Value} (h : w.heap[g]? = some (.cells cur t)) (p : Nat) (v0 v1 v2 v3 v4 v5 v6 : Value) : (((((((w.setCell ⟨g, p, none⟩ v0).setCell ⟨g, p + 1, none⟩ v1).setCell ⟨g, p + 2, none⟩ v2).setCell ⟨g, p + 3, none⟩ v3).setCell ⟨g, p + 4, none⟩ v4).setCell ⟨g, p + 5, none⟩ v5).setCell ⟨g, p + 6, none⟩ v6).heap[g]? = some (.cells (put7 cur p v0 v1 v2 v3 v4 v5 v6) t) :=
  setCell_blk (setCell_blk (setCell_blk (setCell_blk (setCell_blk (setCell_blk (setCell_blk h p v0) (p + 1) v1) (p + 2) v2) (p + 3) v3) (p + 4) v4) (p + 5) v5) (p + 6) v6
theorem b_far7 {w : World} {g p k : Nat} {v0 v1 v2 v3 v4 v5 v6 : Value} (h : k ≠ g) : (((((((w.setCell ⟨g, p, none⟩ v0).setCell ⟨g, p + 1, none⟩ v1).setCell ⟨g, p + 2, none⟩ v2).setCell ⟨g, p + 3, none⟩ v3).setCell ⟨g, p + 4, none⟩ v4).setCell ⟨g, p + 5, none⟩ v5).setCell ⟨g, p + 6, none⟩ v6).heap[k]? = w.heap[k]? := by
  repeat rw [Below.heap_setCell _ _ _ _ (show k ≠ g from h)]
theorem b_size7 {w : World} {g p : Nat} {v0 v1 v2 v3 v4 v5 v6 : Value} : (((((((w.setCell ⟨g, p, none⟩ v0).setCell ⟨g, p + 1, none⟩ v1).setCell ⟨g, p + 2, none⟩ v2).setCell ⟨g, p + 3, none⟩ v3).setCell ⟨g, p + 4, none⟩ v4).setCell ⟨g, p + 5, none⟩ v5).setCell ⟨g, p + 6, none⟩ v6).heap.size = w.heap.size := by simp [World.setCell]
theorem b_sets {w0 w : World} {B g p : Nat} {v0 v1 v2 v3 v4 v5 v6 : Value} (h : Below B w0 w) (hk : B ≤ g) : Below B w0 (((((((w.setCell ⟨g, p, none⟩ v0).setCell ⟨g, p + 1, none⟩ v1).setCell ⟨g, p + 2, none⟩ v2).setCell ⟨g, p + 3, none⟩ v3).setCell ⟨g, p + 4, none⟩ v4).setCell ⟨g, p + 5, none⟩ v5).setCell ⟨g, p + 6, none⟩ v6) :=
  ((((((h.setCell (p := ⟨g, p, none⟩) hk _).setCell (p := ⟨g, p + 1, none⟩) hk _).setCell (p := ⟨g, p + 2, none⟩) hk _).setCell (p := ⟨g, p + 3, none⟩) hk _).setCell (p := ⟨g, p + 4, none⟩) hk _).setCell (p := ⟨g, p + 5, none⟩) hk _).setCell (p := ⟨g, p + 6, none⟩) hk _
theorem b_far8 {w : World} {g k : Nat} {v0 v1 v2 v3 v4 v5 v6 : Value} (h : k ≠ g) : (((((((w.setCell ⟨g, 0, none⟩ v0).setCell ⟨g, 1, none⟩ v1).setCell ⟨g, 2, none⟩ v2).setCell ⟨g, 3, none⟩ v3).setCell ⟨g, 4, none⟩ v4).setCell ⟨g, 5, none⟩ v5).setCell ⟨g, 6, none⟩ v6).heap[k]? = w.heap[k]? := by
  repeat rw [Below.heap_setCell _ _ _ _ (show k ≠ g from h)]
theorem b_size8 {w : World} {g : Nat} {v0 v1 v2 v3 v4 v5 v6 : Value} : (((((((w.setCell ⟨g, 0, none⟩ v0).setCell ⟨g, 1, none⟩ v1).setCell ⟨g, 2, none⟩ v2).setCell ⟨g, 3, none⟩ v3).setCell ⟨g, 4, none⟩ v4).setCell ⟨g, 5, none⟩ v5).setCell ⟨g, 6, none⟩ v6).heap.size = w.heap.size := by simp [World.setCell]
theorem RowX.snoc {C D : Tr → List Value → Prop} {l : List Tr} {t : Tr} {c : List Value} {f g : Nat → Option Value} (h : RowX C l f) (hc : ∀ t cs, C t cs → D t cs) (hf : ∀ i u, i < l.length * 7 → f i = some u → g i = some u) (hd : D t c) (h7 : c.length = 7) (hg : ∀ k u, c[k]? = some u → g (l.length * 7 + k) = some u) : RowX D (l ++ [t]) g := fun j hj => by
  rw [List.length_append, List.length_cons, List.length_nil] at hj
  by_cases hjl : j < l.length
  · obtain ⟨cs, q1, q2, q3⟩ := h j hjl
    refine ⟨cs, by rw [List.getElem_append_left hjl]; exact hc _ _ q1, q2, fun k u hk => hf _ _ ?_ (q3 k u hk)⟩
    have : k < cs.length := by
      rcases Nat.lt_or_ge k cs.length with h | h
      · exact h
      · rw [List.getElem?_eq_none h] at hk; cases hk
    omega
  · obtain rfl : j = l.length := by omega
    exact ⟨c, by simpa using hd, h7, hg⟩
theorem seven (cur : Array Value) (p : Nat) (h : p + 6 < cur.size) : ∃ u0 u1 u2 u3 u4 u5 u6, cur[p]? = some u0 ∧ cur[p + 1]? = some u1 ∧ cur[p + 2]? = some u2 ∧ cur[p + 3]? = some u3 ∧ cur[p + 4]? = some u4 ∧ cur[p + 5]? = some u5 ∧ cur[p + 6]? = some u6 :=
  ⟨_, _, _, _, _, _, _, Array.getElem?_eq_getElem (by omega), Array.getElem?_eq_getElem (by omega), Array.getElem?_eq_getElem (by omega), Array.getElem?_eq_getElem (by omega), Array.getElem?_eq_getElem (by omega), Array.getElem?_eq_getElem (by omega), Array.getElem?_eq_getElem (by omega)⟩
/-- How the code's Bare begins its loop. -/
def BareS (w W : World) (nd cur out : Array Value) (G B : Nat) : Prop :=
  Below w.heap.size w W ∧ W.heap[w.heap.size]? = some (.cells nd 24) ∧ W.heap[w.heap.size + 1]? = some (.cells #[.int .i64 0, .string ⟨#[]⟩, .int .i64 0, .int .i64 0, .string ⟨#[]⟩, .int .i64 0, .slice none 0 0] 24) ∧ W.heap[G]? = some (.cells cur 24) ∧ W.heap[B]? = some (.cells out 24) ∧ w.heap.size + 2 ≤ G ∧ w.heap.size + 2 ≤ B ∧ G ≠ B
theorem bs1 (w : World) (nd cur out : Array Value) : BareS w ((((w.alloc (.cells nd 24)).alloc (.cells #[.int .i64 0, .string ⟨#[]⟩, .int .i64 0, .int .i64 0, .string ⟨#[]⟩, .int .i64 0, .slice none 0 0] 24)).alloc (.cells cur 24)).alloc (.cells out 24)).drew nd cur out (w.heap.size + 1 + 1) (w.heap.size + 1 + 1 + 1) :=
  ⟨(ba2 (ba2 (ba2 (ba _ _) _) _) _).drew, blk_alloc (blk_alloc (blk_alloc (heap_alloc_new' _ _ rfl) _) _) _, blk_alloc (blk_alloc (heap_alloc_new' _ _ (by simp)) _) _, blk_alloc (heap_alloc_new' _ _ (by simp)) _, heap_alloc_new' _ _ (by simp), by omega, by omega, by omega⟩
theorem bs2 (w : World) (nd cur out : Array Value) : BareS w ((((w.alloc (.cells nd 24)).alloc (.cells #[.int .i64 0, .string ⟨#[]⟩, .int .i64 0, .int .i64 0, .string ⟨#[]⟩, .int .i64 0, .slice none 0 0] 24)).alloc (.cells out 24)).alloc (.cells cur 24)).drew nd cur out (w.heap.size + 1 + 1 + 1) (w.heap.size + 1 + 1) :=
  ⟨(ba2 (ba2 (ba2 (ba _ _) _) _) _).drew, blk_alloc (blk_alloc (blk_alloc (heap_alloc_new' _ _ rfl) _) _) _, blk_alloc (blk_alloc (heap_alloc_new' _ _ (by simp)) _) _, heap_alloc_new' _ _ (by simp), blk_alloc (heap_alloc_new' _ _ (by simp)) _, by omega, by omega, by omega⟩
set_option maxRecDepth 100000 in
set_option maxHeartbeats 2000000 in
theorem bare_step (n : Nat) (ih : ∀ m, n = m + 1 → BareP 10 m) : BareP 10 n := by
  intro kd tx nm ps ty rf kids a cp w hk hcp
  have hfew := hk.1
  obtain ⟨cur0, hcs, hmk⟩ := made7 kids.length hk.1
  have HK := hide hk
  have HI := hide ih
  have HCS := hide hcs
  clear hk ih hcs
  go_enter Tryz.func10, Tryz.ntmps10
  go_wp2
  go_region
  · have F := bs1 w #[.int .i64 kd, .string tx, .int .i64 nm, .int .i64 ps, .string ty, .int .i64 rf, .slice a kids.length cp] cur0 #[.int .i64 kd, .string tx, .int .i64 nm, .int .i64 0, .string ⟨#[]⟩, .int .i64 0, .slice (some ⟨w.heap.size + 1 + 1, 0, none⟩) kids.length kids.length]
    generalize ((((w.alloc (.cells #[.int .i64 kd, .string tx, .int .i64 nm, .int .i64 ps, .string ty, .int .i64 rf, .slice a kids.length cp] 24)).alloc (.cells #[.int .i64 0, .string ⟨#[]⟩, .int .i64 0, .int .i64 0, .string ⟨#[]⟩, .int .i64 0, .slice none 0 0] 24)).alloc (.cells cur0 24)).alloc (.cells #[.int .i64 kd, .string tx, .int .i64 nm, .int .i64 0, .string ⟨#[]⟩, .int .i64 0, .slice (some ⟨w.heap.size + 1 + 1, 0, none⟩) kids.length kids.length] 24)).drew = W1 at F ⊢
    generalize w.heap.size + 1 + 1 + 1 = B3 at F ⊢
    generalize w.heap.size + 1 + 1 = G at F ⊢
    obtain ⟨hb0, f0, f1, f2, f3, hG, hB3, hGB⟩ := F
    have x6 : W1.cell? ⟨w.heap.size, 6, none⟩ = some (.slice a kids.length cp) := blk_cell f0 6
    clear hmk
    go_wp2
    go_loopg [20] (kids.length + 1) (fun g v20 wr => ∃ (j : Nat) (acc : List Tr) (cur : Array Value), g = kids.length + 1 - j ∧ j ≤ kids.length ∧ v20 = .int .i64 j ∧ Hid (acc = (kids.take j).map (bareT n)) ∧ Hid (acc.length = j) ∧ Below w.heap.size w wr ∧ wr.heap[w.heap.size + 1]? = some (.cells #[.int .i64 0, .string ⟨#[]⟩, .int .i64 0, .int .i64 0, .string ⟨#[]⟩, .int .i64 0, .slice none 0 0] 24) ∧ wr.heap[B3]? = some (.cells #[.int .i64 kd, .string tx, .int .i64 nm, .int .i64 0, .string ⟨#[]⟩, .int .i64 0, .slice (some ⟨G, 0, none⟩) kids.length kids.length] 24) ∧ wr.heap[G]? = some (.cells cur 24) ∧ Hid (cur.size = kids.length * 7) ∧ Hid (RowX (TrC (fun k => New (w.heap.size + 2) wr k ∧ k ≠ G) wr n) acc fun i => cur[i]?))
    case atStart => exact ⟨0, [], cur0, by omega, by omega, rfl, hide (by simp), hide rfl, hb0, f1, f3, f2, HCS, hide fun j hj => by simp at hj⟩
    case round =>
      obtain ⟨j, acc, cur, rfl, hj, rfl, HACC, HAL, hb, b1, b3, bG, HSZ, HX⟩ := hrel
      have x36 : wr.cell? ⟨B3, 6, none⟩ = some (.slice (some ⟨G, 0, none⟩) kids.length kids.length) := blk_cell b3 6
      have hl1 := blk_lt b1
      have hl3 := blk_lt b3
      have hlG := blk_lt bG
      by_cases hlt : j < kids.length
      · have hltz : (j : Int) < kids.length := by omega
        obtain ⟨m, b, off, kd2, tx2, nm2, ps2, ty2, rf2, ks2, a2, cp2, hn, ea, hbN, ek, hcp2, hk2, c0, c1, c2, c3, c4, c5, c6⟩ := ((unhide HK).next hb).kid hlt
        subst ea
        have hbw : b < wr.heap.size := hbN
        have HC : Hid (∀ W, Below wr.heap.size wr W → Calls Tryz.prog 10 #[.agg #[.int .i64 kd2, .string tx2, .int .i64 nm2, .int .i64 ps2, .string ty2, .int .i64 rf2, .slice a2 ks2.length cp2]] W fun e w' => ∃ a3 cp3, e = .returned (.agg #[.int .i64 kd2, .string tx2, .int .i64 nm2, .int .i64 0, .string ⟨#[]⟩, .int .i64 0, .slice a3 ks2.length cp3]) ∧ ks2.length ≤ cp3 ∧ KidsT (New wr.heap.size w') w' m (ks2.map (bareT m)) a3 ∧ Below wr.heap.size wr w') := by
          intro W hW
          refine (unhide HI m hn kd2 tx2 nm2 ps2 ty2 rf2 ks2 a2 cp2 W (hk2.next hW) hcp2).mono ?_
          rintro e w' ⟨⟨a3, cp3, h1, h2, h3⟩, h4⟩
          exact ⟨a3, cp3, h1, h2, h3.same fun k hk => ⟨⟨Nat.le_trans hW.size hk.1, hk.2⟩, rfl⟩, hW.trans (h4.mono hW.size)⟩
        obtain ⟨u0, u1, u2, u3, u4, u5, u6, e0, e1, e2, e3, e4, e5, e6⟩ := seven cur (j * 7) (by have := unhide HSZ; omega)
        have HE7 := hide (And.intro e0 (And.intro e1 (And.intro e2 (And.intro e3 (And.intro e4 (And.intro e5 e6))))))
        have HB := hide hb
        have HB1 := hide b1
        have HB3 := hide b3
        have HBG := hide bG
        have HE := hide ek
        have HN := hide hn
        clear hk2 ek hb b1 b3 bG hn e0 e1 e2 e3 e4 e5 e6
        go_wp2
        go_region_law (go_simp; go_at_call 10; refine (unhide HC _ (by (repeat' (first | exact Below.refl _ _ | refine Below.drew ?_ | refine ba2 ?_ _)))).mono ?_; rintro e w2 ⟨a3, cp3, rfl, hcp3, hk3, hb3⟩; have z2 := hb3.size; have HK3 := hide hk3; have HW2 := hide hb3; have HC3 := hide hcp3; have y36 : w2.cell? ⟨B3, 6, none⟩ = some (.slice (some ⟨G, 0, none⟩) kids.length kids.length) := blk_cell ((hb3.block _ (blk_lt (unhide HB3))).trans (unhide HB3)) 6; have hgb := (hb3.block _ (blk_lt (unhide HBG))).trans (unhide HBG); have HG2 := hide hgb; have fz := blk_frozen hgb; obtain ⟨q0, q1, q2, q3, q4, q5, q6⟩ := (show w2.cell? ⟨G, j * 7, none⟩ = some u0 ∧ w2.cell? ⟨G, j * 7 + 1, none⟩ = some u1 ∧ w2.cell? ⟨G, j * 7 + 2, none⟩ = some u2 ∧ w2.cell? ⟨G, j * 7 + 3, none⟩ = some u3 ∧ w2.cell? ⟨G, j * 7 + 4, none⟩ = some u4 ∧ w2.cell? ⟨G, j * 7 + 5, none⟩ = some u5 ∧ w2.cell? ⟨G, j * 7 + 6, none⟩ = some u6 from ⟨(blk_cell hgb _).trans (unhide HE7).1, (blk_cell hgb _).trans (unhide HE7).2.1, (blk_cell hgb _).trans (unhide HE7).2.2.1, (blk_cell hgb _).trans (unhide HE7).2.2.2.1, (blk_cell hgb _).trans (unhide HE7).2.2.2.2.1, (blk_cell hgb _).trans (unhide HE7).2.2.2.2.2.1, (blk_cell hgb _).trans (unhide HE7).2.2.2.2.2.2⟩); clear hk3 hb3 hcp3 hgb)
        all_goals
          go_wp2
          go_roundg (kids.length + 1 - (j + 1))
          case measure => omega
          case rel =>
            have hz7 : j * 7 + 6 < cur.size := by have := unhide HSZ; omega
            refine ⟨j + 1, acc ++ [.mk kd2 tx2 nm2 0 ⟨#[]⟩ 0 (ks2.map (bareT m))], _, rfl, by omega, by go_num, hide ?_, hide ?_, b_sets (bt2 (unhide HB) (unhide HW2)) (by omega), ?_, ?_, b_put7 (unhide HG2) _ _ _ _ _ _ _ _, hide ?_, hide ?_⟩
            · rw [take_map (unhide HE), ← unhide HACC, unhide HN]; rfl
            · rw [List.length_append, unhide HAL]; rfl
            · exact (b_far7 (by omega)).trans (((unhide HW2).block _ (by omega)).trans (unhide HB1))
            · exact (b_far7 (by omega)).trans (((unhide HW2).block _ (by omega)).trans (unhide HB3))
            · rw [put7_size]; exact unhide HSZ
            · have hal := unhide HAL
              refine (unhide HX).snoc (c := [.int .i64 kd2, .string tx2, .int .i64 nm2, .int .i64 0, .string ⟨#[]⟩, .int .i64 0, .slice a3 ks2.length cp3]) (fun t cs hc => hc.same fun k hk => ⟨⟨⟨hk.1.1, by have := hk.1.2; rw [b_size7]; omega⟩, hk.2⟩, (b_far7 hk.2).trans ((unhide HW2).block _ hk.1.2)⟩) (fun i u hi hu => ?_) ?_ rfl (fun k u hk => ?_)
              · rw [hal] at hi
                rw [put7_lt hi]; exact hu
              · rw [unhide HN]
                refine ⟨a3, cp3, by simp, by simpa using unhide HC3, (unhide HK3).same fun k hk => ?_⟩
                have hkG : k ≠ G := by have := hk.1; omega
                exact ⟨⟨⟨by have := hk.1; omega, by rw [b_size7]; exact hk.2⟩, hkG⟩, b_far7 hkG⟩
              · rw [hal]
                exact put7_at hz7 hk
      · have hltz : ¬ (j : Int) < kids.length := by omega
        have hjn : j = kids.length := by omega
        have hfin := hide (show acc = kids.map (bareT n) by rw [unhide HACC, hjn, List.take_length])
        have hle := hide (show kids.length = acc.length by rw [unhide HAL]; exact hjn.symm)
        have y0 : wr.cell? ⟨B3, 0, none⟩ = some (.int .i64 kd) := blk_cell b3 0
        have y1 : wr.cell? ⟨B3, 1, none⟩ = some (.string tx) := blk_cell b3 1
        have y2 : wr.cell? ⟨B3, 2, none⟩ = some (.int .i64 nm) := blk_cell b3 2
        have y3 : wr.cell? ⟨B3, 3, none⟩ = some (.int .i64 0) := blk_cell b3 3
        have y4 : wr.cell? ⟨B3, 4, none⟩ = some (.string ⟨#[]⟩) := blk_cell b3 4
        have y5 : wr.cell? ⟨B3, 5, none⟩ = some (.int .i64 0) := blk_cell b3 5
        have zc1 := blk_cell b1
        have fz1 := blk_frozen b1
        have HBG := hide bG
        have hne1 : B3 ≠ w.heap.size + 1 := by omega
        clear b1 b3 bG
        go_wp2
        refine bodyPost_ret (v := .agg #[.int .i64 kd, .string tx, .int .i64 nm, .int .i64 0, .string ⟨#[]⟩, .int .i64 0, .slice (some ⟨G, 0, none⟩) kids.length kids.length]) (by simp [results, Tryz.results10, go_sem, *]) rfl ⟨⟨some ⟨G, 0, none⟩, kids.length, rfl, Nat.le_refl _, ?_⟩, b_set7 hb (by omega)⟩
        rw [← unhide hfin]
        refine ⟨by rw [← unhide hle]; exact hfew, fun _ => ⟨G, 0, rfl, ⟨by omega, by rw [b_size8]; exact hlG⟩, ?_⟩⟩
        refine (unhide HX).imp (fun t cs hc => hc.same fun k hk => ⟨⟨by have := hk.1.1; omega, by rw [b_size8]; exact hk.1.2⟩, b_far8 (by have := hk.1.1; omega)⟩) fun i u hu => ?_
        rw [Nat.zero_add, World.cell?_of_block (w := wr) (b_far8 (by show G ≠ _; omega)), blk_cell (unhide HBG)]
        exact hu
  · have F := bs2 w #[.int .i64 kd, .string tx, .int .i64 nm, .int .i64 ps, .string ty, .int .i64 rf, .slice a kids.length cp] cur0 #[.int .i64 kd, .string tx, .int .i64 nm, .int .i64 0, .string ⟨#[]⟩, .int .i64 0, .slice (some ⟨w.heap.size + 1 + 1 + 1, 0, none⟩) kids.length kids.length]
    generalize ((((w.alloc (.cells #[.int .i64 kd, .string tx, .int .i64 nm, .int .i64 ps, .string ty, .int .i64 rf, .slice a kids.length cp] 24)).alloc (.cells #[.int .i64 0, .string ⟨#[]⟩, .int .i64 0, .int .i64 0, .string ⟨#[]⟩, .int .i64 0, .slice none 0 0] 24)).alloc (.cells #[.int .i64 kd, .string tx, .int .i64 nm, .int .i64 0, .string ⟨#[]⟩, .int .i64 0, .slice (some ⟨w.heap.size + 1 + 1 + 1, 0, none⟩) kids.length kids.length] 24)).alloc (.cells cur0 24)).drew = W1 at F ⊢
    generalize w.heap.size + 1 + 1 + 1 = G at F ⊢
    generalize w.heap.size + 1 + 1 = B3 at F ⊢
    obtain ⟨hb0, f0, f1, f2, f3, hG, hB3, hGB⟩ := F
    have x6 : W1.cell? ⟨w.heap.size, 6, none⟩ = some (.slice a kids.length cp) := blk_cell f0 6
    clear hmk
    go_wp2
    go_loopg [20] (kids.length + 1) (fun g v20 wr => ∃ (j : Nat) (acc : List Tr) (cur : Array Value), g = kids.length + 1 - j ∧ j ≤ kids.length ∧ v20 = .int .i64 j ∧ Hid (acc = (kids.take j).map (bareT n)) ∧ Hid (acc.length = j) ∧ Below w.heap.size w wr ∧ wr.heap[w.heap.size + 1]? = some (.cells #[.int .i64 0, .string ⟨#[]⟩, .int .i64 0, .int .i64 0, .string ⟨#[]⟩, .int .i64 0, .slice none 0 0] 24) ∧ wr.heap[B3]? = some (.cells #[.int .i64 kd, .string tx, .int .i64 nm, .int .i64 0, .string ⟨#[]⟩, .int .i64 0, .slice (some ⟨G, 0, none⟩) kids.length kids.length] 24) ∧ wr.heap[G]? = some (.cells cur 24) ∧ Hid (cur.size = kids.length * 7) ∧ Hid (RowX (TrC (fun k => New (w.heap.size + 2) wr k ∧ k ≠ G) wr n) acc fun i => cur[i]?))
    case atStart => exact ⟨0, [], cur0, by omega, by omega, rfl, hide (by simp), hide rfl, hb0, f1, f3, f2, HCS, hide fun j hj => by simp at hj⟩
    case round =>
      obtain ⟨j, acc, cur, rfl, hj, rfl, HACC, HAL, hb, b1, b3, bG, HSZ, HX⟩ := hrel
      have x36 : wr.cell? ⟨B3, 6, none⟩ = some (.slice (some ⟨G, 0, none⟩) kids.length kids.length) := blk_cell b3 6
      have hl1 := blk_lt b1
      have hl3 := blk_lt b3
      have hlG := blk_lt bG
      by_cases hlt : j < kids.length
      · have hltz : (j : Int) < kids.length := by omega
        obtain ⟨m, b, off, kd2, tx2, nm2, ps2, ty2, rf2, ks2, a2, cp2, hn, ea, hbN, ek, hcp2, hk2, c0, c1, c2, c3, c4, c5, c6⟩ := ((unhide HK).next hb).kid hlt
        subst ea
        have hbw : b < wr.heap.size := hbN
        have HC : Hid (∀ W, Below wr.heap.size wr W → Calls Tryz.prog 10 #[.agg #[.int .i64 kd2, .string tx2, .int .i64 nm2, .int .i64 ps2, .string ty2, .int .i64 rf2, .slice a2 ks2.length cp2]] W fun e w' => ∃ a3 cp3, e = .returned (.agg #[.int .i64 kd2, .string tx2, .int .i64 nm2, .int .i64 0, .string ⟨#[]⟩, .int .i64 0, .slice a3 ks2.length cp3]) ∧ ks2.length ≤ cp3 ∧ KidsT (New wr.heap.size w') w' m (ks2.map (bareT m)) a3 ∧ Below wr.heap.size wr w') := by
          intro W hW
          refine (unhide HI m hn kd2 tx2 nm2 ps2 ty2 rf2 ks2 a2 cp2 W (hk2.next hW) hcp2).mono ?_
          rintro e w' ⟨⟨a3, cp3, h1, h2, h3⟩, h4⟩
          exact ⟨a3, cp3, h1, h2, h3.same fun k hk => ⟨⟨Nat.le_trans hW.size hk.1, hk.2⟩, rfl⟩, hW.trans (h4.mono hW.size)⟩
        obtain ⟨u0, u1, u2, u3, u4, u5, u6, e0, e1, e2, e3, e4, e5, e6⟩ := seven cur (j * 7) (by have := unhide HSZ; omega)
        have HE7 := hide (And.intro e0 (And.intro e1 (And.intro e2 (And.intro e3 (And.intro e4 (And.intro e5 e6))))))
        have HB := hide hb
        have HB1 := hide b1
        have HB3 := hide b3
        have HBG := hide bG
        have HE := hide ek
        have HN := hide hn
        clear hk2 ek hb b1 b3 bG hn e0 e1 e2 e3 e4 e5 e6
        go_wp2
        go_region_law (go_simp; go_at_call 10; refine (unhide HC _ (by (repeat' (first | exact Below.refl _ _ | refine Below.drew ?_ | refine ba2 ?_ _)))).mono ?_; rintro e w2 ⟨a3, cp3, rfl, hcp3, hk3, hb3⟩; have z2 := hb3.size; have HK3 := hide hk3; have HW2 := hide hb3; have HC3 := hide hcp3; have y36 : w2.cell? ⟨B3, 6, none⟩ = some (.slice (some ⟨G, 0, none⟩) kids.length kids.length) := blk_cell ((hb3.block _ (blk_lt (unhide HB3))).trans (unhide HB3)) 6; have hgb := (hb3.block _ (blk_lt (unhide HBG))).trans (unhide HBG); have HG2 := hide hgb; have fz := blk_frozen hgb; obtain ⟨q0, q1, q2, q3, q4, q5, q6⟩ := (show w2.cell? ⟨G, j * 7, none⟩ = some u0 ∧ w2.cell? ⟨G, j * 7 + 1, none⟩ = some u1 ∧ w2.cell? ⟨G, j * 7 + 2, none⟩ = some u2 ∧ w2.cell? ⟨G, j * 7 + 3, none⟩ = some u3 ∧ w2.cell? ⟨G, j * 7 + 4, none⟩ = some u4 ∧ w2.cell? ⟨G, j * 7 + 5, none⟩ = some u5 ∧ w2.cell? ⟨G, j * 7 + 6, none⟩ = some u6 from ⟨(blk_cell hgb _).trans (unhide HE7).1, (blk_cell hgb _).trans (unhide HE7).2.1, (blk_cell hgb _).trans (unhide HE7).2.2.1, (blk_cell hgb _).trans (unhide HE7).2.2.2.1, (blk_cell hgb _).trans (unhide HE7).2.2.2.2.1, (blk_cell hgb _).trans (unhide HE7).2.2.2.2.2.1, (blk_cell hgb _).trans (unhide HE7).2.2.2.2.2.2⟩); clear hk3 hb3 hcp3 hgb)
        all_goals
          go_wp2
          go_roundg (kids.length + 1 - (j + 1))
          case measure => omega
          case rel =>
            have hz7 : j * 7 + 6 < cur.size := by have := unhide HSZ; omega
            refine ⟨j + 1, acc ++ [.mk kd2 tx2 nm2 0 ⟨#[]⟩ 0 (ks2.map (bareT m))], _, rfl, by omega, by go_num, hide ?_, hide ?_, b_sets (bt2 (unhide HB) (unhide HW2)) (by omega), ?_, ?_, b_put7 (unhide HG2) _ _ _ _ _ _ _ _, hide ?_, hide ?_⟩
            · rw [take_map (unhide HE), ← unhide HACC, unhide HN]; rfl
            · rw [List.length_append, unhide HAL]; rfl
            · exact (b_far7 (by omega)).trans (((unhide HW2).block _ (by omega)).trans (unhide HB1))
            · exact (b_far7 (by omega)).trans (((unhide HW2).block _ (by omega)).trans (unhide HB3))
            · rw [put7_size]; exact unhide HSZ
            · have hal := unhide HAL
              refine (unhide HX).snoc (c := [.int .i64 kd2, .string tx2, .int .i64 nm2, .int .i64 0, .string ⟨#[]⟩, .int .i64 0, .slice a3 ks2.length cp3]) (fun t cs hc => hc.same fun k hk => ⟨⟨⟨hk.1.1, by have := hk.1.2; rw [b_size7]; omega⟩, hk.2⟩, (b_far7 hk.2).trans ((unhide HW2).block _ hk.1.2)⟩) (fun i u hi hu => ?_) ?_ rfl (fun k u hk => ?_)
              · rw [hal] at hi
                rw [put7_lt hi]; exact hu
              · rw [unhide HN]
                refine ⟨a3, cp3, by simp, by simpa using unhide HC3, (unhide HK3).same fun k hk => ?_⟩
                have hkG : k ≠ G := by have := hk.1; omega
                exact ⟨⟨⟨by have := hk.1; omega, by rw [b_size7]; exact hk.2⟩, hkG⟩, b_far7 hkG⟩
              · rw [hal]
                exact put7_at hz7 hk
      · have hltz : ¬ (j : Int) < kids.length := by omega
        have hjn : j = kids.length := by omega
        have hfin := hide (show acc = kids.map (bareT n) by rw [unhide HACC, hjn, List.take_length])
        have hle := hide (show kids.length = acc.length by rw [unhide HAL]; exact hjn.symm)
        have y0 : wr.cell? ⟨B3, 0, none⟩ = some (.int .i64 kd) := blk_cell b3 0
        have y1 : wr.cell? ⟨B3, 1, none⟩ = some (.string tx) := blk_cell b3 1
        have y2 : wr.cell? ⟨B3, 2, none⟩ = some (.int .i64 nm) := blk_cell b3 2
        have y3 : wr.cell? ⟨B3, 3, none⟩ = some (.int .i64 0) := blk_cell b3 3
        have y4 : wr.cell? ⟨B3, 4, none⟩ = some (.string ⟨#[]⟩) := blk_cell b3 4
        have y5 : wr.cell? ⟨B3, 5, none⟩ = some (.int .i64 0) := blk_cell b3 5
        have zc1 := blk_cell b1
        have fz1 := blk_frozen b1
        have HBG := hide bG
        have hne1 : B3 ≠ w.heap.size + 1 := by omega
        clear b1 b3 bG
        go_wp2
        refine bodyPost_ret (v := .agg #[.int .i64 kd, .string tx, .int .i64 nm, .int .i64 0, .string ⟨#[]⟩, .int .i64 0, .slice (some ⟨G, 0, none⟩) kids.length kids.length]) (by simp [results, Tryz.results10, go_sem, *]) rfl ⟨⟨some ⟨G, 0, none⟩, kids.length, rfl, Nat.le_refl _, ?_⟩, b_set7 hb (by omega)⟩
        rw [← unhide hfin]
        refine ⟨by rw [← unhide hle]; exact hfew, fun _ => ⟨G, 0, rfl, ⟨by omega, by rw [b_size8]; exact hlG⟩, ?_⟩⟩
        refine (unhide HX).imp (fun t cs hc => hc.same fun k hk => ⟨⟨by have := hk.1.1; omega, by rw [b_size8]; exact hk.1.2⟩, b_far8 (by have := hk.1.1; omega)⟩) fun i u hu => ?_
        rw [Nat.zero_add, World.cell?_of_block (w := wr) (b_far8 (by show G ≠ _; omega)), blk_cell (unhide HBG)]
        exact hu
theorem bare_w : ∀ n, BareP 10 n := by
  intro n
  induction n with
  | zero => exact bare_step 0 fun m h => by omega
  | succ n ih => exact bare_step (n + 1) fun m h => by obtain rfl : m = n := by omega
                                                       exact ih
end Go.Proofs.YtgckmkiiheaeaaaGreatDoor
