/- The law LexJoins, walked. -/
import Derived.Test.YteoongjimggbgaaDoorQuotes
import Derived.Test.YteoongjimggbgaaDoorPosP
namespace Go.Proofs.YteoongjimggbgaaDoor
open Go.RowKit Go.Proofs.YteoongjimggbgaaDoor.Lx

/-- A row of tokens in memory, whatever lies around it. -/
def ToksAt (X : World) (v : Value) (ts : List Tok) : Prop := ∃ base, X.ownsRow base 31 4 v ts.length (toksCells ts)
theorem ToksAt.below {X Y : World} {v : Value} {ts : List Tok} (h : ToksAt X v ts) (hb : Below X.heap.size X Y) : ToksAt Y v ts := by
  obtain ⟨base, h1, h2⟩ := h
  refine ⟨base, h1, ?_⟩
  rcases h2 with h2 | ⟨g, cap, cur, e1, e2, e3, r⟩
  · exact .inl h2
  · exact .inr ⟨g, cap, cur, e1, e2, by rw [hb.block g (blk_lt e3)]; exact e3, r⟩
theorem ToksAt.form {X : World} {v : Value} {ts : List Tok} (h : ToksAt X v ts) : ∃ ao cap, v = .slice ao ts.length cap := by
  obtain ⟨base, h1⟩ := h; exact own_form h1
theorem ToksAt.cells {X : World} {ao : Option Addr} {cap : Nat} {ts : List Tok} (h : ToksAt X (.slice ao ts.length cap) ts) (j : Nat) (t : Tok) (hj : ts[j]? = some t) : ∃ g, ao = some ⟨g, 0, none⟩ ∧ g < X.heap.size ∧
    X.cell? ⟨g, j * 4, none⟩ = some (.int .i64 t.kind) ∧ X.cell? ⟨g, j * 4 + 1, none⟩ = some (.string ⟨t.text.toArray⟩) ∧ X.cell? ⟨g, j * 4 + 2, none⟩ = some (.int .i64 t.num) ∧ X.cell? ⟨g, j * 4 + 3, none⟩ = some (.int .i64 t.pos) := by
  obtain ⟨base, h1⟩ := h
  obtain ⟨g, cap', e, _, hg, r⟩ := tok_cells h1 j t hj
  cases e
  exact ⟨g, rfl, hg, r⟩
theorem Scan_to (s : ByteArray) (w : World) (hv : Vars w) (toks : List Tok) (st pl : Int) (h : lexR s.toList = (toks, st, pl)) :
    Calls Tryd.prog 10 #[.string s] w fun e w' => ∃ ao cap, e = .returned (.tuple #[.slice ao toks.length cap, .agg #[.int .i64 st, .int .i64 pl]]) ∧ ToksAt w' (.slice ao toks.length cap) toks ∧ Below w.heap.size w w' := by
  refine (Scan_is s w hv toks st pl h).mono ?_
  rintro e w' ⟨v, rfl, ho, hb⟩
  obtain ⟨ao, cap, rfl⟩ := own_form ho
  exact ⟨ao, cap, rfl, ⟨_, ho⟩, hb⟩

set_option maxRecDepth 100000 in
set_option maxHeartbeats 1000000 in
theorem joins_bad (sa sb : ByteArray) (w : World) (hv : Vars w) (hsum : sa.size + sb.size ≤ 8000) (k1 k2 k3 : List Tok) (p : Int) (s2 p2 : Int)
    (l1 : lexR sa.toList = (k1, 2, p)) (l2 : lexR sb.toList = (k2, s2, p2)) (l3 : lexR (sa.toList ++ 10 :: sb.toList) = (k3, 2, p)) :
    Calls Tryd.prog 6 #[.string sa, .string sb] w fun e w' => e = .returned (.bool true) ∧ Below w.heap.size w w' := by
  have HA := hide (anchor_any w hv)
  have HV := hide hv
  have hvl := hv.lt
  clear hv
  have t1 : ¬ (8000 : Int) < (sa.size : Int) + sb.size := by omega
  have L3 : Hid (lexR (sa ++ ⟨#[10]⟩ ++ sb).toList = (k3, 2, p)) := by
    show _ = _
    rw [toL_append, toL_append, ByteArray.toList_mk [10], List.append_assoc]
    exact l3
  have L1 := hide l1
  have L2 := hide l2
  clear l1 l2 l3
  go_enter Tryd.func6, Tryd.ntmps6
  go_wp2_with (first | (go_at_call 9; refine (unhide HA).mono ?_; rintro e w1 ⟨rfl, hb1⟩; have HB1 := hide hb1; clear hb1))
  have hcx := (Scan_to sa w1 ((unhide HV).below (B := w.heap.size) (by omega) (unhide HB1)) k1 2 p (unhide L1))
  refine hcx.mono ?_
  clear hcx
  rintro e w2 ⟨ao1, cap1, rfl, T1, b2⟩
  have hz2 := b2.size
  have B2 : Hid (Below w.heap.size w (w2.alloc (.cells #[.int .i64 2, .int .i64 p] 26))) := ((unhide HB1).trans (b2.mono (unhide HB1).size)).alloc (Nat.le_trans (unhide HB1).size hz2) _
  have TT1 := hide (T1.below ((Below.refl _ _).alloc (Nat.le_refl _) (.cells #[.int .i64 2, .int .i64 p] 26)))
  have hw1 := (unhide HB1).size
  clear T1 b2
  go_wp2_with fail
  have hcx := (Scan_to sb _ ((unhide HV).below (B := w.heap.size) (by omega) (unhide B2)) k2 s2 p2 (unhide L2))
  refine hcx.mono ?_
  clear hcx
  rintro e w3 ⟨ao2, cap2, rfl, T2, b3⟩
  have hz3 := b3.size
  have B3 : Hid (Below w.heap.size w (w3.alloc (.cells #[.int .i64 s2, .int .i64 p2] 26))) := ((unhide B2).trans (b3.mono (by simp; omega))).alloc (by simp at hz3; omega) _
  have TT2 := hide (T2.below ((Below.refl _ _).alloc (Nat.le_refl _) (.cells #[.int .i64 s2, .int .i64 p2] 26)))
  have C2 : Hid (Below (w2.alloc (.cells #[.int .i64 2, .int .i64 p] 26)).heap.size (w2.alloc (.cells #[.int .i64 2, .int .i64 p] 26)) (w3.alloc (.cells #[.int .i64 s2, .int .i64 p2] 26))) := b3.alloc b3.size _
  clear T2 b3
  go_wp2_with fail
  have hcx := (Scan_to (sa ++ ⟨#[10]⟩ ++ sb) _ ((unhide HV).below (B := w.heap.size) (by omega) (unhide B3)) k3 2 p (unhide L3))
  refine hcx.mono ?_
  clear hcx
  rintro e w4 ⟨ao3, cap3, rfl, T3, b4⟩
  have hz4 := b4.size
  have B4 : Hid (Below w.heap.size w (w4.alloc (.cells #[.int .i64 2, .int .i64 p] 26))) := ((unhide B3).trans (b4.mono (by simp at hz3 ⊢; omega))).alloc (by simp at hz3 hz4; omega) _
  have TT3 := hide (T3.below ((Below.refl _ _).alloc (Nat.le_refl _) (.cells #[.int .i64 2, .int .i64 p] 26)))
  have C3 : Hid (Below (w3.alloc (.cells #[.int .i64 s2, .int .i64 p2] 26)).heap.size (w3.alloc (.cells #[.int .i64 s2, .int .i64 p2] 26)) (w4.alloc (.cells #[.int .i64 2, .int .i64 p] 26))) := b4.alloc b4.size _
  clear T3 b4
  simp only [World.size_alloc] at hz3 hz4
  have x10 : (w4.alloc (.cells #[.int .i64 2, .int .i64 p] 26)).cell? ⟨w2.heap.size, 0, none⟩ = some (.int .i64 2) := by rw [(unhide C3).cell (p := ⟨w2.heap.size, 0, none⟩) (by simp; omega), (unhide C2).cell (p := ⟨w2.heap.size, 0, none⟩) (by simp)]; simp
  have x11 : (w4.alloc (.cells #[.int .i64 2, .int .i64 p] 26)).cell? ⟨w2.heap.size, 1, none⟩ = some (.int .i64 p) := by rw [(unhide C3).cell (p := ⟨w2.heap.size, 1, none⟩) (by simp; omega), (unhide C2).cell (p := ⟨w2.heap.size, 1, none⟩) (by simp)]; simp
  have x20 : (w4.alloc (.cells #[.int .i64 2, .int .i64 p] 26)).cell? ⟨w3.heap.size, 0, none⟩ = some (.int .i64 s2) := by rw [(unhide C3).cell (p := ⟨w3.heap.size, 0, none⟩) (by simp)]; simp
  go_wp2_with fail
  go_ret
  exact ⟨rfl, unhide B4⟩
set_option maxRecDepth 100000 in
set_option maxHeartbeats 1000000 in
theorem joins_deep (sa sb : ByteArray) (w : World) (hv : Vars w) (hsum : sa.size + sb.size ≤ 8000) (k1 k2 k3 : List Tok) (p1 s2 p2 s3 p3 : Int)
    (l1 : lexR sa.toList = (k1, 3, p1)) (l2 : lexR sb.toList = (k2, s2, p2)) (l3 : lexR (sa.toList ++ 10 :: sb.toList) = (k3, s3, p3)) :
    Calls Tryd.prog 6 #[.string sa, .string sb] w fun e w' => e = .returned (.bool true) ∧ Below w.heap.size w w' := by
  have HA := hide (anchor_any w hv)
  have HV := hide hv
  have hvl := hv.lt
  clear hv
  have t1 : ¬ (8000 : Int) < (sa.size : Int) + sb.size := by omega
  have L3 : Hid (lexR (sa ++ ⟨#[10]⟩ ++ sb).toList = (k3, s3, p3)) := by
    show _ = _
    rw [toL_append, toL_append, ByteArray.toList_mk [10], List.append_assoc]
    exact l3
  have L1 := hide l1
  have L2 := hide l2
  clear l1 l2 l3
  go_enter Tryd.func6, Tryd.ntmps6
  go_wp2_with (first | (go_at_call 9; refine (unhide HA).mono ?_; rintro e w1 ⟨rfl, hb1⟩; have HB1 := hide hb1; clear hb1))
  have hcx := (Scan_to sa w1 ((unhide HV).below (B := w.heap.size) (by omega) (unhide HB1)) k1 3 p1 (unhide L1))
  refine hcx.mono ?_
  clear hcx
  rintro e w2 ⟨ao1, cap1, rfl, T1, b2⟩
  have hz2 := b2.size
  have B2 : Hid (Below w.heap.size w (w2.alloc (.cells #[.int .i64 3, .int .i64 p1] 26))) := ((unhide HB1).trans (b2.mono (unhide HB1).size)).alloc (Nat.le_trans (unhide HB1).size hz2) _
  have TT1 := hide (T1.below ((Below.refl _ _).alloc (Nat.le_refl _) (.cells #[.int .i64 3, .int .i64 p1] 26)))
  have hw1 := (unhide HB1).size
  clear T1 b2
  go_wp2_with fail
  have hcx := (Scan_to sb _ ((unhide HV).below (B := w.heap.size) (by omega) (unhide B2)) k2 s2 p2 (unhide L2))
  refine hcx.mono ?_
  clear hcx
  rintro e w3 ⟨ao2, cap2, rfl, T2, b3⟩
  have hz3 := b3.size
  have B3 : Hid (Below w.heap.size w (w3.alloc (.cells #[.int .i64 s2, .int .i64 p2] 26))) := ((unhide B2).trans (b3.mono (by simp; omega))).alloc (by simp at hz3; omega) _
  have TT2 := hide (T2.below ((Below.refl _ _).alloc (Nat.le_refl _) (.cells #[.int .i64 s2, .int .i64 p2] 26)))
  have C2 : Hid (Below (w2.alloc (.cells #[.int .i64 3, .int .i64 p1] 26)).heap.size (w2.alloc (.cells #[.int .i64 3, .int .i64 p1] 26)) (w3.alloc (.cells #[.int .i64 s2, .int .i64 p2] 26))) := b3.alloc b3.size _
  clear T2 b3
  go_wp2_with fail
  have hcx := (Scan_to (sa ++ ⟨#[10]⟩ ++ sb) _ ((unhide HV).below (B := w.heap.size) (by omega) (unhide B3)) k3 s3 p3 (unhide L3))
  refine hcx.mono ?_
  clear hcx
  rintro e w4 ⟨ao3, cap3, rfl, T3, b4⟩
  have hz4 := b4.size
  have B4 : Hid (Below w.heap.size w (w4.alloc (.cells #[.int .i64 s3, .int .i64 p3] 26))) := ((unhide B3).trans (b4.mono (by simp at hz3 ⊢; omega))).alloc (by simp at hz3 hz4; omega) _
  have TT3 := hide (T3.below ((Below.refl _ _).alloc (Nat.le_refl _) (.cells #[.int .i64 s3, .int .i64 p3] 26)))
  have C3 : Hid (Below (w3.alloc (.cells #[.int .i64 s2, .int .i64 p2] 26)).heap.size (w3.alloc (.cells #[.int .i64 s2, .int .i64 p2] 26)) (w4.alloc (.cells #[.int .i64 s3, .int .i64 p3] 26))) := b4.alloc b4.size _
  clear T3 b4
  simp only [World.size_alloc] at hz3 hz4
  have x10 : (w4.alloc (.cells #[.int .i64 s3, .int .i64 p3] 26)).cell? ⟨w2.heap.size, 0, none⟩ = some (.int .i64 3) := by rw [(unhide C3).cell (p := ⟨w2.heap.size, 0, none⟩) (by simp; omega), (unhide C2).cell (p := ⟨w2.heap.size, 0, none⟩) (by simp)]; simp
  have x11 : (w4.alloc (.cells #[.int .i64 s3, .int .i64 p3] 26)).cell? ⟨w2.heap.size, 1, none⟩ = some (.int .i64 p1) := by rw [(unhide C3).cell (p := ⟨w2.heap.size, 1, none⟩) (by simp; omega), (unhide C2).cell (p := ⟨w2.heap.size, 1, none⟩) (by simp)]; simp
  have x20 : (w4.alloc (.cells #[.int .i64 s3, .int .i64 p3] 26)).cell? ⟨w3.heap.size, 0, none⟩ = some (.int .i64 s2) := by rw [(unhide C3).cell (p := ⟨w3.heap.size, 0, none⟩) (by simp)]; simp
  go_wp2_with fail
  go_ret
  exact ⟨rfl, unhide B4⟩
set_option maxRecDepth 100000 in
set_option maxHeartbeats 1000000 in
theorem joins_second (sa sb : ByteArray) (w : World) (hv : Vars w) (hsum : sa.size + sb.size ≤ 8000) (k1 k2 k3 : List Tok) (p1 s2 p2 s3 p3 : Int) (h2 : (s2 != 0) = true)
    (l1 : lexR sa.toList = (k1, 0, p1)) (l2 : lexR sb.toList = (k2, s2, p2)) (l3 : lexR (sa.toList ++ 10 :: sb.toList) = (k3, s3, p3)) :
    Calls Tryd.prog 6 #[.string sa, .string sb] w fun e w' => e = .returned (.bool true) ∧ Below w.heap.size w w' := by
  have HA := hide (anchor_any w hv)
  have HV := hide hv
  have hvl := hv.lt
  clear hv
  have t1 : ¬ (8000 : Int) < (sa.size : Int) + sb.size := by omega
  have L3 : Hid (lexR (sa ++ ⟨#[10]⟩ ++ sb).toList = (k3, s3, p3)) := by
    show _ = _
    rw [toL_append, toL_append, ByteArray.toList_mk [10], List.append_assoc]
    exact l3
  have L1 := hide l1
  have L2 := hide l2
  clear l1 l2 l3
  go_enter Tryd.func6, Tryd.ntmps6
  go_wp2_with (first | (go_at_call 9; refine (unhide HA).mono ?_; rintro e w1 ⟨rfl, hb1⟩; have HB1 := hide hb1; clear hb1))
  have hcx := (Scan_to sa w1 ((unhide HV).below (B := w.heap.size) (by omega) (unhide HB1)) k1 0 p1 (unhide L1))
  refine hcx.mono ?_
  clear hcx
  rintro e w2 ⟨ao1, cap1, rfl, T1, b2⟩
  have hz2 := b2.size
  have B2 : Hid (Below w.heap.size w (w2.alloc (.cells #[.int .i64 0, .int .i64 p1] 26))) := ((unhide HB1).trans (b2.mono (unhide HB1).size)).alloc (Nat.le_trans (unhide HB1).size hz2) _
  have TT1 := hide (T1.below ((Below.refl _ _).alloc (Nat.le_refl _) (.cells #[.int .i64 0, .int .i64 p1] 26)))
  have hw1 := (unhide HB1).size
  clear T1 b2
  go_wp2_with fail
  have hcx := (Scan_to sb _ ((unhide HV).below (B := w.heap.size) (by omega) (unhide B2)) k2 s2 p2 (unhide L2))
  refine hcx.mono ?_
  clear hcx
  rintro e w3 ⟨ao2, cap2, rfl, T2, b3⟩
  have hz3 := b3.size
  have B3 : Hid (Below w.heap.size w (w3.alloc (.cells #[.int .i64 s2, .int .i64 p2] 26))) := ((unhide B2).trans (b3.mono (by simp; omega))).alloc (by simp at hz3; omega) _
  have TT2 := hide (T2.below ((Below.refl _ _).alloc (Nat.le_refl _) (.cells #[.int .i64 s2, .int .i64 p2] 26)))
  have C2 : Hid (Below (w2.alloc (.cells #[.int .i64 0, .int .i64 p1] 26)).heap.size (w2.alloc (.cells #[.int .i64 0, .int .i64 p1] 26)) (w3.alloc (.cells #[.int .i64 s2, .int .i64 p2] 26))) := b3.alloc b3.size _
  clear T2 b3
  go_wp2_with fail
  have hcx := (Scan_to (sa ++ ⟨#[10]⟩ ++ sb) _ ((unhide HV).below (B := w.heap.size) (by omega) (unhide B3)) k3 s3 p3 (unhide L3))
  refine hcx.mono ?_
  clear hcx
  rintro e w4 ⟨ao3, cap3, rfl, T3, b4⟩
  have hz4 := b4.size
  have B4 : Hid (Below w.heap.size w (w4.alloc (.cells #[.int .i64 s3, .int .i64 p3] 26))) := ((unhide B3).trans (b4.mono (by simp at hz3 ⊢; omega))).alloc (by simp at hz3 hz4; omega) _
  have TT3 := hide (T3.below ((Below.refl _ _).alloc (Nat.le_refl _) (.cells #[.int .i64 s3, .int .i64 p3] 26)))
  have C3 : Hid (Below (w3.alloc (.cells #[.int .i64 s2, .int .i64 p2] 26)).heap.size (w3.alloc (.cells #[.int .i64 s2, .int .i64 p2] 26)) (w4.alloc (.cells #[.int .i64 s3, .int .i64 p3] 26))) := b4.alloc b4.size _
  clear T3 b4
  simp only [World.size_alloc] at hz3 hz4
  have x10 : (w4.alloc (.cells #[.int .i64 s3, .int .i64 p3] 26)).cell? ⟨w2.heap.size, 0, none⟩ = some (.int .i64 0) := by rw [(unhide C3).cell (p := ⟨w2.heap.size, 0, none⟩) (by simp; omega), (unhide C2).cell (p := ⟨w2.heap.size, 0, none⟩) (by simp)]; simp
  have x11 : (w4.alloc (.cells #[.int .i64 s3, .int .i64 p3] 26)).cell? ⟨w2.heap.size, 1, none⟩ = some (.int .i64 p1) := by rw [(unhide C3).cell (p := ⟨w2.heap.size, 1, none⟩) (by simp; omega), (unhide C2).cell (p := ⟨w2.heap.size, 1, none⟩) (by simp)]; simp
  have x20 : (w4.alloc (.cells #[.int .i64 s3, .int .i64 p3] 26)).cell? ⟨w3.heap.size, 0, none⟩ = some (.int .i64 s2) := by rw [(unhide C3).cell (p := ⟨w3.heap.size, 0, none⟩) (by simp)]; simp
  go_wp2_with fail
  go_ret
  exact ⟨rfl, unhide B4⟩
set_option maxRecDepth 100000 in
set_option maxHeartbeats 1000000 in
theorem joins_both (sa sb : ByteArray) (w : World) (hv : Vars w) (hsum : sa.size + sb.size ≤ 8000) (k1 k2 k3 : List Tok) (p1 p2 p3 : Int)
    (l1 : lexR sa.toList = (k1, 0, p1)) (l2 : lexR sb.toList = (k2, 0, p2)) (l3 : lexR (sa.toList ++ 10 :: sb.toList) = (k3, 3, p3)) :
    Calls Tryd.prog 6 #[.string sa, .string sb] w fun e w' => e = .returned (.bool true) ∧ Below w.heap.size w w' := by
  have HA := hide (anchor_any w hv)
  have HV := hide hv
  have hvl := hv.lt
  clear hv
  have t1 : ¬ (8000 : Int) < (sa.size : Int) + sb.size := by omega
  have L3 : Hid (lexR (sa ++ ⟨#[10]⟩ ++ sb).toList = (k3, 3, p3)) := by
    show _ = _
    rw [toL_append, toL_append, ByteArray.toList_mk [10], List.append_assoc]
    exact l3
  have L1 := hide l1
  have L2 := hide l2
  clear l1 l2 l3
  go_enter Tryd.func6, Tryd.ntmps6
  go_wp2_with (first | (go_at_call 9; refine (unhide HA).mono ?_; rintro e w1 ⟨rfl, hb1⟩; have HB1 := hide hb1; clear hb1))
  have hcx := (Scan_to sa w1 ((unhide HV).below (B := w.heap.size) (by omega) (unhide HB1)) k1 0 p1 (unhide L1))
  refine hcx.mono ?_
  clear hcx
  rintro e w2 ⟨ao1, cap1, rfl, T1, b2⟩
  have hz2 := b2.size
  have B2 : Hid (Below w.heap.size w (w2.alloc (.cells #[.int .i64 0, .int .i64 p1] 26))) := ((unhide HB1).trans (b2.mono (unhide HB1).size)).alloc (Nat.le_trans (unhide HB1).size hz2) _
  have TT1 := hide (T1.below ((Below.refl _ _).alloc (Nat.le_refl _) (.cells #[.int .i64 0, .int .i64 p1] 26)))
  have hw1 := (unhide HB1).size
  clear T1 b2
  go_wp2_with fail
  have hcx := (Scan_to sb _ ((unhide HV).below (B := w.heap.size) (by omega) (unhide B2)) k2 0 p2 (unhide L2))
  refine hcx.mono ?_
  clear hcx
  rintro e w3 ⟨ao2, cap2, rfl, T2, b3⟩
  have hz3 := b3.size
  have B3 : Hid (Below w.heap.size w (w3.alloc (.cells #[.int .i64 0, .int .i64 p2] 26))) := ((unhide B2).trans (b3.mono (by simp; omega))).alloc (by simp at hz3; omega) _
  have TT2 := hide (T2.below ((Below.refl _ _).alloc (Nat.le_refl _) (.cells #[.int .i64 0, .int .i64 p2] 26)))
  have C2 : Hid (Below (w2.alloc (.cells #[.int .i64 0, .int .i64 p1] 26)).heap.size (w2.alloc (.cells #[.int .i64 0, .int .i64 p1] 26)) (w3.alloc (.cells #[.int .i64 0, .int .i64 p2] 26))) := b3.alloc b3.size _
  clear T2 b3
  go_wp2_with fail
  have hcx := (Scan_to (sa ++ ⟨#[10]⟩ ++ sb) _ ((unhide HV).below (B := w.heap.size) (by omega) (unhide B3)) k3 3 p3 (unhide L3))
  refine hcx.mono ?_
  clear hcx
  rintro e w4 ⟨ao3, cap3, rfl, T3, b4⟩
  have hz4 := b4.size
  have B4 : Hid (Below w.heap.size w (w4.alloc (.cells #[.int .i64 3, .int .i64 p3] 26))) := ((unhide B3).trans (b4.mono (by simp at hz3 ⊢; omega))).alloc (by simp at hz3 hz4; omega) _
  have TT3 := hide (T3.below ((Below.refl _ _).alloc (Nat.le_refl _) (.cells #[.int .i64 3, .int .i64 p3] 26)))
  have C3 : Hid (Below (w3.alloc (.cells #[.int .i64 0, .int .i64 p2] 26)).heap.size (w3.alloc (.cells #[.int .i64 0, .int .i64 p2] 26)) (w4.alloc (.cells #[.int .i64 3, .int .i64 p3] 26))) := b4.alloc b4.size _
  clear T3 b4
  simp only [World.size_alloc] at hz3 hz4
  have x10 : (w4.alloc (.cells #[.int .i64 3, .int .i64 p3] 26)).cell? ⟨w2.heap.size, 0, none⟩ = some (.int .i64 0) := by rw [(unhide C3).cell (p := ⟨w2.heap.size, 0, none⟩) (by simp; omega), (unhide C2).cell (p := ⟨w2.heap.size, 0, none⟩) (by simp)]; simp
  have x11 : (w4.alloc (.cells #[.int .i64 3, .int .i64 p3] 26)).cell? ⟨w2.heap.size, 1, none⟩ = some (.int .i64 p1) := by rw [(unhide C3).cell (p := ⟨w2.heap.size, 1, none⟩) (by simp; omega), (unhide C2).cell (p := ⟨w2.heap.size, 1, none⟩) (by simp)]; simp
  have x20 : (w4.alloc (.cells #[.int .i64 3, .int .i64 p3] 26)).cell? ⟨w3.heap.size, 0, none⟩ = some (.int .i64 0) := by rw [(unhide C3).cell (p := ⟨w3.heap.size, 0, none⟩) (by simp)]; simp
  go_wp2_with fail
  go_ret
  exact ⟨rfl, unhide B4⟩
end Go.Proofs.YteoongjimggbgaaDoor
