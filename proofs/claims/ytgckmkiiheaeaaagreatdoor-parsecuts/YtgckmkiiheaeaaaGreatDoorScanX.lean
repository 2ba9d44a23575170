import Derived.Test.YtgckmkiiheaeaaaGreatDoorAs2
import Derived.Test.YtgckmkiiheaeaaaGreatDoorDeep
import Derived.Test.YtgckmkiiheaeaaaGreatDoorLexP
namespace Go.Proofs.YtgckmkiiheaeaaaGreatDoor
open Go.RowKit Lx
structure Vars (w : World) : Prop where
 et : w.cell? ⟨0, 0, none⟩ = some (.iface 92 (.agg #[.pointer (some ⟨2, 51, none⟩)]))
 lm : ∀ i, i < 128 → w.cell? ⟨1, i, none⟩ = some (.int .i8 (mTab i))
theorem Vars.lt {w : World} (h : Vars w) : 1 < w.heap.size := World.block_lt_of_cell? w ⟨1, 0, none⟩ (h.lm 0 (by omega))
theorem Vars.below {w w' : World} {B : Nat} (h : Vars w) (hB : 2 ≤ B) (hb : Below B w w') : Vars w' :=
 ⟨(hb.cell (p := ⟨0, 0, none⟩) (by show 0 < B; omega)).trans h.et, fun i hi => (hb.cell (p := ⟨1, i, none⟩) (by show 1 < B; omega)).trans (h.lm i hi)⟩
def ScanXPost (l : List UInt8) (w : World) (ev : Ending) (w' : World) : Prop :=
 ∃ v, ev = .returned (.tuple #[v, .agg #[.int .i64 (lexR l).2.1, .int .i64 (lexR l).2.2]]) ∧ w'.ownsRow w.heap.size 36 4 v (lexR l).1.length (toksCells (lexR l).1) ∧ Below w.heap.size w w'
theorem scanx_none {l : List UInt8} {a b : Int} {w w' : World} (h : lexR l = ([], a, b)) (hb : Below w.heap.size w w') : ScanXPost l w (.returned (.tuple #[.slice none 0 0, .agg #[.int .i64 a, .int .i64 b]])) w' := by
 refine ⟨.slice none 0 0, ?_, ?_, hb⟩
 ·rw [h]
 ·rw [h]; exact World.ownsRow_nil _ _ _ _
set_option maxRecDepth 100000 in
set_option maxHeartbeats 400000 in
theorem Scan_big (s : ByteArray) (w : World) (hs : 8192 < s.size) :
 Calls Tryz.prog 20 #[.string s] w (ScanXPost s.toList w) := by
 have HL := hide (lexR_big s.toList (by rw [toL_len]; exact hs))
 have h1 : (8192 : Int) < s.size := by omega
 go_enter Tryz.func20, Tryz.ntmps20
 go_wp2_with fail
 exact bodyPost_ret (v := .tuple #[.slice none 0 0, .agg #[.int .i64 1, .int .i64 8192]]) (by simp [results, Tryz.results20, go_sem]) rfl (scanx_none (unhide HL) ((Below.refl _ _).alloc (Nat.le_refl _) _))
theorem own_base {w : World} {base base' e size n : Nat} {v : Value} {xs : List Value} (hb : base' ≤ base) (h : w.ownsRow base e size v n xs) : w.ownsRow base' e size v n xs := by
 refine ⟨h.1, ?_⟩
 rcases h.2 with h2 | ⟨g, cap, cur, e1, e2, r⟩
 ·exact .inl h2
 ·exact .inr ⟨g, cap, cur, e1, Nat.le_trans hb e2, r⟩
theorem scan_len' : ∀ (f : Nat) (l : List UInt8) (k : Nat) (ts r : List Tok), ts.length ≤ k → k ≤ l.length → scanF f l k ts = .inr r → r.length ≤ l.length
 | 0, l, k, ts, r, h, hk, hs => by rw [scanF] at hs; cases hs; omega
 | f + 1, l, k, ts, r, h, hk, hs => by
   rw [scanF] at hs
   by_cases hlt : k < l.length
   ·rw [if_pos hlt] at hs
    cases hp : partF l k ts with
    | inl p => rw [hp] at hs; cases hs
    | inr q =>
      rw [hp] at hs
      obtain ⟨h1, h2, h3⟩ := partF_prog l k ts hlt q.1 q.2 hp
      exact scan_len' f l q.1 q.2 r (by omega) h2 hs
   ·rw [if_neg hlt] at hs; cases hs; omega
theorem scan_len (l : List UInt8) (ts : List Tok) (h : scanAll l 0 [] = .inr ts) : ts.length ≤ l.length := scan_len' _ l 0 [] ts (Nat.le_refl _) (Nat.zero_le _) h
theorem st0 (s : ByteArray) (w : World) : St ((w.alloc (.cells #[.int .i64 0, .int .i64 0] 32)).alloc (.cells #[.string s, .int .i64 0, .slice none 0 0] 61)) (w.heap.size + 1) s 0 (.slice none 0 0) [] :=
 ⟨heap_alloc_new' _ _ (by simp), World.ownsRow_nil _ _ _ _⟩
theorem blkN (s : ByteArray) (w : World) : ((w.alloc (.cells #[.int .i64 0, .int .i64 0] 32)).alloc (.cells #[.string s, .int .i64 0, .slice none 0 0] 61)).heap[w.heap.size]? = some (.cells #[.int .i64 0, .int .i64 0] 32) := by
 rw [Below.heap_alloc _ _ _ (by simp), heap_alloc_new' _ _ rfl]
theorem belN (s : ByteArray) (w : World) : Below w.heap.size w ((w.alloc (.cells #[.int .i64 0, .int .i64 0] 32)).alloc (.cells #[.string s, .int .i64 0, .slice none 0 0] 61)) := ((Below.refl _ _).alloc (Nat.le_refl _) _).alloc (by simp) _
set_option maxRecDepth 100000 in
set_option maxHeartbeats 800000 in
theorem Scan_lex (s : ByteArray) (w : World) (hs : s.size ≤ 8192) (hv : Vars w) (p : Nat) (hp : scanAll s.toList 0 [] = .inl p) :
 Calls Tryz.prog 20 #[.string s] w (ScanXPost s.toList w) := by
 have hll : s.toList.length ≤ 8192 := by rw [toL_len]; exact hs
 have HL := hide (lexR_bad s.toList hll p hp)
 have HP := hide hp
 clear hp
 have h1 : ¬ (8192 : Int) < s.size := by omega
 have hlt := hv.lt
 have HV := hide hv
 clear hv
 have HSC := hide (scan_any (w.heap.size + 1) s (.slice none 0 0) _ (st0 s w) hs (by omega) ((unhide HV).below (B := w.heap.size) (by omega) (belN s w)).lm)
 rw [unhide HP] at HSC
 go_enter Tryz.func20, Tryz.ntmps20
 go_wp2_with fail
 refine (unhide HSC).mono ?_
 rintro e w2 ⟨⟨nm, rfl⟩, hb2⟩
 have hn2 : w2.heap[w.heap.size]? = some (.cells #[.int .i64 0, .int .i64 0] 32) := by rw [hb2.block _ (by omega)]; exact blkN s w
 have hb2' : Below w.heap.size w w2 := (belN s w).trans (hb2.mono (by omega))
 have hv2 : Vars w2 := (unhide HV).below (B := w.heap.size) (by omega) hb2'
 have hz2 := blk_lt hn2
 have HAS := hide (as_hit nm p w2.heap.size (.int .i64 0) (w2.alloc (.cells #[.int .i64 0] 64)) (by rw [World.cell?_alloc_lt _ _ ⟨0, 0, none⟩ (by show 0 < w2.heap.size; omega)]; exact hv2.et) (by simp) (by simp))
 have HB2 := hide hb2'
 have HN2 := hide hn2
 clear hb2 hb2' hv2 hn2
 go_wp2_with (first | (go_at_call 22; refine (unhide HAS).mono ?_; rintro e w4 ⟨rfl, hcc, hgr⟩; have hn4 := (hgr.block w.heap.size (by simp; omega) (by simp; omega)).trans (blk_alloc (unhide HN2) _); have m0 := blk_cell hn4 0; have m1 := blk_cell hn4 1; have f0 := blk_frozen hn4 0; have f1 := blk_frozen hn4 1; have HGR := hide hgr; clear hgr hn4))
 go_region
 all_goals
  go_wp2
  refine bodyPost_ret (v := .tuple #[.slice none 0 0, .agg #[.int .i64 2, .int .i64 p]]) (by simp [results, Tryz.results20, go_sem, m0, m1]) rfl (scanx_none (unhide HL) ?_)
  exact ((((((unhide HB2).alloc (by omega) _).grown (unhide HGR) (by simp; omega) (fun q hq => by have := Option.some.inj hq; omega)).setCell (Nat.le_refl _) _).setCell (Nat.le_refl _) _)).drew
set_option maxRecDepth 100000 in
set_option maxHeartbeats 800000 in
theorem Scan_deep (s : ByteArray) (w : World) (hs : s.size ≤ 8192) (hv : Vars w) (ts : List Tok) (hp : scanAll s.toList 0 [] = .inr ts) (a : Int) (hd : deepF 0 (allP ts s.toList.length) = some a) :
 Calls Tryz.prog 20 #[.string s] w (ScanXPost s.toList w) := by
 have hll : s.toList.length ≤ 8192 := by rw [toL_len]; exact hs
 have HL := hide (lexR_deep s.toList hll ts hp a hd)
 rw [toL_len] at hd
 have hlen : (allP ts s.size).length ≤ 100000 := by
  unfold allP
  have h1 := endT_len ts s.size
  have h2 := scan_len s.toList ts hp
  rw [toL_len] at h2
  rw [List.length_append]
  simp
  omega
 have HP := hide hp
 have HD := hide hd
 clear hp hd
 have h1 : ¬ (8192 : Int) < s.size := by omega
 have hlt := hv.lt
 have HV := hide hv
 clear hv
 have HSC := hide (scan_any (w.heap.size + 1) s (.slice none 0 0) _ (st0 s w) hs (by omega) ((unhide HV).below (B := w.heap.size) (by omega) (belN s w)).lm)
 rw [unhide HP] at HSC
 go_enter Tryz.func20, Tryz.ntmps20
 go_wp2_with fail
 refine (unhide HSC).mono ?_
 rintro e w2 ⟨rfl, sv, hst, hb2⟩
 have hn2 : w2.heap[w.heap.size]? = some (.cells #[.int .i64 0, .int .i64 0] 32) := by rw [hb2.block _ (by omega)]; exact blkN s w
 have hb2' : Below w.heap.size w w2 := (belN s w).trans (hb2.mono (by omega))
 have hz2 := blk_lt hst.blk
 have st3 := hst.alloc (.cells #[.int .i64 0] 64)
 have c2 : (w2.alloc (.cells #[.int .i64 0] 64)).cell? ⟨w.heap.size + 1, 2, none⟩ = some sv := blk_cell st3.blk 2
 have HTD := hide (tooDeep_any _ sv (allP ts s.size) _ st3.own hlen)
 unfold DeepPost at HTD
 rw [unhide HD] at HTD
 have HST := hide st3
 have HB2 := hide hb2'
 have HN2 := hide (blk_alloc hn2 (.cells #[.int .i64 0] 64))
 obtain ⟨ao, cap, hsv⟩ := own_form st3.own
 subst hsv
 clear hb2 hb2' hn2 hst st3
 go_wp2_with (first | (go_at_call 22; refine (as_nil _ _).mono ?_; rintro e w' ⟨rfl, hww⟩; have hw2 := hww.symm; clear hww; subst hw2) | (go_at_call 29; refine (unhide HTD).mono ?_; rintro e w4 ⟨rfl, hb4⟩; have hn4 := (hb4.block w.heap.size (by simp; omega)).trans (unhide HN2); have hs4 := (unhide HST).below hb4; have c4 := blk_cell hs4.blk 2; have m0 := blk_cell hn4 0; have m1 := blk_cell hn4 1; have f0 := blk_frozen hn4 0; have f1 := blk_frozen hn4 1; have HB4 := hide hb4; have HS4 := hide hs4; clear hb4 hs4 hn4))
 refine bodyPost_ret (v := .tuple #[.slice none 0 0, .agg #[.int .i64 3, .int .i64 a]]) (by simp [results, Tryz.results20, go_sem, m0, m1]) rfl (scanx_none (unhide HL) ?_)
 exact ((((((unhide HB2).alloc (by omega) _).trans ((unhide HB4).mono (by simp; omega))).setCell (Nat.le_refl _) _).setCell (Nat.le_refl _) _))
set_option maxRecDepth 100000 in
set_option maxHeartbeats 800000 in
theorem Scan_ok (s : ByteArray) (w : World) (hs : s.size ≤ 8192) (hv : Vars w) (ts : List Tok) (hp : scanAll s.toList 0 [] = .inr ts) (hd : deepF 0 (allP ts s.toList.length) = none) :
 Calls Tryz.prog 20 #[.string s] w (ScanXPost s.toList w) := by
 have hll : s.toList.length ≤ 8192 := by rw [toL_len]; exact hs
 have HL := hide (lexR_ok s.toList hll ts hp hd)
 rw [toL_len] at HL hd
 have hlen : (allP ts s.size).length ≤ 100000 := by
  unfold allP
  have h1 := endT_len ts s.size
  have h2 := scan_len s.toList ts hp
  rw [toL_len] at h2
  rw [List.length_append]
  simp
  omega
 have HP := hide hp
 have HD := hide hd
 clear hp hd
 have h1 : ¬ (8192 : Int) < s.size := by omega
 have hlt := hv.lt
 have HV := hide hv
 clear hv
 have HSC := hide (scan_any (w.heap.size + 1) s (.slice none 0 0) _ (st0 s w) hs (by omega) ((unhide HV).below (B := w.heap.size) (by omega) (belN s w)).lm)
 rw [unhide HP] at HSC
 go_enter Tryz.func20, Tryz.ntmps20
 go_wp2_with fail
 refine (unhide HSC).mono ?_
 rintro e w2 ⟨rfl, sv, hst, hb2⟩
 have hn2 : w2.heap[w.heap.size]? = some (.cells #[.int .i64 0, .int .i64 0] 32) := by rw [hb2.block _ (by omega)]; exact blkN s w
 have hb2' : Below w.heap.size w w2 := (belN s w).trans (hb2.mono (by omega))
 have hz2 := blk_lt hst.blk
 have st3 := hst.alloc (.cells #[.int .i64 0] 64)
 have c2 : (w2.alloc (.cells #[.int .i64 0] 64)).cell? ⟨w.heap.size + 1, 2, none⟩ = some sv := blk_cell st3.blk 2
 have HTD := hide (tooDeep_any _ sv (allP ts s.size) _ st3.own hlen)
 unfold DeepPost at HTD
 rw [unhide HD] at HTD
 have HST := hide st3
 have HB2 := hide hb2'
 have HN2 := hide (blk_alloc hn2 (.cells #[.int .i64 0] 64))
 obtain ⟨ao, cap, hsv⟩ := own_form st3.own
 subst hsv
 clear hb2 hb2' hn2 hst st3
 go_wp2_with (first | (go_at_call 22; refine (as_nil _ _).mono ?_; rintro e w' ⟨rfl, hww⟩; have hw2 := hww.symm; clear hww; subst hw2) | (go_at_call 29; refine (unhide HTD).mono ?_; rintro e w4 ⟨rfl, hb4⟩; have hn4 := (hb4.block w.heap.size (by simp; omega)).trans (unhide HN2); have hs4 := (unhide HST).below hb4; have c4 := blk_cell hs4.blk 2; have m0 := blk_cell hn4 0; have m1 := blk_cell hn4 1; have f0 := blk_frozen hn4 0; have f1 := blk_frozen hn4 1; have HB4 := hide hb4; have HS4 := hide hs4; clear hb4 hs4 hn4))
 refine bodyPost_ret (v := .tuple #[.slice ao (allT ts s.size).length cap, .agg #[.int .i64 0, .int .i64 0]]) (by simp [results, Tryz.results20, go_sem, m0, m1]) rfl ⟨.slice ao (allT ts s.size).length cap, ?_, ?_, ((((((unhide HB2).alloc (by omega) _).trans ((unhide HB4).mono (by simp; omega))).setCell (Nat.le_refl _) _).setCell (Nat.le_refl _) _))⟩
 ·rw [unhide HL]
 ·rw [unhide HL]
  exact own_base (by omega) (ownsRow_setCell_below (ownsRow_setCell_below (unhide HS4).own (by show w.heap.size < _; omega) _) (by show w.heap.size < _; omega) _)
theorem Scan_any (s : ByteArray) (w : World) (hv : Vars w) : Calls Tryz.prog 20 #[.string s] w (ScanXPost s.toList w) := by
 by_cases hs : 8192 < s.size
 ·exact Scan_big s w hs
 ·cases hp : scanAll s.toList 0 [] with
  | inl p => exact Scan_lex s w (by omega) hv p hp
  | inr ts =>
    cases hd : deepF 0 (allP ts s.toList.length) with
    | some a => exact Scan_deep s w (by omega) hv ts hp a hd
    | none => exact Scan_ok s w (by omega) hv ts hp hd
end Go.Proofs.YtgckmkiiheaeaaaGreatDoor
