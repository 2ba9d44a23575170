import Derived.Test.YtheknbfbneghgaaGreatDoorAs2
import Derived.Test.YtheknbfbneghgaaGreatDoorDeep
import Derived.Test.YtheknbfbneghgaaGreatDoorLexP
set_option maxHeartbeats 800000
set_option maxRecDepth 100000
namespace Go.Proofs.YtheknbfbneghgaaGreatDoor
open Go.RowKit Lx
structure Vars (w : World) : Prop where
 et : w.cell? ⟨0, 0, none⟩ = some (.iface 90 (.agg #[.pointer (some ⟨5, 38, none⟩)]))
 lm : ∀ i, i < 128 → w.cell? ⟨1, i, none⟩ = some (.int .i8 (mTab i))
theorem Vars.lt {w : World} (h : Vars w) : 1 < w.heap.size := World.block_lt_of_cell? w ⟨1, 0, none⟩ (h.lm 0 om)
theorem Vars.below {w w' : World} {B : Nat} (h : Vars w) (hB : 2 ≤ B) (hb : Below B w w') : Vars w' :=
 ⟨(hb.cell (p := ⟨0, 0, none⟩) (by show 0 < B; omega)).trans h.et, fun i hi => (hb.cell (p := ⟨1, i, none⟩) (by show 1 < B; omega)).trans (h.lm i hi)⟩
def ScanXPost (l : List UInt8) (w : World) (ev : Ending) (w' : World) : Prop :=
 ∃ v, ev = .returned (.tuple #[v, .agg #[.int .i64 (lexR l).2.1, .int .i64 (lexR l).2.2]]) ∧ w'.ownsRow w.heap.size 85 4 v (lexR l).1.length (yi (lexR l).1) ∧ Below w.heap.size w w'
theorem scanx_none {l : List UInt8} {a b : Int} {w w' : World} (h : lexR l = ([], a, b)) (hb : Below w.heap.size w w') : ScanXPost l w (.returned (.tuple #[.slice none 0 0, .agg #[.int .i64 a, .int .i64 b]])) w' := by
 refine ⟨.slice none 0 0, ?_, ?_, hb⟩
 ·rw [h]
 ·rw [h]; exact World.ownsRow_nil _ _ _ _
theorem Scan_big (s : ByteArray) (w : World) (hs : 8192 < s.size) :
 Calls Tryz.prog 11 #[.string s] w (ScanXPost s.toList w) := by
 have HL := zm (lexR_big s.toList (by rw [yx]; exact hs))
 have h1 : (8192 : Int) < s.size := om
 go_enter Tryz.func11, Tryz.ntmps11
 go_wp2_with fail
 exact bodyPost_ret (v := .tuple #[.slice none 0 0, .agg #[.int .i64 1, .int .i64 8192]]) (by simp [results, Tryz.results11, go_sem]) rfl (scanx_none (zk HL) ((Below.refl _ _).alloc lr _))
theorem own_base {w : World} {base base' e size n : Nat} {v : Value} {xs : List Value} (hb : base' ≤ base) (h : w.ownsRow base e size v n xs) : w.ownsRow base' e size v n xs := by
 refine ⟨h.1, ?_⟩
 rcases h.2 with h2 | ⟨g, cap, cur, e1, e2, r⟩
 ·exact .inl h2
 ·exact .inr ⟨g, cap, cur, e1, Nat.le_trans hb e2, r⟩
theorem scan_len' : ∀ (f : Nat) (l : List UInt8) (k : Nat) (ts r : List Tok), ts.length ≤ k → k ≤ l.length → scanF f l k ts = .inr r → r.length ≤ l.length
 | 0, l, k, ts, r, h, hk, hs => by rw [scanF] at hs; cases hs; omega
 | f + 1, l, k, ts, r, h, hk, hs => by
   rw [scanF] at hs
   by_cases hlt : k < l.length
   ·rw [if_pos hlt] at hs
    cases hp : partF l k ts with
    | inl p => rw [hp] at hs; cases hs
    | inr q =>
      rw [hp] at hs
      obtain ⟨h1, h2, h3⟩ := partF_prog l k ts hlt q.1 q.2 hp
      exact scan_len' f l q.1 q.2 r om h2 hs
   ·rw [if_neg hlt] at hs; cases hs; omega
theorem scan_len (l : List UInt8) (ts : List Tok) (h : scanAll l 0 [] = .inr ts) : ts.length ≤ l.length := scan_len' _ l 0 [] ts lr (Nat.zero_le _) h
theorem st0 (s : ByteArray) (w : World) : St ((w.alloc (.cells #[.int .i64 0, .int .i64 0] 27)).alloc (.cells #[.string s, .int .i64 0, .slice none 0 0] 54)) (w.heap.size + 1) s 0 (.slice none 0 0) [] :=
 ⟨yW _ _ zK, World.ownsRow_nil _ _ _ _⟩
theorem blkN (s : ByteArray) (w : World) : ((w.alloc (.cells #[.int .i64 0, .int .i64 0] 27)).alloc (.cells #[.string s, .int .i64 0, .slice none 0 0] 54)).heap[w.heap.size]? = some (.cells #[.int .i64 0, .int .i64 0] 27) := by
 rw [Below.heap_alloc _ _ _ zK, yW _ _ rfl]
theorem belN (s : ByteArray) (w : World) : Below w.heap.size w ((w.alloc (.cells #[.int .i64 0, .int .i64 0] 27)).alloc (.cells #[.string s, .int .i64 0, .slice none 0 0] 54)) := ((Below.refl _ _).alloc lr _).alloc zK _
theorem Scan_lex (s : ByteArray) (w : World) (hs : s.size ≤ 8192) (hv : Vars w) (p : Nat) (hp : scanAll s.toList 0 [] = .inl p) :
 Calls Tryz.prog 11 #[.string s] w (ScanXPost s.toList w) := by
 have hll : s.toList.length ≤ 8192 := by rw [yx]; exact hs
 have HL := zm (lexR_bad s.toList hll p hp)
 have HP := zm hp
 clear hp
 have h1 : ¬ (8192 : Int) < s.size := om
 have hlt := hv.lt
 have HV := zm hv
 clear hv
 have HSC := zm (scan_any (w.heap.size + 1) s (.slice none 0 0) _ (st0 s w) hs om ((zk HV).below (B := w.heap.size) om (belN s w)).lm)
 rw [zk HP] at HSC
 go_enter Tryz.func11, Tryz.ntmps11
 go_wp2_with fail
 refine (zk HSC).mono ?_
 rintro e w2 ⟨⟨nm, rfl⟩, hb2⟩
 have hn2 : w2.heap[w.heap.size]? = some (.cells #[.int .i64 0, .int .i64 0] 27) := by rw [hb2.block _ om]; exact blkN s w
 have hb2' : Below w.heap.size w w2 := (belN s w).trans (hb2.mono om)
 have hv2 : Vars w2 := (zk HV).below (B := w.heap.size) om hb2'
 have hz2 := blk_lt hn2
 have HAS := zm (as_hit nm p w2.heap.size (.int .i64 0) (w2.alloc (.cells #[.int .i64 0] 57)) (by rw [World.cell?_alloc_lt _ _ ⟨0, 0, none⟩ (by show 0 < w2.heap.size; omega)]; exact hv2.et) zK zK)
 have HB2 := zm hb2'
 have HN2 := zm hn2
 clear hb2 hb2' hv2 hn2
 go_wp2_with (first | (go_at_call 13; refine (zk HAS).mono ?_; rintro e w4 ⟨rfl, hcc, hgr⟩; have hn4 := (hgr.block w.heap.size sp sp).trans (blk_alloc (zk HN2) _); have m0 := zv hn4 0; have m1 := zv hn4 1; have f0 := yT hn4 0; have f1 := yT hn4 1; have HGR := zm hgr; clear hgr hn4))
 go_region
 all_goals
  go_wp2
  refine bodyPost_ret (v := .tuple #[.slice none 0 0, .agg #[.int .i64 2, .int .i64 p]]) (by simp [results, Tryz.results11, go_sem, m0, m1]) rfl (scanx_none (zk HL) ?_)
  exact ((((((zk HB2).alloc om _).grown (zk HGR) sp (fun q hq => by have := Option.some.inj hq; omega)).setCell lr _).setCell lr _)).drew
theorem Scan_deep (s : ByteArray) (w : World) (hs : s.size ≤ 8192) (hv : Vars w) (ts : List Tok) (hp : scanAll s.toList 0 [] = .inr ts) (a : Int) (hd : deepF 0 (allP ts s.toList.length) = some a) :
 Calls Tryz.prog 11 #[.string s] w (ScanXPost s.toList w) := by
 have hll : s.toList.length ≤ 8192 := by rw [yx]; exact hs
 have HL := zm (lexR_deep s.toList hll ts hp a hd)
 rw [yx] at hd
 have hlen : (allP ts s.size).length ≤ 100000 := by
  unfold allP
  have h1 := endT_len ts s.size
  have h2 := scan_len s.toList ts hp
  rw [yx] at h2
  rw [List.length_append]
  simp
  omega
 have HP := zm hp
 have HD := zm hd
 clear hp hd
 have h1 : ¬ (8192 : Int) < s.size := om
 have hlt := hv.lt
 have HV := zm hv
 clear hv
 have HSC := zm (scan_any (w.heap.size + 1) s (.slice none 0 0) _ (st0 s w) hs om ((zk HV).below (B := w.heap.size) om (belN s w)).lm)
 rw [zk HP] at HSC
 go_enter Tryz.func11, Tryz.ntmps11
 go_wp2_with fail
 refine (zk HSC).mono ?_
 rintro e w2 ⟨rfl, sv, hst, hb2⟩
 have hn2 : w2.heap[w.heap.size]? = some (.cells #[.int .i64 0, .int .i64 0] 27) := by rw [hb2.block _ om]; exact blkN s w
 have hb2' : Below w.heap.size w w2 := (belN s w).trans (hb2.mono om)
 have hz2 := blk_lt hst.blk
 have st3 := hst.alloc (.cells #[.int .i64 0] 57)
 have c2 : (w2.alloc (.cells #[.int .i64 0] 57)).cell? ⟨w.heap.size + 1, 2, none⟩ = some sv := zv st3.blk 2
 have HTD := zm (tooDeep_any _ sv (allP ts s.size) _ st3.own hlen)
 unfold DeepPost at HTD
 rw [zk HD] at HTD
 have HST := zm st3
 have HB2 := zm hb2'
 have HN2 := zm (blk_alloc hn2 (.cells #[.int .i64 0] 57))
 obtain ⟨ao, cap, hsv⟩ := own_form st3.own
 subst hsv
 clear hb2 hb2' hn2 hst st3
 go_wp2_with (first | (go_at_call 13; refine (as_nil _ _).mono ?_; rintro e w' ⟨rfl, hww⟩; have hw2 := hww.symm; clear hww; subst hw2) | (go_at_call 17; refine (zk HTD).mono ?_; rintro e w4 ⟨rfl, hb4⟩; have hn4 := (hb4.block w.heap.size sp).trans (zk HN2); have hs4 := (zk HST).below hb4; have c4 := zv hs4.blk 2; have m0 := zv hn4 0; have m1 := zv hn4 1; have f0 := yT hn4 0; have f1 := yT hn4 1; have HB4 := zm hb4; have HS4 := zm hs4; clear hb4 hs4 hn4))
 refine bodyPost_ret (v := .tuple #[.slice none 0 0, .agg #[.int .i64 3, .int .i64 a]]) (by simp [results, Tryz.results11, go_sem, m0, m1]) rfl (scanx_none (zk HL) ?_)
 exact ((((((zk HB2).alloc om _).trans ((zk HB4).mono sp)).setCell lr _).setCell lr _))
theorem Scan_ok (s : ByteArray) (w : World) (hs : s.size ≤ 8192) (hv : Vars w) (ts : List Tok) (hp : scanAll s.toList 0 [] = .inr ts) (hd : deepF 0 (allP ts s.toList.length) = none) :
 Calls Tryz.prog 11 #[.string s] w (ScanXPost s.toList w) := by
 have hll : s.toList.length ≤ 8192 := by rw [yx]; exact hs
 have HL := zm (lexR_ok s.toList hll ts hp hd)
 rw [yx] at HL hd
 have hlen : (allP ts s.size).length ≤ 100000 := by
  unfold allP
  have h1 := endT_len ts s.size
  have h2 := scan_len s.toList ts hp
  rw [yx] at h2
  rw [List.length_append]
  simp
  omega
 have HP := zm hp
 have HD := zm hd
 clear hp hd
 have h1 : ¬ (8192 : Int) < s.size := om
 have hlt := hv.lt
 have HV := zm hv
 clear hv
 have HSC := zm (scan_any (w.heap.size + 1) s (.slice none 0 0) _ (st0 s w) hs om ((zk HV).below (B := w.heap.size) om (belN s w)).lm)
 rw [zk HP] at HSC
 go_enter Tryz.func11, Tryz.ntmps11
 go_wp2_with fail
 refine (zk HSC).mono ?_
 rintro e w2 ⟨rfl, sv, hst, hb2⟩
 have hn2 : w2.heap[w.heap.size]? = some (.cells #[.int .i64 0, .int .i64 0] 27) := by rw [hb2.block _ om]; exact blkN s w
 have hb2' : Below w.heap.size w w2 := (belN s w).trans (hb2.mono om)
 have hz2 := blk_lt hst.blk
 have st3 := hst.alloc (.cells #[.int .i64 0] 57)
 have c2 : (w2.alloc (.cells #[.int .i64 0] 57)).cell? ⟨w.heap.size + 1, 2, none⟩ = some sv := zv st3.blk 2
 have HTD := zm (tooDeep_any _ sv (allP ts s.size) _ st3.own hlen)
 unfold DeepPost at HTD
 rw [zk HD] at HTD
 have HST := zm st3
 have HB2 := zm hb2'
 have HN2 := zm (blk_alloc hn2 (.cells #[.int .i64 0] 57))
 obtain ⟨ao, cap, hsv⟩ := own_form st3.own
 subst hsv
 clear hb2 hb2' hn2 hst st3
 go_wp2_with (first | (go_at_call 13; refine (as_nil _ _).mono ?_; rintro e w' ⟨rfl, hww⟩; have hw2 := hww.symm; clear hww; subst hw2) | (go_at_call 17; refine (zk HTD).mono ?_; rintro e w4 ⟨rfl, hb4⟩; have hn4 := (hb4.block w.heap.size sp).trans (zk HN2); have hs4 := (zk HST).below hb4; have c4 := zv hs4.blk 2; have m0 := zv hn4 0; have m1 := zv hn4 1; have f0 := yT hn4 0; have f1 := yT hn4 1; have HB4 := zm hb4; have HS4 := zm hs4; clear hb4 hs4 hn4))
 refine bodyPost_ret (v := .tuple #[.slice ao (allT ts s.size).length cap, .agg #[.int .i64 0, .int .i64 0]]) (by simp [results, Tryz.results11, go_sem, m0, m1]) rfl ⟨.slice ao (allT ts s.size).length cap, ?_, ?_, ((((((zk HB2).alloc om _).trans ((zk HB4).mono sp)).setCell lr _).setCell lr _))⟩
 ·rw [zk HL]
 ·rw [zk HL]
  exact own_base om (ownsRow_setCell_below (ownsRow_setCell_below (zk HS4).own (by show w.heap.size < _; omega) _) (by show w.heap.size < _; omega) _)
theorem Scan_any (s : ByteArray) (w : World) (hv : Vars w) : Calls Tryz.prog 11 #[.string s] w (ScanXPost s.toList w) := by
 by_cases hs : 8192 < s.size
 ·exact Scan_big s w hs
 ·cases hp : scanAll s.toList 0 [] with
  | inl p => exact Scan_lex s w om hv p hp
  | inr ts =>
    cases hd : deepF 0 (allP ts s.toList.length) with
    | some a => exact Scan_deep s w om hv ts hp a hd
    | none => exact Scan_ok s w om hv ts hp hd
end Go.Proofs.YtheknbfbneghgaaGreatDoor
