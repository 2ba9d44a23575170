import Derived.Test.YtheknbfbneghgaaGreatDoorNumOk
import Derived.Test.YtheknbfbneghgaaGreatDoorTxtP
import Derived.Lib.AppendStr
set_option maxHeartbeats 1000000
set_option maxRecDepth 100000
namespace Go.Proofs.YtheknbfbneghgaaGreatDoor
open Go.RowKit Lx
def byteV (xs : List UInt8) : List Value := xs.map fun c => Value.int .u8 c.toNat
theorem byteV_app (xs ys : List UInt8) : byteV (xs ++ ys) = byteV xs ++ byteV ys := List.map_append
theorem strCells_ext (s : ByteArray) (a b : Nat) : Lib.strCells (s.extract a b) = byteV (sub s.toList a b) := by
 rw [← ext_toL, ByteArray.toList_eq]; rfl
theorem Tryz.info5 : (Tryz.prog.info? 5).map (fun i => (i.zero, i.size, i.bytes)) = some (some (.int .u8 0), 1, 1) := by kernel_rfl
theorem St.below {w w' : World} {b k : Nat} {s : ByteArray} {sv : Value} {ts : List Tok} (h : St w b s k sv ts) (hb : Below w.heap.size w w') : St w' b s k sv ts := by
 refine ⟨by rw [hb.block b (blk_lt h.blk)]; exact h.blk, ?_⟩
 obtain ⟨h1, h2⟩ := h.own
 refine ⟨h1, ?_⟩
 rcases h2 with h2 | ⟨g, cap, cur, e1, e2, e3, r⟩
 ·exact .inl h2
 ·exact .inr ⟨g, cap, cur, e1, e2, by rw [hb.block g (blk_lt e3)]; exact e3, r⟩
theorem sub_len (s : ByteArray) (a b : Nat) (h : b ≤ s.size) : (sub s.toList a b).length = b - a := by
 rw [← ext_toL, yx, ext_size s a b h]
theorem conv_own {w : World} {base n : Nat} {v : Value} {ys : List UInt8} (h : w.ownsRow base 5 1 v n (byteV ys)) (hl : ys.length = n) : (convert 46 9 v).run Tryz.prog w = .ok (.string ⟨ys.toArray⟩) w := by
 rcases h.2 with ⟨rfl, h0⟩ | ⟨g, cap, cur, rfl, _, hg, _, _, _, ht⟩
 ·have : ys = [] := List.eq_nil_of_length_eq_zero om
  subst this
  exact run_convert_bytes_nil w 46 5 Tryz.underlying46 Tryz.underlying5 0 0 9 Tryz.underlying9
 ·have hc := h.cells (g := g) rfl
  have hadd : ∀ j, (⟨g, 0, none⟩ : Addr).add j = ⟨g, j, none⟩ := fun j => by unfold Addr.add; split <;> simp_all
  have := run_convert_bytes_arg (P := Tryz.prog) w 46 5 Tryz.underlying46 Tryz.underlying5 g 0 n cap (ys.map fun c => (c.toNat : Int)) (by simpa using hl) (fun i hi => by
   have e := hc i (.int .u8 ((ys.map fun c => (c.toNat : Int)).getD i 0)) (by
    unfold byteV
    rw [List.getElem?_map, List.getD_eq_getElem?_getD, List.getElem?_map, List.getElem?_eq_getElem om]
    rfl)
   rw [hadd] at e
   rw [Nat.zero_add]; exact e) 9 Tryz.underlying9
  rw [this]
  have e : strOfNums (ys.map fun c => (c.toNat : Int)) = ⟨ys.toArray⟩ := by
   unfold strOfNums
   rw [List.map_map]
   have : ((fun n : Int => UInt8.ofNat n.toNat) ∘ fun c : UInt8 => (c.toNat : Int)) = id := by funext c; simp
   rw [this, List.map_id]
  rw [e]
def TxtPost (b k : Nat) (s : ByteArray) (ts : List Tok) (w : World) (ev : Ending) (w' : World) : Prop :=
 match txt (s.toList.drop (k + 1)) with
 | (none, n) => ev = .returned (.iface 57 (.agg #[.int .i64 ((k + 1 + n : Nat) : Int)])) ∧ Below w.heap.size w w'
 | (some m, n) => if 256 < m.length then ev = .returned (.iface 57 (.agg #[.int .i64 k])) ∧ Below w.heap.size w w'
   else ev = .returned .nilIface ∧ ∃ sv', St w' b s (k + 1 + n) sv' (ts ++ [⟨3, m, 0, k⟩]) ∧ Below b w w'
theorem post_none {b k n : Nat} {s : ByteArray} {ts : List Tok} {w w' : World} {p : Int} (h : txt (s.toList.drop (k + 1)) = (none, n)) (hp : p = ((k + 1 + n : Nat) : Int)) (hb : Below w.heap.size w w') : TxtPost b k s ts w (.returned (.iface 57 (.agg #[.int .i64 p]))) w' := by
 unfold TxtPost; rw [h]; subst hp; exact ⟨rfl, hb⟩
theorem post_long {b k n : Nat} {m : List UInt8} {s : ByteArray} {ts : List Tok} {w w' : World} (h : txt (s.toList.drop (k + 1)) = (some m, n)) (hm : 256 < m.length) (hb : Below w.heap.size w w') : TxtPost b k s ts w (.returned (.iface 57 (.agg #[.int .i64 k]))) w' := by
 unfold TxtPost; rw [h]
 show (if _ then _ else _)
 rw [if_pos hm]; exact ⟨rfl, hb⟩
theorem post_some {b k n : Nat} {m : List UInt8} {s : ByteArray} {ts : List Tok} {w w' : World} (h : txt (s.toList.drop (k + 1)) = (some m, n)) (hm : ¬ 256 < m.length) (sv' : Value) (hst : St w' b s (k + 1 + n) sv' (ts ++ [⟨3, m, 0, k⟩])) (hb : Below b w w') : TxtPost b k s ts w (.returned .nilIface) w' := by
 unfold TxtPost; rw [h]
 show (if _ then _ else _)
 rw [if_neg hm]; exact ⟨rfl, sv', hst, hb⟩
theorem text_any (b k : Nat) (s : ByteArray) (sv : Value) (ts : List Tok) (w : World) (h : St w b s k sv ts) (hn : ts.length ≤ 100000) (hs : s.size ≤ 8192) (hk : k < s.size) :
 Calls Tryz.prog 50 #[.pointer (some ⟨b, 0, none⟩)] w (TxtPost b k s ts w) := by
 have hc : w.cell? ⟨b, 0, none⟩ = some (.string s) := zv h.blk 0
 have ha : w.cell? ⟨b, 1, none⟩ = some (.int .i64 k) := zv h.blk 1
 have hlt := blk_lt h.blk
 have H := zm h
 clear h
 obtain ⟨i0, hi, hz0, hz1, hz2⟩ := info_parts Tryz.info5
 go_enter Tryz.func50, Tryz.ntmps50
 go_wp2
 go_loopw [3, 4] (fun v i wr => ∃ (j : Nat) (xs : List UInt8), j ≤ s.size ∧ xs.length ≤ j ∧ i = .int .i64 j ∧ wr.ownsRow w.heap.size 5 1 v xs.length (byteV xs) ∧ Below w.heap.size w wr ∧ TxtAt s.toList (k + 1) j xs) (fun _ i _ => s.size - (intOf i).toNat)
 case atStart => exact ⟨k + 1, [], hk, Nat.zero_le _, by go_num, World.ownsRow_nil _ _ _ _, Below.refl _ _, TxtAt.start _ _⟩
 case round =>
  obtain ⟨j, xs, hj, hxl, rfl, hown, hbel, htx⟩ := hrel
  have c0 : wr.cell? ⟨b, 0, none⟩ = some (.string s) := (hbel.cell (p := ⟨b, 0, none⟩) hlt).trans hc
  have HT := zm htx.run
  have HR := zm (run_isPln b j s wr hs hj c0)
  have hE1 := re_ge isPln s.toList j
  have hE2 := run_le isPln s j hj
  have HST := zm (fun c h => run_stop isPln s.toList j c h)
  have HO := zm hown
  have HB := zm hbel
  clear htx hown hbel
  generalize yL isPln s.toList j = E at *
  have h3 : (j : Int) ≤ E := om
  have h4 : (E : Int) ≤ s.size := om
  have h5 : (0 : Int) ≤ j := om
  go_wp2_with (first | (go_at_call 43; refine (zk HR).mono ?_; rintro e w' ⟨rfl, hww⟩; have hw2 := hww.symm; clear hww; subst hw2) | (at_builtin; refine Lib.wpList_append_own_string _ rfl (.tmp 16) (.tmp 23) 46 9 rfl w.heap.size 5 i0 Tryz.underlying46 Tryz.underlying9 hi hz0 hz1 hz2 _ xs.length (byteV xs) rfl (zk HO) (s.extract j E) rfl ?b1 ?b2 ?b3 ?next))
  case b1 => rw [ext_size s j E hE2]; unfold maxLen; omega
  case b2 => rw [ext_size s j E hE2]; omega
  case b3 => exact (zk HB).size
  case next =>
   intro v1 w1 hown1 hg1 hnil1
   clear hnil1
   rw [strCells_ext, ← byteV_app] at hown1
   have hyl : (xs ++ sub s.toList j E).length = xs.length + (E - j) := by rw [List.length_append, sub_len s j E hE2]
   rw [← hyl] at hown1
   have hye : (xs ++ sub s.toList j E).length ≤ E := om
   clear hyl
   generalize xs ++ sub s.toList j E = ys at *
   have hbel1 : Below w.heap.size w w1 := (zk HB).grown hg1 (zk HB).size (fun q hq => ((zk HO).lt q hq).1)
   have c1 : w1.cell? ⟨b, 0, none⟩ = some (.string s) := (hbel1.cell (p := ⟨b, 0, none⟩) hlt).trans hc
   have a1 : w1.cell? ⟨b, 1, none⟩ = some (.int .i64 k) := (hbel1.cell (p := ⟨b, 1, none⟩) hlt).trans ha
   obtain ⟨ao, cap, rfl⟩ := own_form hown1
   have HO1 := zm hown1
   have HB1 := zm hbel1
   clear hown1 hbel1 hg1 c0
   by_cases hES : E < s.size
   ·have b1 : ((E : Int) == (s.size : Int)) = false := beq_eq_false_iff_ne.2 om
    have hgE := toL_get s E hES
    have h6 : (E : Int) < s.size := om
    have HGE := zm hgE
    clear hgE
    by_cases hq : (s[E].toNat : Int) = 34
    ·have q1 : ((s[E].toNat : Int) == 34) = true := beq_iff_eq.2 hq
     have HQ : Hid (s.toList[E]? = some 34) := by
      show _ = _
      rw [zk HGE, byte_of (n := 34) hq]
     clear hq
     have HTX := zm ((zk HT).close (zk HQ))
     by_cases hy : 256 < ys.length
     ·have y1 : (256 : Int) < ys.length := om
      go_wp2_with fail
      go_ret
      exact post_long (zk HTX) hy (zk HB1)
     ·have y1 : ¬ (256 : Int) < ys.length := om
      have hcv := conv_own (own_heap (w' := w1.drew) rfl (zk HO1)) rfl
      go_wp2_with fail
      refine region_tail 9 zG zG ?_
      simp only [List.take_succ_cons, List.take_zero, List.drop_succ_cons, List.drop_zero]
      repeat still_step
      refine wpStill_nil ?_
      go_wp2_with fail
      refine (add_int b k (E + 1) _ om s sv ts 3 0 k ⟨ys.toArray⟩ _ (by exact ((zk H).below (zk HB1)).heap rfl) hn).mono ?_
      rintro e w2 ⟨rfl, sv', hst, hbl⟩
      have HS := zm hst
      have HBL := zm hbl
      clear hst hbl
      go_wp2
      go_ret
      refine post_some (zk HTX) hy sv' ?_ ((((zk HB1).mono (Nat.le_of_lt hlt)).drew).trans (zk HBL))
      have e1 : k + 1 + (E + 1 - (k + 1)) = E + 1 := by have := (zk HT).1; omega
      rw [e1]
      have e2 := zk HS
      rw [ByteArray.toList_mk] at e2
      exact e2
    ·have q1 : ((s[E].toNat : Int) == 34) = false := beq_eq_false_iff_ne.2 hq
     have HQ : Hid (s[E] ≠ 34) := fun e => hq (by rw [e]; rfl)
     clear hq
     have HEV := zm (escape_any b E s w1 hs hES c1)
     cases hes : escF s.toList E with
     | none =>
       rw [hes] at HEV
       have HTX := zm ((zk HT).bad (zk HGE) (zk HST _ (zk HGE)) (zk HQ) hes)
       clear hes
       go_wp2_with (first | (go_at_call 71; refine (zk HEV).mono ?_; rintro e w' ⟨rfl, hww⟩; have hw2 := hww.symm; clear hww; subst hw2))
       go_ret
       exact post_none (zk HTX) (by have := (zk HT).1; omega) (zk HB1)
     | some x =>
       rw [hes] at HEV
       have HTX := zm ((zk HT).esc hes)
       have hE2' : E + 1 < s.size := by
        rcases Nat.lt_or_ge (E + 1) s.size with h | h
        ·exact h
        ·rw [esc_out s E om] at hes; cases hes
       clear hes
       go_wp2_with (first | (go_at_call 71; refine (zk HEV).mono ?_; rintro e w' ⟨rfl, hww⟩; have hw2 := hww.symm; clear hww; subst hw2) | (at_builtin; refine wpList_append_lies _ rfl (.tmp 55) (.tmp 57) 46 rfl w.heap.size 5 i0 (.int .u8 0) 1 1 Tryz.underlying46 hi hz0 hz1 hz2 rfl dc _ ys.length (byteV ys) rfl ((zk HO1).alloc _) ⟨w1.heap.size, 0, none⟩ 1 1 [.int .u8 x.toNat] rfl rfl ?c1 ?c2 dc ?d1 ?d2 ?d3 _ rfl ?next2))
       case c1 => intro q u hq; match q, hq with | 0, hq => simp at hq; subst hq; simp [Addr.add]
       case c2 => intro u hu; simp at hu; subst hu; rfl
       case d1 => unfold maxLen; omega
       case d2 => omega
       case d3 => have := (zk HB1).size; simp; omega
       case next2 =>
        intro g2 cap2 w2 hown2 hgr2 _ _
        have hbel2 : Below w.heap.size w w2 := ((zk HB1).alloc (zk HB1).size _).grown hgr2 (by have := (zk HB1).size; simp; omega) (fun q hq => ((zk HO1).lt q hq).1)
        have HO2 := zm hown2
        have HB2 := zm hbel2
        clear hown2 hbel2 hgr2
        go_wp2_with fail
        exact ⟨⟨E + 2, ys ++ [x], om, by simp; omega, by go_num, by rw [byteV_app, List.length_append]; exact zk HO2, zk HB2, zk HTX⟩, by simp [intOf]; omega⟩
   ·have b1 : ((E : Int) == (s.size : Int)) = true := beq_iff_eq.2 om
    have HTX := zm ((zk HT).out (by rw [yx]; omega))
    go_wp2_with fail
    go_ret
    exact post_none (zk HTX) (by have := (zk HT).1; omega) (zk HB1)
end Go.Proofs.YtheknbfbneghgaaGreatDoor
