/- The code's Of over trees that are handed in: write, writeItem, writeFunc. -/
import Derived.Test.YtpmpjbnnjdpbnaaDoorTf
import Derived.Test.YtpmpjbnnjdpbnaaDoorSw
import Derived.Laws.Small
set_option linter.unusedVariables false
set_option linter.unusedSimpArgs false
namespace Go.Proofs.YtpmpjbnnjdpbnaaDoor
open Go.RowKit Go.Proofs.YtpmpjbnnjdpbnaaDoor.Lx

/-- The builder b has taken some bytes more; all else that is no row of bytes is as it was. -/
def Wrote (N b : Nat) (bs x : List UInt8) (w w' : World) : Prop := Lib.IsBuilderF 52 5 N b (Lib.byteCells (bs ++ x)) w' ∧ Below N w w' ∧ Lib.OthersKept 5 (some b) w w'
theorem Wrote.trans {N b : Nat} {bs x y : List UInt8} {w w1 w2 : World} (h : Wrote N b bs x w w1) (k : Wrote N b (bs ++ x) y w1 w2) : Wrote N b bs (x ++ y) w w2 :=
  ⟨by rw [← List.append_assoc]; exact k.1, h.2.1.trans k.2.1, h.2.2.trans k.2.2⟩
theorem Wrote.refl {N b : Nat} {bs : List UInt8} {w : World} (h : Lib.IsBuilderF 52 5 N b (Lib.byteCells bs) w) : Wrote N b bs [] w w :=
  ⟨by rw [List.append_nil]; exact h, Below.refl _ _, Lib.OthersKept.refl _ _ _⟩
theorem Wrote.alloc {N b : Nat} {bs x : List UInt8} {w w1 : World} (h : Wrote N b bs x w w1) (hN : N ≤ w.heap.size) (o : Obj) : Wrote N b bs x w (w1.alloc o) :=
  ⟨h.1.alloc o, h.2.1.alloc (by have := h.2.1.size; omega) o, h.2.2.alloc o⟩
theorem Wrote.blk {N b k t : Nat} {bs x : List UInt8} {w w1 : World} {cs : Array Value} (h : Wrote N b bs x w w1) (hk : w.heap[k]? = some (.cells cs t)) (hb : k ≠ b) (ht : t ≠ 5) : w1.heap[k]? = some (.cells cs t) :=
  h.2.2 k _ hk (by simpa using hb) (fun c fz e => by simp at e; exact ht e.2.1)
theorem bl_ge {N b : Nat} {bs : List Value} {w : World} (h : Lib.IsBuilderF 52 5 N b bs w) : N ≤ b ∧ b < w.heap.size := by
  rcases h with h | h
  · exact ⟨h.1, h.lt⟩
  · exact ⟨h.1, h.lt⟩
theorem wstr (N b : Nat) (bs : List UInt8) (s : ByteArray) (w : World) (h : Lib.IsBuilderF 52 5 N b (Lib.byteCells bs) w) (hlen : bs.length + s.size ≤ 100000000) (hN : N ≤ w.heap.size) :
    Calls Tryd.prog 45 #[.pointer (some ⟨b, 0, none⟩), .string s] w fun e w' => (∃ v, e = .returned v) ∧ Wrote N b bs s.toList w w' := by
  refine (write_k N b (Lib.byteCells bs) s w h (by rw [Lib.byteCells_length]; omega) hN).mono ?_
  rintro e w' ⟨rfl, h1, h2, h3⟩
  refine ⟨⟨_, rfl⟩, .inr ?_, h2, h3⟩
  rw [Lib.byteCells_append, ByteArray.toList_eq]
  exact h1
def WrP (N n : Nat) : Prop := ∀ (kd : Int) (tx : ByteArray) (nm ps : Int) (ty : ByteArray) (rf : Int) (kids : List Tr) (a : Option Addr) (cp b : Nat) (bs : List UInt8) (w : World), KidsT N w n kids a → N ≤ w.heap.size → kids.length ≤ cp → Lib.IsBuilderF 52 5 N b (Lib.byteCells bs) w →
    bs.length + wt (n + 1) (.mk kd tx nm ps ty rf kids) ≤ 8388608 →
    Calls Tryd.prog 37 #[.pointer (some ⟨b, 0, none⟩), .agg #[.int .i64 kd, .string tx, .int .i64 nm, .int .i64 ps, .string ty, .int .i64 rf, .slice a kids.length cp]] w fun e w' => e = .returned (.tuple #[]) ∧ Wrote N b bs (ofT (n + 1) (.mk kd tx nm ps ty rf kids)) w w'
theorem wt_first {n : Nat} {kids : List Tr} {j : Nat} {t : Tr} (e : kids[j]? = some t) : wt n t ≤ (kids.map (wt n)).sum := sum_mem (List.mem_map_of_mem (f := wt n) (List.mem_of_getElem? e))
set_option maxRecDepth 100000 in
set_option maxHeartbeats 1000000 in
theorem item_w (N n : Nat) (ih : ∀ m, n = m + 1 → WrP N m) (kids : List Tr) (a : Option Addr) (cp b : Nat) (bs : List UInt8) (w : World) (hk : KidsT N w n kids a) (hN : N ≤ w.heap.size) (hcp : kids.length ≤ cp) (hb : Lib.IsBuilderF 52 5 N b (Lib.byteCells bs) w)
    (hw : bs.length + (kids.map (wt n)).sum ≤ 8388608) :
    Calls Tryd.prog 46 #[.pointer (some ⟨b, 0, none⟩), .slice a kids.length cp] w fun e w' => e = .returned (.tuple #[]) ∧ Wrote N b bs ((kids.map (ofT n)).getD 0 []) w w' := by
  have hfew := hk.1
  unfold maxLen at hfew
  by_cases h0 : kids.length = 0
  · have hz : ¬ (0 : Int) < kids.length := by omega
    have HB := hide hb
    clear hb
    rw [getD_none (by omega)]
    go_enter Tryd.func46, Tryd.ntmps46
    go_wp2
    go_end0
    exact ⟨rfl, Wrote.refl (unhide HB)⟩
  · have hlt : 0 < kids.length := by omega
    have hltz : (0 : Int) < kids.length := by omega
    obtain ⟨m, b2, off, kd2, tx2, nm2, ps2, ty2, rf2, ks2, a2, cp2, hn, rfl, hbN, ek, hcp2, hk2, c0, c1, c2, c3, c4, c5, c6⟩ := hk.kid hlt
    simp only [Nat.zero_mul, Nat.add_zero] at c0 c1 c2 c3 c4 c5 c6
    have H1 := hide (ih m hn kd2 tx2 nm2 ps2 ty2 rf2 ks2 a2 cp2 b bs w hk2 hN hcp2 hb (by have := wt_first (n := n) ek; rw [hn] at this hw; omega))
    rw [← hn] at H1
    rw [getD_map ek]
    clear hb hk hk2 ih hw
    go_enter Tryd.func46, Tryd.ntmps46
    go_wp2_with (go_at_call 37; refine (unhide H1).mono ?_; rintro e w2 ⟨rfl, h2⟩; have H2 := hide h2; clear h2)
    go_end0
    exact ⟨rfl, unhide H2⟩
theorem sum_take_kid {n : Nat} {kids : List Tr} {j : Nat} {t : Tr} (e : kids[j]? = some t) : ((kids.take j).map (wt n)).sum + wt n t ≤ (kids.map (wt n)).sum := by
  have h := sum_take n kids (j + 1)
  rw [List.take_add_one, e, List.map_append, List.sum_append] at h
  simpa using h
theorem KidsT.drop {N : Nat} {w : World} {n : Nat} {kids : List Tr} {a : Option Addr} (h : KidsT N w n kids a) (i : Nat) : KidsT N w n (kids.drop i) (a.map fun x => x.add (i * 7)) := by
  refine ⟨by have := h.1; rw [List.length_drop]; omega, fun j hj => ?_⟩
  rw [List.length_drop] at hj
  obtain ⟨b, off, cs, e1, hb, hc, hx⟩ := h.2 (i + j) (by omega)
  subst e1
  refine ⟨b, off + i * 7, cs, by simp [Go.WideShapes.add_plain], hb, by simpa using hc, fun k u hk => ?_⟩
  have := hx k u hk
  rw [Nat.add_mul, ← Nat.add_assoc] at this
  exact this
theorem KidsT.none {N : Nat} {w : World} {n : Nat} {kids : List Tr} {a : Option Addr} (h : kids.length = 0) : KidsT N w n kids a := ⟨by omega, fun j hj => by omega⟩
theorem getD_drop (n : Nat) (kids : List Tr) (j : Nat) : ((kids.drop j).map (ofT n)).getD 0 [] = (kids.map (ofT n)).getD j [] := by
  simp [List.getD]
theorem sum_drop (n : Nat) (kids : List Tr) (j : Nat) : ((kids.take j).map (wt n)).sum + ((kids.drop j).map (wt n)).sum = (kids.map (wt n)).sum := by
  conv => rhs; rw [← List.take_append_drop j kids]
  rw [List.map_append, List.sum_append]
set_option maxRecDepth 100000 in
set_option maxHeartbeats 1000000 in
theorem func_w (N n : Nat) (ih : ∀ m, n = m + 1 → WrP N m) (kids : List Tr) (a : Option Addr) (cp b : Nat) (bs : List UInt8) (w : World) (hk : KidsT N w n kids a) (hN : N ≤ w.heap.size) (hcp : kids.length ≤ cp) (hb : Lib.IsBuilderF 52 5 N b (Lib.byteCells bs) w)
    (hw : bs.length + 8 + (kids.map (wt n)).sum ≤ 8388608) :
    Calls Tryd.prog 47 #[.pointer (some ⟨b, 0, none⟩), .slice a kids.length cp] w fun e w' => e = .returned (.tuple #[]) ∧ Wrote N b bs ([102, 117, 110, 99, 40] ++ pt (kids.map (ofT n)) (kids.length - 1) ++ [41] ++ (kids.map (ofT n)).getD (kids.length - 1) []) w w' := by
  have hfew := hk.1
  unfold maxLen at hfew
  have HK := hide hk
  have HI := hide ih
  have HB := hide hb
  have HW := hide hw
  have H1 := hide (wstr N b bs ⟨#[102, 117, 110, 99, 40]⟩ w hb (by simp [ByteArray.size]; omega) hN)
  clear hk ih hb hw
  have hm : max ((kids.length : Int) - 1) 0 = ((kids.length - 1 : Nat) : Int) := by omega
  have hL : kids.length - 1 ≤ kids.length := by omega
  generalize hLe : kids.length - 1 = L at hm hL ⊢
  have HL := hide hLe
  clear hLe
  go_enter Tryd.func47, Tryd.ntmps47
  go_wp2_with (go_at_call 45; refine (unhide H1).mono ?_; rintro e w2 ⟨⟨v, rfl⟩, h2⟩; have H2 := hide h2; clear h2)
  try simp only [hm, Int.toNat_natCast]
  clear hm
  go_loopg [17] (L + 1) (fun g v17 wr => ∃ j : Nat, g = L + 1 - j ∧ j ≤ L ∧ v17 = .int .i64 j ∧ Hid (Wrote N b bs ([102, 117, 110, 99, 40] ++ pt (kids.map (ofT n)) j) w wr))
  case atStart => exact ⟨0, by omega, by omega, rfl, hide (by rw [pt, List.append_nil]; have := unhide H2; rw [mk_toL2] at this; exact this)⟩
  case round =>
    obtain ⟨j, rfl, hj, rfl, HR⟩ := hrel
    have hbs := (unhide HR).2.1.size
    by_cases hlt : j < L
    · have hltz : (j : Int) < L := by omega
      obtain ⟨m, b2, off, kd2, tx2, nm2, ps2, ty2, rf2, ks2, a2, cp2, hn, rfl, hbN, ek, hcp2, hk2, c0, c1, c2, c3, c4, c5, c6⟩ := ((unhide HK).below (unhide HR).2.1).kid (show j < kids.length by omega)
      have IH := hide (unhide HI m hn)
      have HK2 := hide hk2
      have HE := hide ek
      have HP : Hid (bs.length + ([102, 117, 110, 99, 40] ++ pt (kids.map (ofT n)) j).length + 1 + wt (m + 1) (.mk kd2 tx2 nm2 ps2 ty2 rf2 ks2) ≤ 8388608) := by
        have h1 := pt_len n kids (ofT_len n) j (by omega)
        have h2 := sum_take_kid (n := n) ek
        have h3 := unhide HW
        rw [← hn]
        show _ ≤ _
        simp only [List.length_append, List.length_cons, List.length_nil]
        omega
      have hbb := bl_ge (unhide HR).1
      have hbw : b2 < wr.heap.size := by omega
      clear hk2 ek
      have hl1 : (bs ++ ([102, 117, 110, 99, 40] ++ pt (kids.map (ofT n)) j)).length + (⟨#[44]⟩ : ByteArray).size ≤ 100000000 := by
        have := unhide HP
        show _ + 1 ≤ _
        rw [List.length_append]
        omega
      have HL1 := hide hl1
      clear hl1
      by_cases hj0 : 0 < j
      · have hj0z : (0 : Int) < j := by omega
        go_wp2_with (first
          | (go_at_call 45; refine (wstr N b (bs ++ ([102, 117, 110, 99, 40] ++ pt (kids.map (ofT n)) j)) _ _ ((unhide HR).1.alloc _) (unhide HL1) (by simp; omega)).mono ?_; rintro e w5 ⟨⟨v5, rfl⟩, h5⟩; rw [mk_toL2] at h5; have H5 := hide (((unhide HR).alloc hN _).trans h5); have HB5 := hide (((Below.refl N wr).alloc (by omega) _).trans h5.2.1); have hx := h5.blk (heap_alloc_new' wr _ rfl) (by omega) (by decide); have x0 := blk_cell hx 0; have x1 := blk_cell hx 1; have x2 := blk_cell hx 2; have x3 := blk_cell hx 3; have x4 := blk_cell hx 4; have x5 := blk_cell hx 5; have x6 := blk_cell hx 6; simp at x0 x1 x2 x3 x4 x5 x6; clear h5 hx)
          | (go_at_call 37; refine (unhide IH kd2 tx2 nm2 ps2 ty2 rf2 ks2 a2 cp2 b (bs ++ (([102, 117, 110, 99, 40] ++ pt (kids.map (ofT n)) j) ++ [44])) _ ((unhide HK2).below (unhide HB5)) (by have := (unhide HB5).size; omega) hcp2 (unhide H5).1 (by have := unhide HP; simp only [List.length_append] at this ⊢; simp only [List.length_cons, List.length_nil] at this ⊢; omega)).mono ?_; rintro e w6 ⟨rfl, h6⟩; have H6 := hide ((unhide H5).trans h6); clear h6))
        go_roundg (L + 1 - (j + 1))
        case measure => omega
        case rel => exact ⟨j + 1, rfl, by omega, by go_num, hide (by rw [pt, getD_map (unhide HE), if_neg (by omega)]; have h := unhide H6; rw [← hn] at h; simpa using h)⟩
      · have hj0z : ¬ (0 : Int) < j := by omega
        go_wp2_with (go_at_call 37; refine (unhide IH kd2 tx2 nm2 ps2 ty2 rf2 ks2 a2 cp2 b (bs ++ ([102, 117, 110, 99, 40] ++ pt (kids.map (ofT n)) j)) _ ((unhide HK2).below ((Below.refl N wr).alloc (by omega) _)) (by simp; omega) hcp2 ((unhide HR).1.alloc _) (by have := unhide HP; simp only [List.length_append] at this ⊢; omega)).mono ?_; rintro e w6 ⟨rfl, h6⟩; have H6 := hide (((unhide HR).alloc hN _).trans h6); clear h6)
        go_roundg (L + 1 - (j + 1))
        case measure => omega
        case rel => exact ⟨j + 1, rfl, by omega, by go_num, hide (by rw [pt, getD_map (unhide HE), if_pos (by omega)]; have h := unhide H6; rw [← hn] at h; simpa using h)⟩
    · have hltz : ¬ (j : Int) < L := by omega
      obtain rfl : j = L := by omega
      have hl1 : (bs ++ ([102, 117, 110, 99, 40] ++ pt (kids.map (ofT n)) j)).length + (⟨#[41]⟩ : ByteArray).size ≤ 100000000 := by
        have h1 := pt_len n kids (ofT_len n) j (by omega)
        have h2 := sum_take n kids j
        have h3 := unhide HW
        show _ + 1 ≤ _
        simp only [List.length_append, List.length_cons, List.length_nil]
        omega
      have HL1 := hide hl1
      clear hl1
      have hwb0 : (bs ++ (([102, 117, 110, 99, 40] ++ pt (kids.map (ofT n)) j) ++ [41])).length + ((kids.drop j).map (wt n)).sum ≤ 8388608 := by
        have h1 := pt_len n kids (ofT_len n) j (by omega)
        have h2 := sum_drop n kids j
        have h3 := unhide HW
        simp only [List.length_append, List.length_cons, List.length_nil]
        omega
      have HWB := hide hwb0
      clear hwb0
      go_wp2_with (go_at_call 45; refine (wstr N b (bs ++ ([102, 117, 110, 99, 40] ++ pt (kids.map (ofT n)) j)) _ _ (unhide HR).1 (unhide HL1) (by omega)).mono ?_; rintro e w5 ⟨⟨v5, rfl⟩, h5⟩; rw [mk_toL2] at h5; have H5 := hide ((unhide HR).trans h5); clear h5)
      all_goals have e0 : kids.length - j = (kids.drop j).length := by rw [List.length_drop]
      all_goals rw [e0]
      all_goals have h5s := (unhide H5).2.1.size
      · have hz0 : kids.length = 0 := by have := unhide HL; omega
        refine (item_w N n (unhide HI) (kids.drop j) _ _ b _ w5 (KidsT.none (by rw [List.length_drop]; omega)) (by omega) (by rw [List.length_drop]; omega) (unhide H5).1 (unhide HWB)).mono ?_
        rintro e w6 ⟨rfl, h6⟩
        have H6 := hide ((unhide H5).trans h6)
        clear h6 e0
        rw [getD_drop] at H6
        go_wp2
        go_end0
        exact ⟨rfl, by simpa using unhide H6⟩
      · refine (item_w N n (unhide HI) (kids.drop j) _ _ b _ w5 (((unhide HK).below (unhide H5).2.1).drop j) (by omega) (by rw [List.length_drop]; omega) (unhide H5).1 (unhide HWB)).mono ?_
        rintro e w6 ⟨rfl, h6⟩
        have H6 := hide ((unhide H5).trans h6)
        clear h6 e0
        rw [getD_drop] at H6
        go_wp2
        go_end0
        exact ⟨rfl, by simpa using unhide H6⟩
set_option maxRecDepth 100000 in
set_option maxHeartbeats 2000000 in
theorem wr_step (N n : Nat) (ih : ∀ m, n = m + 1 → WrP N m) : WrP N n := by
  intro kd tx nm ps ty rf kids a cp b bs w hk hN hcp hb hwt
  have hfew := hk.1
  unfold maxLen at hfew
  have hbb := bl_ge hb
  have HF := fun (w1 : World) (bs1 : List UInt8) (h1 : Below N w w1) (h2 : Lib.IsBuilderF 52 5 N b (Lib.byteCells bs1) w1) (h3 : bs1.length + 8 + (kids.map (wt n)).sum ≤ 8388608) => func_w N n ih kids a cp b bs1 w1 (hk.below h1) (by have := h1.size; omega) hcp h2 h3
  have HT := fun (w1 : World) (bs1 : List UInt8) (h1 : Below N w w1) (h2 : Lib.IsBuilderF 52 5 N b (Lib.byteCells bs1) w1) (h3 : bs1.length + (kids.map (wt n)).sum ≤ 8388608) => item_w N n ih kids a cp b bs1 w1 (hk.below h1) (by have := h1.size; omega) hcp h2 h3
  have HF1 := hide HF
  have HT1 := hide HT
  have HB := hide hb
  have hwt2 : bs.length + (8 + tx.size + (kids.map (wt n)).sum) ≤ 8388608 := hwt
  have HW := hide hwt2
  have htx : tx.size ≤ 8388608 := by omega
  have HS : Hid (∀ (s : ByteArray) (x : List UInt8), x.length ≤ 8 → s.size ≤ 8388608 → (bs ++ x).length + s.size ≤ 100000000) := by
    intro s x hx hs
    rw [List.length_append]
    omega
  clear HF HT hk ih hb hwt hwt2
  have h0 := fun o => (Wrote.refl (unhide HB)).alloc hN o
  have H0 := hide h0
  clear h0
  rcases form_cases kd with rfl | rfl | rfl | rfl | rfl | rfl | rfl | ⟨h9, h10, h11, h12, h13, h14, h15⟩
  · go_enter Tryd.func37, Tryd.ntmps37
    go_wp2_with (go_at_call 45; refine (wstr N b (bs ++ []) _ _ (unhide H0 _).1 (unhide HS _ [] (by decide) (by decide)) (by simp; omega)).mono ?_; rintro e w2 ⟨⟨v, rfl⟩, h2⟩; rw [mk_toL2] at h2; have H2 := hide ((unhide H0 _).trans h2); clear h2)
    go_end0
    exact ⟨rfl, by have h := unhide H2; simpa [ofT_succ, form] using h⟩
  · go_enter Tryd.func37, Tryd.ntmps37
    go_wp2_with (go_at_call 45; refine (wstr N b (bs ++ []) _ _ (unhide H0 _).1 (unhide HS _ [] (by decide) (by decide)) (by simp; omega)).mono ?_; rintro e w2 ⟨⟨v, rfl⟩, h2⟩; rw [mk_toL2] at h2; have H2 := hide ((unhide H0 _).trans h2); clear h2)
    go_end0
    exact ⟨rfl, by have h := unhide H2; simpa [ofT_succ, form] using h⟩
  · go_enter Tryd.func37, Tryd.ntmps37
    go_wp2_with (go_at_call 45; refine (wstr N b (bs ++ []) _ _ (unhide H0 _).1 (unhide HS _ [] (by decide) (by decide)) (by simp; omega)).mono ?_; rintro e w2 ⟨⟨v, rfl⟩, h2⟩; rw [mk_toL2] at h2; have H2 := hide ((unhide H0 _).trans h2); clear h2)
    go_end0
    exact ⟨rfl, by have h := unhide H2; simpa [ofT_succ, form] using h⟩
  · go_enter Tryd.func37, Tryd.ntmps37
    go_wp2_with (first
      | (go_at_call 45; refine (wstr N b (bs ++ [42]) _ _ (unhide H2).1 (unhide HS _ [42] (by decide) htx) (by omega)).mono ?_; rintro e w3 ⟨⟨v3, rfl⟩, h3⟩; have H3 := hide ((unhide H2).trans h3); clear h3)
      | (go_at_call 45; refine (wstr N b (bs ++ []) _ _ (unhide H0 _).1 (unhide HS _ [] (by decide) (by decide)) (by simp; omega)).mono ?_; rintro e w2 ⟨⟨v, rfl⟩, h2⟩; rw [mk_toL2] at h2; have hbl := h2.blk (heap_alloc_new' w _ rfl) (by omega) (by decide); have x1 := blk_cell hbl 1; simp at x1; have H2 := hide ((unhide H0 _).trans h2); have hs2 := (unhide H2).2.1.size; clear h2 hbl))
    go_end0
    exact ⟨rfl, by have h := unhide H3; simpa [ofT_succ, form] using h⟩
  · go_enter Tryd.func37, Tryd.ntmps37
    go_wp2_with (first
      | (go_at_call 46; refine (unhide HT1 _ (bs ++ [91, 93]) (unhide H2).2.1 (unhide H2).1 (by have := unhide HW; rw [List.length_append]; simp only [List.length_cons, List.length_nil]; omega)).mono ?_; rintro e w3 ⟨rfl, h3⟩; have H3 := hide ((unhide H2).trans h3); clear h3)
      | (go_at_call 45; refine (wstr N b (bs ++ []) _ _ (unhide H0 _).1 (unhide HS _ [] (by decide) (by decide)) (by simp; omega)).mono ?_; rintro e w2 ⟨⟨v, rfl⟩, h2⟩; rw [mk_toL2] at h2; have hbl := h2.blk (heap_alloc_new' w _ rfl) (by omega) (by decide); have x6 := blk_cell hbl 6; simp at x6; have H2 := hide ((unhide H0 _).trans h2); have hs2 := (unhide H2).2.1.size; clear h2 hbl))
    go_end0
    exact ⟨rfl, by have h := unhide H3; simpa [ofT_succ, form] using h⟩
  · go_enter Tryd.func37, Tryd.ntmps37
    go_wp2_with (first
      | (go_at_call 46; refine (unhide HT1 _ (bs ++ [99, 104, 97, 110, 32]) (unhide H2).2.1 (unhide H2).1 (by have := unhide HW; rw [List.length_append]; simp only [List.length_cons, List.length_nil]; omega)).mono ?_; rintro e w3 ⟨rfl, h3⟩; have H3 := hide ((unhide H2).trans h3); clear h3)
      | (go_at_call 45; refine (wstr N b (bs ++ []) _ _ (unhide H0 _).1 (unhide HS _ [] (by decide) (by decide)) (by simp; omega)).mono ?_; rintro e w2 ⟨⟨v, rfl⟩, h2⟩; rw [mk_toL2] at h2; have hbl := h2.blk (heap_alloc_new' w _ rfl) (by omega) (by decide); have x6 := blk_cell hbl 6; simp at x6; have H2 := hide ((unhide H0 _).trans h2); have hs2 := (unhide H2).2.1.size; clear h2 hbl))
    go_end0
    exact ⟨rfl, by have h := unhide H3; simpa [ofT_succ, form] using h⟩
  · go_enter Tryd.func37, Tryd.ntmps37
    go_wp2_with (go_at_call 47; refine (unhide HF1 _ (bs ++ []) (unhide H0 _).2.1 (unhide H0 _).1 (by have := unhide HW; rw [List.append_nil]; omega)).mono ?_; rintro e w2 ⟨rfl, h2⟩; have H2 := hide ((unhide H0 _).trans h2); clear h2)
    go_end0
    exact ⟨rfl, by have h := unhide H2; simpa [ofT_succ, form] using h⟩
  · go_enter Tryd.func37, Tryd.ntmps37
    go_wp2
    go_end0
    exact ⟨rfl, by have h := unhide H0; simpa [ofT_succ, form, h9, h10, h11, h12, h13, h14, h15] using h _⟩
theorem wr_w (N : Nat) : ∀ n, WrP N n := by
  intro n
  induction n with
  | zero => exact wr_step N 0 fun m h => by omega
  | succ n ih => exact wr_step N (n + 1) fun m h => by obtain rfl : m = n := by omega
                                                       exact ih
end Go.Proofs.YtpmpjbnnjdpbnaaDoor
