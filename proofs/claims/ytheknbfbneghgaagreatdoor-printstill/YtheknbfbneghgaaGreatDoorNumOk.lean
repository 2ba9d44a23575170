import Derived.Test.YtheknbfbneghgaaGreatDoorNum
set_option maxHeartbeats 800000
set_option maxRecDepth 100000
namespace Go.Proofs.YtheknbfbneghgaaGreatDoor
open Go.RowKit Lx
theorem number_ok_one_in (b k E : Nat) (s : ByteArray) (sv : Value) (ts : List Tok) (w : World) (hs : s.size ≤ 8192) (h : St w b s k sv ts) (hn : ts.length ≤ 100000) (hE : Hid (yL isDig s.toList k = E)) (h2 : E ≤ s.size) (h1 : E - k ≤ 1) (hkE : k < E) (hlt : E < s.size) (hl : isLet s[E] = false) :
 Calls Tryz.prog 49 #[.pointer (some ⟨b, 0, none⟩)] w fun ev w' => ev = .returned .nilIface ∧ ∃ sv', St w' b s E sv' (ts ++ [⟨2, sub s.toList k E, numV (sub s.toList k E), k⟩]) ∧ Below b w w' := by
 have hc : w.cell? ⟨b, 0, none⟩ = some (.string s) := zv h.blk 0
 have ha : w.cell? ⟨b, 1, none⟩ = some (.int .i64 k) := zv h.blk 1
 have H := zm h
 have HC : Hid (b < w.heap.size) := blk_lt h.blk
 clear h
 have HD := zm (run_sub_all isDig s.toList k)
 rw [zk hE] at HD
 rw [← ext_toL] at HD ⊢
 have H1 := zm (run_isDig b k s w hs om hc)
 rw [zk hE] at H1
 have h3 : (k : Int) ≤ E := om
 have h4 : (E : Int) ≤ s.size := om
 have h5 : (0 : Int) ≤ k := om
 have hz : (s.extract k E).size = E - k := ext_size s k E h2
 have h6 : ((E - k : Nat) : Int) ≤ 18 := om
 have h8 : 0 < E - k := om
 have h7 : ((E - k : Nat) : Int) ≤ 1 := om
 have h9 : (E : Int) < s.size := om
 go_enter Tryz.func49, Tryz.ntmps49
 go_wp2_with (first | (go_at_call 43; refine (zk H1).mono ?_; rintro e w' ⟨rfl, rfl⟩))
 go_quiet (fail)
 go_wp2_with (first | (go_at_call 45; refine (isLetter_b _ _).mono ?_; rintro e w' ⟨rfl, rfl⟩))
 generalize hx : s.extract k E = x at *
 have HX := zm hx
 clear hx
 go_loop [5, 63] (fun v i => ∃ j : Nat, j ≤ E - k ∧ i = .int .i64 j ∧ v = .int .i64 (numV (x.toList.take j))) (fun _ i => (E - k) - (intOf i).toNat)
 case atStart => exact ⟨0, Nat.zero_le _, rfl, rfl⟩
 case round =>
  obtain ⟨j, hj, rfl, rfl⟩ := hrel
  by_cases hjl : j < E - k
  ·have hjx : j < x.size := om
   have hbd := isDig_bd x[j] (zk HD _ (List.mem_of_getElem? (toL_get x j hjx)))
   have hV17 := numV_le17 (x.toList.take j) (by rw [List.length_take]; omega) (fun c hc => zk HD c (List.mem_of_mem_take hc))
   have HT : Hid (numV (x.toList.take (j + 1)) = numV (x.toList.take j) * 10 + ((x[j].toNat : Int) - 48)) := by
    show _ = _
    rw [toL_take x j hjx, numV_snoc]
   generalize numV (x.toList.take j) = V at *
   obtain ⟨hb1, hb2⟩ := hbd
   obtain ⟨hv1, hv2⟩ := hV17
   go_wp2
   go_round
   case rel => exact ⟨j + 1, hjl, by go_num, by rw [zk HT]⟩
   case measure => simp [intOf]; omega
  ·obtain rfl : j = E - k := om
   have HT : Hid (numV (x.toList.take (E - k)) = numV x.toList) := by
    show _ = _
    rw [List.take_of_length_le (by rw [yx]; omega)]
   rw [zk HT]
   generalize hV : numV x.toList = V at *
   have HV := zm hV
   clear hV
   go_wp2_with fail
   refine (add_any b k E s sv ts 2 V k x _ zW hn).mono ?_
   rintro e w1 ⟨rfl, sv', hst, hbl⟩
   have HS := zm hst
   have HBL := zm hbl
   clear hst hbl
   go_wp2
   go_ret
   exact ⟨rfl, sv', by rw [zk HX, zk HV]; exact zk HS, (below_drewN (Below.refl b _) _).trans (zk HBL)⟩
theorem number_ok_one_end (b k E : Nat) (s : ByteArray) (sv : Value) (ts : List Tok) (w : World) (hs : s.size ≤ 8192) (h : St w b s k sv ts) (hn : ts.length ≤ 100000) (hE : Hid (yL isDig s.toList k = E)) (h2 : E ≤ s.size) (h1 : E - k ≤ 1) (hkE : k < E) (hlt : ¬ E < s.size) :
 Calls Tryz.prog 49 #[.pointer (some ⟨b, 0, none⟩)] w fun ev w' => ev = .returned .nilIface ∧ ∃ sv', St w' b s E sv' (ts ++ [⟨2, sub s.toList k E, numV (sub s.toList k E), k⟩]) ∧ Below b w w' := by
 have hc : w.cell? ⟨b, 0, none⟩ = some (.string s) := zv h.blk 0
 have ha : w.cell? ⟨b, 1, none⟩ = some (.int .i64 k) := zv h.blk 1
 have H := zm h
 have HC : Hid (b < w.heap.size) := blk_lt h.blk
 clear h
 have HD := zm (run_sub_all isDig s.toList k)
 rw [zk hE] at HD
 rw [← ext_toL] at HD ⊢
 have H1 := zm (run_isDig b k s w hs om hc)
 rw [zk hE] at H1
 have h3 : (k : Int) ≤ E := om
 have h4 : (E : Int) ≤ s.size := om
 have h5 : (0 : Int) ≤ k := om
 have hz : (s.extract k E).size = E - k := ext_size s k E h2
 have h6 : ((E - k : Nat) : Int) ≤ 18 := om
 have h8 : 0 < E - k := om
 have h7 : ((E - k : Nat) : Int) ≤ 1 := om
 go_enter Tryz.func49, Tryz.ntmps49
 go_wp2_with (first | (go_at_call 43; refine (zk H1).mono ?_; rintro e w' ⟨rfl, rfl⟩))
 go_quiet (fail)
 go_wp2_with (first | (go_at_call 45; refine (isLetter_b _ _).mono ?_; rintro e w' ⟨rfl, rfl⟩))
 generalize hx : s.extract k E = x at *
 have HX := zm hx
 clear hx
 go_loop [5, 63] (fun v i => ∃ j : Nat, j ≤ E - k ∧ i = .int .i64 j ∧ v = .int .i64 (numV (x.toList.take j))) (fun _ i => (E - k) - (intOf i).toNat)
 case atStart => exact ⟨0, Nat.zero_le _, rfl, rfl⟩
 case round =>
  obtain ⟨j, hj, rfl, rfl⟩ := hrel
  by_cases hjl : j < E - k
  ·have hjx : j < x.size := om
   have hbd := isDig_bd x[j] (zk HD _ (List.mem_of_getElem? (toL_get x j hjx)))
   have hV17 := numV_le17 (x.toList.take j) (by rw [List.length_take]; omega) (fun c hc => zk HD c (List.mem_of_mem_take hc))
   have HT : Hid (numV (x.toList.take (j + 1)) = numV (x.toList.take j) * 10 + ((x[j].toNat : Int) - 48)) := by
    show _ = _
    rw [toL_take x j hjx, numV_snoc]
   generalize numV (x.toList.take j) = V at *
   obtain ⟨hb1, hb2⟩ := hbd
   obtain ⟨hv1, hv2⟩ := hV17
   go_wp2
   go_round
   case rel => exact ⟨j + 1, hjl, by go_num, by rw [zk HT]⟩
   case measure => simp [intOf]; omega
  ·obtain rfl : j = E - k := om
   have HT : Hid (numV (x.toList.take (E - k)) = numV x.toList) := by
    show _ = _
    rw [List.take_of_length_le (by rw [yx]; omega)]
   rw [zk HT]
   generalize hV : numV x.toList = V at *
   have HV := zm hV
   clear hV
   go_wp2_with fail
   refine (add_any b k E s sv ts 2 V k x _ zW hn).mono ?_
   rintro e w1 ⟨rfl, sv', hst, hbl⟩
   have HS := zm hst
   have HBL := zm hbl
   clear hst hbl
   go_wp2
   go_ret
   exact ⟨rfl, sv', by rw [zk HX, zk HV]; exact zk HS, (below_drewN (Below.refl b _) _).trans (zk HBL)⟩
theorem number_ok_more_in (b k E : Nat) (s : ByteArray) (sv : Value) (ts : List Tok) (w : World) (hs : s.size ≤ 8192) (h : St w b s k sv ts) (hn : ts.length ≤ 100000) (hE : Hid (yL isDig s.toList k = E)) (h2 : E ≤ s.size) (h1 : 1 < E - k) (hb : E - k ≤ 18) (h0 : 0 < (s.extract k E).size) (hd : (((s.extract k E)[0].toNat : Int) == 48) = false) (hlt : E < s.size) (hl : isLet s[E] = false) :
 Calls Tryz.prog 49 #[.pointer (some ⟨b, 0, none⟩)] w fun ev w' => ev = .returned .nilIface ∧ ∃ sv', St w' b s E sv' (ts ++ [⟨2, sub s.toList k E, numV (sub s.toList k E), k⟩]) ∧ Below b w w' := by
 have hc : w.cell? ⟨b, 0, none⟩ = some (.string s) := zv h.blk 0
 have ha : w.cell? ⟨b, 1, none⟩ = some (.int .i64 k) := zv h.blk 1
 have H := zm h
 have HC : Hid (b < w.heap.size) := blk_lt h.blk
 clear h
 have HD := zm (run_sub_all isDig s.toList k)
 rw [zk hE] at HD
 rw [← ext_toL] at HD ⊢
 have H1 := zm (run_isDig b k s w hs om hc)
 rw [zk hE] at H1
 have h3 : (k : Int) ≤ E := om
 have h4 : (E : Int) ≤ s.size := om
 have h5 : (0 : Int) ≤ k := om
 have hz : (s.extract k E).size = E - k := ext_size s k E h2
 have h6 : ((E - k : Nat) : Int) ≤ 18 := om
 have h8 : 0 < E - k := om
 have h7 : 1 < ((E - k : Nat) : Int) := om
 have h9 : (E : Int) < s.size := om
 go_enter Tryz.func49, Tryz.ntmps49
 go_wp2_with (first | (go_at_call 43; refine (zk H1).mono ?_; rintro e w' ⟨rfl, rfl⟩))
 go_quiet (fail)
 go_wp2_with (first | (go_at_call 45; refine (isLetter_b _ _).mono ?_; rintro e w' ⟨rfl, rfl⟩))
 generalize hx : s.extract k E = x at *
 have HX := zm hx
 clear hx
 go_loop [5, 63] (fun v i => ∃ j : Nat, j ≤ E - k ∧ i = .int .i64 j ∧ v = .int .i64 (numV (x.toList.take j))) (fun _ i => (E - k) - (intOf i).toNat)
 case atStart => exact ⟨0, Nat.zero_le _, rfl, rfl⟩
 case round =>
  obtain ⟨j, hj, rfl, rfl⟩ := hrel
  by_cases hjl : j < E - k
  ·have hjx : j < x.size := om
   have hbd := isDig_bd x[j] (zk HD _ (List.mem_of_getElem? (toL_get x j hjx)))
   have hV17 := numV_le17 (x.toList.take j) (by rw [List.length_take]; omega) (fun c hc => zk HD c (List.mem_of_mem_take hc))
   have HT : Hid (numV (x.toList.take (j + 1)) = numV (x.toList.take j) * 10 + ((x[j].toNat : Int) - 48)) := by
    show _ = _
    rw [toL_take x j hjx, numV_snoc]
   generalize numV (x.toList.take j) = V at *
   obtain ⟨hb1, hb2⟩ := hbd
   obtain ⟨hv1, hv2⟩ := hV17
   go_wp2
   go_round
   case rel => exact ⟨j + 1, hjl, by go_num, by rw [zk HT]⟩
   case measure => simp [intOf]; omega
  ·obtain rfl : j = E - k := om
   have HT : Hid (numV (x.toList.take (E - k)) = numV x.toList) := by
    show _ = _
    rw [List.take_of_length_le (by rw [yx]; omega)]
   rw [zk HT]
   generalize hV : numV x.toList = V at *
   have HV := zm hV
   clear hV
   go_wp2_with fail
   refine (add_any b k E s sv ts 2 V k x _ zW hn).mono ?_
   rintro e w1 ⟨rfl, sv', hst, hbl⟩
   have HS := zm hst
   have HBL := zm hbl
   clear hst hbl
   go_wp2
   go_ret
   exact ⟨rfl, sv', by rw [zk HX, zk HV]; exact zk HS, (below_drewN (Below.refl b _) _).trans (zk HBL)⟩
theorem number_ok_more_end (b k E : Nat) (s : ByteArray) (sv : Value) (ts : List Tok) (w : World) (hs : s.size ≤ 8192) (h : St w b s k sv ts) (hn : ts.length ≤ 100000) (hE : Hid (yL isDig s.toList k = E)) (h2 : E ≤ s.size) (h1 : 1 < E - k) (hb : E - k ≤ 18) (h0 : 0 < (s.extract k E).size) (hd : (((s.extract k E)[0].toNat : Int) == 48) = false) (hlt : ¬ E < s.size) :
 Calls Tryz.prog 49 #[.pointer (some ⟨b, 0, none⟩)] w fun ev w' => ev = .returned .nilIface ∧ ∃ sv', St w' b s E sv' (ts ++ [⟨2, sub s.toList k E, numV (sub s.toList k E), k⟩]) ∧ Below b w w' := by
 have hc : w.cell? ⟨b, 0, none⟩ = some (.string s) := zv h.blk 0
 have ha : w.cell? ⟨b, 1, none⟩ = some (.int .i64 k) := zv h.blk 1
 have H := zm h
 have HC : Hid (b < w.heap.size) := blk_lt h.blk
 clear h
 have HD := zm (run_sub_all isDig s.toList k)
 rw [zk hE] at HD
 rw [← ext_toL] at HD ⊢
 have H1 := zm (run_isDig b k s w hs om hc)
 rw [zk hE] at H1
 have h3 : (k : Int) ≤ E := om
 have h4 : (E : Int) ≤ s.size := om
 have h5 : (0 : Int) ≤ k := om
 have hz : (s.extract k E).size = E - k := ext_size s k E h2
 have h6 : ((E - k : Nat) : Int) ≤ 18 := om
 have h8 : 0 < E - k := om
 have h7 : 1 < ((E - k : Nat) : Int) := om
 go_enter Tryz.func49, Tryz.ntmps49
 go_wp2_with (first | (go_at_call 43; refine (zk H1).mono ?_; rintro e w' ⟨rfl, rfl⟩))
 go_quiet (fail)
 go_wp2_with (first | (go_at_call 45; refine (isLetter_b _ _).mono ?_; rintro e w' ⟨rfl, rfl⟩))
 generalize hx : s.extract k E = x at *
 have HX := zm hx
 clear hx
 go_loop [5, 63] (fun v i => ∃ j : Nat, j ≤ E - k ∧ i = .int .i64 j ∧ v = .int .i64 (numV (x.toList.take j))) (fun _ i => (E - k) - (intOf i).toNat)
 case atStart => exact ⟨0, Nat.zero_le _, rfl, rfl⟩
 case round =>
  obtain ⟨j, hj, rfl, rfl⟩ := hrel
  by_cases hjl : j < E - k
  ·have hjx : j < x.size := om
   have hbd := isDig_bd x[j] (zk HD _ (List.mem_of_getElem? (toL_get x j hjx)))
   have hV17 := numV_le17 (x.toList.take j) (by rw [List.length_take]; omega) (fun c hc => zk HD c (List.mem_of_mem_take hc))
   have HT : Hid (numV (x.toList.take (j + 1)) = numV (x.toList.take j) * 10 + ((x[j].toNat : Int) - 48)) := by
    show _ = _
    rw [toL_take x j hjx, numV_snoc]
   generalize numV (x.toList.take j) = V at *
   obtain ⟨hb1, hb2⟩ := hbd
   obtain ⟨hv1, hv2⟩ := hV17
   go_wp2
   go_round
   case rel => exact ⟨j + 1, hjl, by go_num, by rw [zk HT]⟩
   case measure => simp [intOf]; omega
  ·obtain rfl : j = E - k := om
   have HT : Hid (numV (x.toList.take (E - k)) = numV x.toList) := by
    show _ = _
    rw [List.take_of_length_le (by rw [yx]; omega)]
   rw [zk HT]
   generalize hV : numV x.toList = V at *
   have HV := zm hV
   clear hV
   go_wp2_with fail
   refine (add_any b k E s sv ts 2 V k x _ zW hn).mono ?_
   rintro e w1 ⟨rfl, sv', hst, hbl⟩
   have HS := zm hst
   have HBL := zm hbl
   clear hst hbl
   go_wp2
   go_ret
   exact ⟨rfl, sv', by rw [zk HX, zk HV]; exact zk HS, (below_drewN (Below.refl b _) _).trans (zk HBL)⟩
end Go.Proofs.YtheknbfbneghgaaGreatDoor
