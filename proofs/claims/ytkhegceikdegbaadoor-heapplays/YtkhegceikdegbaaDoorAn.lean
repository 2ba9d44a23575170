/- The document's example. -/
import Derived.Test.YtkhegceikdegbaaDoorNw2
import Derived.Test.YtkhegceikdegbaaDoorFl
namespace Go.Proofs.YtkhegceikdegbaaDoor
open Go.RowKit Go.Proofs.YtkhegceikdegbaaDoor.Hp
set_option maxHeartbeats 1000000 in
theorem New_none (x : Int) (w : World) (h : x < 128) : Calls Tryd.prog 9 #[.int .i64 x] w fun e w' => e = .returned (.pointer none) ∧ w' = w := by
  go_enter Tryd.func9, Tryd.ntmps9
  go_wp2
  go_ret
  exact ⟨rfl, rfl⟩
theorem Vars.size {w : World} (h : Vars w) : 2 ≤ w.heap.size := World.block_lt_of_cell? w ⟨1, 0, none⟩ (h.t64 0 (by decide))
/-- An allocation whose place is known. -/
theorem Alloc_to (B : HB) (n : Nat) (A : Nat → Kd) (wd : Nat → Int) (m : Nat) (w : World) (h : At w B n (hrOf A wd)) (hI : Inv n A) (hV : Vars w) (h0 : ∀ k, B.mem k → 2 ≤ k) (hm : 1 ≤ m) (hm2 : m ≤ 16448) {a : Nat} {A' : Nat → Kd} (g : Goes n A m a A') :
    Calls Tryd.prog 13 #[B.ptr, .int .i64 m] w fun e w' => e = .returned (.tuple #[.int .i64 (a : Int), .bool true]) ∧ Fr B.mem w w' ∧ Vars w' ∧ Inv n A' ∧ At w' B n (hrOf A' (clearW wd a (roomOfM m))) := by
  have h00 : ¬ B.mem 0 := fun x => by have := h0 0 x; omega
  have h01 : ¬ B.mem 1 := fun x => by have := h0 1 x; omega
  refine (Alloc_any B n A wd (m : Int) w h hI hV h00 h01).mono ?_
  rintro e w' ⟨hF, ⟨a', A1, _, _, g', rfl, hA⟩ | ⟨hn, rfl, hA⟩⟩
  · obtain ⟨rfl, rfl⟩ := g.det g'
    exact ⟨rfl, hF, hV.fr hF h00 h01, g.inv hI hm2, hA⟩
  · rcases hn with hn | hn | hn
    · omega
    · omega
    · exact absurd hn g.not
theorem Alloc_no (B : HB) (n : Nat) (A : Nat → Kd) (wd : Nat → Int) (m : Nat) (w : World) (h : At w B n (hrOf A wd)) (hI : Inv n A) (hV : Vars w) (h0 : ∀ k, B.mem k → 2 ≤ k) (g : NoPlace n A m) :
    Calls Tryd.prog 13 #[B.ptr, .int .i64 m] w fun e w' => e = .returned (.tuple #[.int .i64 0, .bool false]) ∧ Fr B.mem w w' ∧ Vars w' ∧ At w' B n (hrOf A wd) := by
  have h00 : ¬ B.mem 0 := fun x => by have := h0 0 x; omega
  have h01 : ¬ B.mem 1 := fun x => by have := h0 1 x; omega
  refine (Alloc_any B n A wd (m : Int) w h hI hV h00 h01).mono ?_
  rintro e w' ⟨hF, ⟨a', A1, _, _, g', rfl, hA⟩ | ⟨hn, rfl, hA⟩⟩
  · exact absurd g g'.not
  · exact ⟨rfl, hF, hV.fr hF h00 h01, hA⟩
theorem Free_to (B : HB) (n : Nat) (A : Nat → Kd) (wd : Nat → Int) (x : Nat) (w : World) (h : At w B n (hrOf A wd)) (hI : Inv n A) (hV : Vars w) (h0 : ∀ k, B.mem k → 2 ≤ k) (hx : roomN A x ≠ 0) :
    Calls Tryd.prog 17 #[B.ptr, .int .i64 x] w fun e w' => e = .returned (.bool true) ∧ Fr B.mem w w' ∧ Vars w' ∧ Inv n (freeA A x) ∧ At w' B n (hrOf (freeA A x) wd) := by
  have h00 : ¬ B.mem 0 := fun x => by have := h0 0 x; omega
  have h01 : ¬ B.mem 1 := fun x => by have := h0 1 x; omega
  have hr : roomI A (x : Int) = roomN A x := by unfold roomI; rw [if_pos (by omega)]; rfl
  refine (Free_any B n A wd (x : Int) w h hI).mono ?_
  rintro e w' ⟨rfl, hF, hA⟩
  refine ⟨ret_bool (by rw [hr]; simp [hx]), hF, hV.fr hF h00 h01, hI.freed hx, ?_⟩
  unfold freeI at hA
  rw [hr, if_neg hx] at hA
  exact hA
def anA1 : Nat → Kd := upd (emptyA 4) 1 (.cls 1 1)
def anA2 : Nat → Kd := upd anA1 1 (.cls 1 3)
def anA3 : Nat → Kd := upd anA2 2 (.cls 0 1)
def anA4 : Nat → Kd := upd anA3 1 (.cls 1 2)
def anA5 : Nat → Kd := upd anA4 2 (.cls 0 3)
def anA6 : Nat → Kd := upd anA5 1 (.cls 1 3)
theorem lp1 : lowP 1 = 1 := by decide
theorem lp2 : lowP 2 = 0 := by decide
theorem t012 {t : Nat} : t = 0 ∨ t = 1 ∨ t = 2 ∨ t = 3 ∨ 4 ≤ t := by omega
theorem an1 : Goes 4 (emptyA 4) 3 64 anA1 := Goes.free 1 (by decide) (by decide) rfl (fun t ht => by obtain rfl : t = 0 := by omega
                                                                                                     simp [emptyA]) (fun t => by unfold emptyA; split <;> rfl)
theorem an2 : Goes 4 anA1 4 68 anA2 := by
  have := Goes.op (n := 4) (A := anA1) (m := 4) 1 1 (by decide) (by decide) rfl (by decide) (fun t ht => by obtain rfl : t = 0 := by omega
                                                                                                            rfl)
  rw [lp1] at this
  exact this
theorem an3 : Goes 4 anA2 2 128 anA3 := Goes.free 2 (by decide) (by decide) rfl (fun t ht => by
    rcases (show t = 0 ∨ t = 1 by omega) with rfl | rfl <;> simp [anA2, anA1, upd, emptyA]) (fun t => by
    rcases t012 (t := t) with rfl | rfl | rfl | rfl | h
    · rfl
    · rfl
    · rfl
    · rfl
    · have : anA2 t = .tail := by simp [anA2, anA1, upd, emptyA]; (repeat' split) <;> first | omega | rfl
      rw [this]; rfl)
theorem an4 : NoPlace 4 anA3 65 := .inr ⟨by decide, fun g hg => by
    rcases (show g = 0 ∨ g = 1 ∨ g = 2 by omega) with rfl | rfl | rfl
    · exact ⟨0, by decide, by decide, by simp [anA3, anA2, anA1, upd, emptyA]⟩
    · exact ⟨1, by decide, by decide, by simp [anA3, anA2, upd]⟩
    · exact ⟨2, by decide, by decide, by simp [anA3, upd]⟩⟩
theorem an5 : roomN anA3 64 ≠ 0 := by decide
theorem an6 : freeA anA3 64 = anA4 := by
  rw [freeA_cls (c := 1) (u := 3) rfl]
  rfl
theorem an7 : Goes 4 anA4 1 130 anA5 := by
  have := Goes.op (n := 4) (A := anA4) (m := 1) 2 1 (by decide) (by decide) rfl (by decide) (fun t ht => by
    rcases (show t = 0 ∨ t = 1 by omega) with rfl | rfl <;> rfl)
  rw [lp1] at this
  exact this
theorem an8 : Goes 4 anA5 3 64 anA6 := by
  have := Goes.op (n := 4) (A := anA5) (m := 3) 1 2 (by decide) (by decide) rfl (by decide) (fun t ht => by obtain rfl : t = 0 := by omega
                                                                                                            rfl)
  rw [lp2] at this
  exact this
set_option maxHeartbeats 2000000 in
theorem anchor_any (w : World) (hV : Vars w) : Calls Tryd.prog 8 #[] w fun e w' => e = .returned (.bool true) ∧ Fr (fun _ => False) w w' ∧ Vars w' := by
  have hsz := hV.size
  have HN : Hid (Calls Tryd.prog 9 #[.int .i64 256] w fun e w' => NewP 256 w e w') := hide (New_any 256 w (by decide) (by decide))
  have HV := hide hV
  clear hV
  go_enter Tryd.func8, Tryd.ntmps8
  go_wp2_with fail
  refine (unhide HN).mono ?_
  rintro e w1 ⟨B, rfl, hlo, hF1, hA1⟩
  have h0 : Hid (∀ k, B.mem k → 2 ≤ k) := hide fun k hk => by have := hlo k hk; omega
  have hV1 := (unhide HV).fr hF1 id id
  have H3 : Hid (Calls Tryd.prog 13 #[.pointer (some ⟨B.p, 0, none⟩), .int .i64 3] w1 fun e w' => e = .returned (.tuple #[.int .i64 64, .bool true]) ∧ Fr B.mem w1 w' ∧ Vars w' ∧ Inv 4 anA1 ∧ At w' B 4 (hrOf anA1 (clearW (fun _ => 0) 64 (roomOfM 3)))) := hide (Alloc_to B 4 _ _ 3 w1 hA1 (emptyA_inv 4) hV1 (unhide h0) (by decide) (by decide) an1)
  have HF1 := hide hF1
  have HL := hide hlo
  clear hA1 hV1 hF1 hlo HN
  unfold HB.ptr
  go_wp2_with fail
  refine (unhide H3).mono ?_
  rintro e w2 ⟨rfl, hF2, hV2, hI2, hA2⟩
  have H4 : Hid (Calls Tryd.prog 13 #[.pointer (some ⟨B.p, 0, none⟩), .int .i64 4] w2 fun e w' => e = .returned (.tuple #[.int .i64 68, .bool true]) ∧ Fr B.mem w2 w' ∧ Vars w' ∧ Inv 4 anA2 ∧ At w' B 4 (hrOf anA2 (clearW _ 68 (roomOfM 4)))) := hide (Alloc_to B 4 _ _ 4 w2 hA2 hI2 hV2 (unhide h0) (by decide) (by decide) an2)
  have HF2 := hide hF2
  clear hA2 hV2 hI2 hF2 H3
  go_wp2_with fail
  refine (unhide H4).mono ?_
  rintro e w3 ⟨rfl, hF3, hV3, hI3, hA3⟩
  have H5 : Hid (Calls Tryd.prog 13 #[.pointer (some ⟨B.p, 0, none⟩), .int .i64 2] w3 fun e w' => e = .returned (.tuple #[.int .i64 128, .bool true]) ∧ Fr B.mem w3 w' ∧ Vars w' ∧ Inv 4 anA3 ∧ At w' B 4 (hrOf anA3 (clearW _ 128 (roomOfM 2)))) := hide (Alloc_to B 4 _ _ 2 w3 hA3 hI3 hV3 (unhide h0) (by decide) (by decide) an3)
  have HF3 := hide hF3
  clear hA3 hV3 hI3 hF3 H4
  go_wp2_with fail
  refine (unhide H5).mono ?_
  rintro e w4 ⟨rfl, hF4, hV4, hI4, hA4⟩
  have H6 : Hid (Calls Tryd.prog 13 #[.pointer (some ⟨B.p, 0, none⟩), .int .i64 65] w4 fun e w' => e = .returned (.tuple #[.int .i64 0, .bool false]) ∧ Fr B.mem w4 w' ∧ Vars w' ∧ At w' B 4 (hrOf anA3 _)) := hide (Alloc_no B 4 _ _ 65 w4 hA4 hI4 hV4 (unhide h0) an4)
  have HF4 := hide hF4
  have HI4 := hide hI4
  clear hA4 hV4 hI4 hF4 H5
  go_wp2_with fail
  refine (unhide H6).mono ?_
  rintro e w5 ⟨rfl, hF5, hV5, hA5⟩
  have H7 : Hid (Calls Tryd.prog 17 #[.pointer (some ⟨B.p, 0, none⟩), .int .i64 64] w5 fun e w' => e = .returned (.bool true) ∧ Fr B.mem w5 w' ∧ Vars w' ∧ Inv 4 anA4 ∧ At w' B 4 (hrOf anA4 _)) := hide (by have := Free_to B 4 _ _ 64 w5 hA5 (unhide HI4) hV5 (unhide h0) an5; rw [an6] at this; exact this)
  have HF5 := hide hF5
  clear hA5 hV5 HI4 hF5 H6
  go_wp2_with fail
  refine (unhide H7).mono ?_
  rintro e w6 ⟨rfl, hF6, hV6, hI6, hA6⟩
  have H8 : Hid (Calls Tryd.prog 13 #[.pointer (some ⟨B.p, 0, none⟩), .int .i64 1] w6 fun e w' => e = .returned (.tuple #[.int .i64 130, .bool true]) ∧ Fr B.mem w6 w' ∧ Vars w' ∧ Inv 4 anA5 ∧ At w' B 4 (hrOf anA5 (clearW _ 130 (roomOfM 1)))) := hide (Alloc_to B 4 _ _ 1 w6 hA6 hI6 hV6 (unhide h0) (by decide) (by decide) an7)
  have HF6 := hide hF6
  clear hA6 hV6 hI6 hF6 H7
  go_wp2_with fail
  refine (unhide H8).mono ?_
  rintro e w7 ⟨rfl, hF7, hV7, hI7, hA7⟩
  have H9 : Hid (Calls Tryd.prog 13 #[.pointer (some ⟨B.p, 0, none⟩), .int .i64 3] w7 fun e w' => e = .returned (.tuple #[.int .i64 64, .bool true]) ∧ Fr B.mem w7 w' ∧ Vars w' ∧ Inv 4 anA6 ∧ At w' B 4 (hrOf anA6 (clearW _ 64 (roomOfM 3)))) := hide (Alloc_to B 4 _ _ 3 w7 hA7 hI7 hV7 (unhide h0) (by decide) (by decide) an8)
  have HF7 := hide hF7
  clear hA7 hV7 hI7 hF7 H8
  go_wp2_with fail
  refine (unhide H9).mono ?_
  rintro e w8 ⟨rfl, hF8, hV8, hI8, hA8⟩
  have HF8 := hide hF8
  have HV8 := hide hV8
  have HX := hide (New_none 127 w8 (by decide))
  clear hA8 hV8 hI8 hF8 H9
  go_wp2_with (first | (go_at_call 9; refine (unhide HX).mono ?_; rintro e w' ⟨rfl, rfl⟩))
  go_ret
  exact ⟨rfl, (unhide HF1).up ((((((((unhide HF2).trans (unhide HF3)).trans (unhide HF4)).trans (unhide HF5)).trans (unhide HF6)).trans (unhide HF7)).trans (unhide HF8))) (unhide HL), unhide HV8⟩
end Go.Proofs.YtkhegceikdegbaaDoor
