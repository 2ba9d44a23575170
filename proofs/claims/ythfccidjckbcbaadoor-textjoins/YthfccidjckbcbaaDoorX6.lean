/- The document's examples. -/
import Derived.Test.YthfccidjckbcbaaDoorX5
import Derived.Test.YthfccidjckbcbaaDoorD0
namespace Go.Proofs.YthfccidjckbcbaaDoor
open Go.RowKit Go.Proofs.YthfccidjckbcbaaDoor.Hp
variable {w0 w w' : World} {B : HB} {n p : Nat} {A A' : Nat → Kd} {wd wd' : Nat → Int} {hv : Value} {held : List Int} {cnt : Nat} {a : Nat} {s : ByteArray}
theorem New_to (h : Lw w0 w B n p A wd hv held cnt) (hc : cnt < 100000) (s : ByteArray) (hs : s.size ≤ 9223372036854775807) :
    Calls Tryd.prog 10 #[.pointer (some ⟨p, 0, none⟩), .string s] w fun e w' => ∃ v A' wd' cnt', NwT n A wd held cnt s v A' wd' cnt' ∧ e = .returned v ∧ Lw w0 w' B n p A' wd' hv held cnt' := by
  refine (New_str h.sp hc s hs).mono ?_
  rintro e w' ⟨v, A', wd', cnt', hN, rfl, hsp, hF⟩
  exact ⟨v, A', wd', cnt', hN, rfl, h.heap hsp hF⟩
/-- Where there is a place it is taken. -/
theorem New_at (h : Lw w0 w B n p A wd hv held cnt) (hc : cnt < 100000) (s : ByteArray) (h1 : 0 < s.size) (h2 : s.size ≤ 16384) (hp : ¬ NoPlace n A (2 + wsz s)) :
    Calls Tryd.prog 10 #[.pointer (some ⟨p, 0, none⟩), .string s] w fun e w' => ∃ (a : Nat) (A' : Nat → Kd), e = .returned (.tuple #[.int .i64 (a : Int), .bool true]) ∧ Goes n A (2 + wsz s) a A' ∧ StrAt A' (txtK (newW wd a (2 + wsz s) (hdr 1 (1 + wsz s : Nat) 0)) a s (wsz s)) a s ∧ Lw w0 w' B n p A' (txtK (newW wd a (2 + wsz s) (hdr 1 (1 + wsz s : Nat) 0)) a s (wsz s)) hv held cnt := by
  refine (New_to h hc s (by omega)).mono ?_
  rintro e w' ⟨v, A', wd', cnt', hN, rfl, hL⟩
  cases hN with
  | nil h => omega
  | long h => omega
  | at_ _ _ a A' g => exact ⟨a, _, rfl, g, txt_at h1 h2 h.sp.inv g _, hL⟩
  | gc _ _ hn => exact absurd hn hp
  | full _ _ hn => exact absurd hn hp
theorem get_no {z k : Int} (h : roomI A z = 0) : getI A wd z k = 0 := by
  have : hasB A wd z k = false := by
    unfold hasB sizI
    rw [if_neg (fun x => x h)]
    simp
  unfold getI
  rw [this]
  simp
theorem room_odd (hI : Inv n A) {z : Int} (h : z % 2 ≠ 0) : roomI A z = 0 := by
  apply Classical.byContradiction
  intro hz
  obtain ⟨x, e, hx⟩ := room_nat hz
  have := (room_in hI hx).2.2
  omega
theorem Bytes_odd (h : Lw w0 w B n p A wd hv held cnt) (ao : Option Addr) (len cap : Nat) (ss : List ByteArray) (z : Int) (hm : len ≤ maxLen) (hS : StrsAt w ao len ss) (hz : -9223372036854775808 ≤ z ∧ z < 9223372036854775808) (ho : z % 2 ≠ 0) :
    Calls Tryd.prog 12 #[.pointer (some ⟨p, 0, none⟩), .slice ao len cap, .int .i64 z] w fun e w' => e = .returned (.string (constI ss z)) ∧ Fr (fun _ => False) w w' := by
  have := Bytes_any h.sp ao len cap ss z hm hS hz (by rw [get_no (room_odd h.sp.inv ho)]; omega)
  unfold bytI at this
  rw [if_pos ho] at this
  exact this
/-- Two strings that a composite has just made. -/
theorem strs_two (W : World) (x y : ByteArray) (t : TypeId) : StrsAt (W.alloc (.cells #[.string x, .string y] t)) (some ⟨W.heap.size, 0, none⟩) 2 [x, y] :=
  ⟨rfl, fun j hj => ⟨W.heap.size, 0, rfl, by simp, by
    rcases (show j = 0 ∨ j = 1 by omega) with rfl | rfl
    · rw [World.cell?_alloc_at _ _ _ _ rfl]; rfl
    · rw [World.cell?_alloc_at _ _ _ _ rfl]; rfl⟩⟩
def abc : ByteArray := ⟨#[97, 98, 99]⟩
theorem abc_pack : packI (chunk abc 0) = 6513249 := by decide +kernel
theorem an_place : ¬ NoPlace 16 (emptyA 16) (2 + wsz abc) := by
  have := (fill_goes (n := 16) (m := 2 + wsz abc) (k := 0) (by decide) (by decide)).not
  rw [fill_empty] at this
  exact this
set_option maxRecDepth 100000 in
set_option maxHeartbeats 4000000 in
theorem anchor_any (w : World) (hV : Vars w) : Calls Tryd.prog 8 #[] w fun e w' => e = .returned (.bool true) ∧ Fr (fun _ => False) w w' ∧ Vars w' := by
  have HN := hide (SNew_any 1024 w (by omega) (by omega) hV)
  clear hV
  go_enter Tryd.func8, Tryd.ntmps8
  go_wp2_with (first | (go_at_call 9; refine (unhide HN).mono ?_; rintro e w1 ⟨B, p, rfl, hL⟩; have HT := hide (New_at hL (by omega) abc (by decide) (by decide) an_place); clear hL) | (go_at_call 10; refine (unhide HT).mono ?_; rintro e w2 ⟨a, A', rfl, g, hS, hL⟩; have HL := hide hL; have HS := hide hS; clear hL hS g))
  have HG0 : Hid (Calls Tryd.prog 14 #[.pointer (some ⟨p, 0, none⟩), .int .i64 a, .int .i64 0] w2 fun e w' => e = .returned (.int .i64 3) ∧ Fr (fun _ => False) w2 w') := hide (by
    have := Get_any (unhide HL).sp a 0
    rw [(unhide HS).get0] at this
    exact this)
  have HG1 : Hid (∀ W, Fr (fun _ => False) w2 W → Calls Tryd.prog 14 #[.pointer (some ⟨p, 0, none⟩), .int .i64 a, .int .i64 1] W fun e w' => e = .returned (.int .i64 6513249) ∧ Fr (fun _ => False) w2 w') := hide fun W hF => by
    have := Get_any ((unhide HL).quiet hF).sp a 1
    rw [(unhide HS).get (k := 0) (by decide) 1 (by omega), abc_pack] at this
    exact this.mono fun _ _ h => ⟨h.1, hF.trans h.2⟩
  have HBy : Hid (∀ W ao cp, Fr (fun _ => False) w2 W → StrsAt W ao 2 [⟨#[120]⟩, ⟨#[121]⟩] → Calls Tryd.prog 12 #[.pointer (some ⟨p, 0, none⟩), .slice ao 2 cp, .int .i64 3] W fun e w' => e = .returned (.string ⟨#[121]⟩) ∧ Fr (fun _ => False) w2 w') := hide fun W ao cp hF hS => by
    exact (Bytes_odd ((unhide HL).quiet hF) ao 2 cp _ 3 (by decide) hS (by omega) (by decide)).mono fun _ _ h => ⟨h.1, hF.trans h.2⟩
  have HC : Hid (∀ W, Calls Tryd.prog 20 #[.int .i64 1] W fun e w' => e = .returned (.int .i64 3) ∧ W = w') := hide fun W => (Constant_any 1 W (by decide) (by decide)).mono fun _ _ h => ⟨h.1, h.2.symm⟩
  refine (unhide HG0).mono ?_
  rintro e w3 ⟨rfl, hF3⟩
  have HF3 := hide hF3
  clear hF3
  go_wp2_with fail
  refine (unhide HG1 _ (unhide HF3)).mono ?_
  rintro e w4 ⟨rfl, hF4⟩
  have HF4 := hide hF4
  clear hF4
  go_wp2_with fail
  refine (unhide HBy _ _ _ ((unhide HF4).alloc _) (strs_two _ _ _ _)).mono ?_
  rintro e w5 ⟨rfl, hF5⟩
  have HF5 := hide ((unhide HL).far.trans hF5)
  have HV5 := hide ((unhide HL).quiet hF5).sp.vars
  clear hF5
  go_wp2_with fail
  refine (unhide HC _).mono ?_
  rintro e w' ⟨rfl, rfl⟩
  go_wp2
  go_ret
  exact ⟨rfl, unhide HF5, unhide HV5⟩
end Go.Proofs.YthfccidjckbcbaaDoor
