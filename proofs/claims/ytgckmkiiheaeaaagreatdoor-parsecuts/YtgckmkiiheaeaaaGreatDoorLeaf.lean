import Derived.Test.YtgckmkiiheaeaaaGreatDoorChecked
import Derived.Test.YtgckmkiiheaeaaaGreatDoorSpec2
import Derived.WalkKit
import Derived.WalkSpells
import Derived.WalkLawsBesides
import Derived.Deep.QuietTactic
import Derived.BigQuiet
namespace Go.Proofs.YtgckmkiiheaeaaaGreatDoor
open Go.RowKit Lx
theorem hide {p : Prop} (h : p) : Hid p := h
theorem unhide {p : Prop} (h : Hid p) : p := h
theorem ret_bool {a b : Bool} (h : a = b) : Ending.returned (.bool a) = .returned (.bool b) := by rw [h]
set_option maxHeartbeats 400000 in
theorem isLetter_any (n : Int) (w : World) (h0 : 0 ≤ n) (h1 : n ≤ 255) :
 Calls Tryz.prog 48 #[.int .u8 n] w fun e w' => e = .returned (.bool (letZ n)) ∧ w' = w := by
 go_enter Tryz.func48, Tryz.ntmps48
 go_wp2
 all_goals
  go_ret
  exact ⟨ret_bool (by rw [Bool.eq_iff_iff]; simp [letZ]; omega), rfl⟩
set_option maxHeartbeats 400000 in
theorem isDigit_any (n : Int) (w : World) (h0 : 0 ≤ n) (h1 : n ≤ 255) :
 Calls Tryz.prog 51 #[.int .u8 n] w fun e w' => e = .returned (.bool (digZ n)) ∧ w' = w := by
 go_enter Tryz.func51, Tryz.ntmps51
 go_wp2
 all_goals
  go_ret
  exact ⟨ret_bool (by rw [Bool.eq_iff_iff]; simp [digZ]; omega), rfl⟩
set_option maxHeartbeats 400000 in
theorem isPlain_any (n : Int) (w : World) (h0 : 0 ≤ n) (h1 : n ≤ 255) :
 Calls Tryz.prog 66 #[.int .u8 n] w fun e w' => e = .returned (.bool (plnZ n)) ∧ w' = w := by
 go_enter Tryz.func66, Tryz.ntmps66
 go_wp2
 all_goals
  go_ret
  exact ⟨ret_bool (by rw [Bool.eq_iff_iff]; simp [plnZ]; omega), rfl⟩
set_option maxHeartbeats 400000 in
theorem notNl_any (n : Int) (w : World) :
 Calls Tryz.prog 47 #[.int .u8 n] w fun e w' => e = .returned (.bool (!decide (n = 10))) ∧ w' = w := by
 go_enter Tryz.func47, Tryz.ntmps47
 go_wp2
 go_ret
 exact ⟨ret_bool (by rw [Bool.eq_iff_iff]; simp), rfl⟩
set_option maxHeartbeats 400000 in
theorem isNam_any (n : Int) (w : World) (h0 : 0 ≤ n) (h1 : n ≤ 255) :
 Calls Tryz.prog 64 #[.int .u8 n] w fun e w' => e = .returned (.bool (letZ n || digZ n)) ∧ w' = w := by
 go_enter Tryz.func64, Tryz.ntmps64
 by_cases hl : letZ n = true
 ·go_wp2_with (first | (go_at_call 48; refine (isLetter_any _ _ h0 h1).mono ?_; rintro e w' ⟨rfl, rfl⟩) | (go_at_call 51; refine (isDigit_any _ _ h0 h1).mono ?_; rintro e w' ⟨rfl, rfl⟩))
  go_ret
  exact ⟨ret_bool (by rw [hl]; rfl), rfl⟩
 ·have hf : letZ n = false := by simpa using hl
  clear hl
  go_wp2_with (first | (go_at_call 48; refine (isLetter_any _ _ h0 h1).mono ?_; rintro e w' ⟨rfl, rfl⟩) | (go_at_call 51; refine (isDigit_any _ _ h0 h1).mono ?_; rintro e w' ⟨rfl, rfl⟩))
  go_ret
  exact ⟨ret_bool (by rw [hf]; rfl), rfl⟩
set_option maxHeartbeats 1000000 in
theorem isPair_any (s : ByteArray) (w : World) :
 Calls Tryz.prog 79 #[.string s] w fun e w' => e = .returned (.bool (isPr s.toList)) ∧ w' = w := by
 go_enter Tryz.func79, Tryz.ntmps79
 go_wp2
 all_goals
  go_ret
  exact ⟨ret_bool (by simp_all [isPr, pairList]), rfl⟩
set_option maxHeartbeats 1000000 in
theorem markEnds_any (s : ByteArray) (w : World) :
 Calls Tryz.prog 70 #[.string s] w fun e w' => e = .returned (.bool (mkEnds s.toList)) ∧ w' = w := by
 go_enter Tryz.func70, Tryz.ntmps70
 go_wp2
 all_goals
  go_ret
  exact ⟨ret_bool (by simp_all [mkEnds, endMarks]), rfl⟩
set_option maxHeartbeats 1000000 in
theorem wordEnds_any (s : ByteArray) (w : World) :
 Calls Tryz.prog 69 #[.string s] w fun e w' => e = .returned (.bool (wdEnds s.toList)) ∧ w' = w := by
 go_enter Tryz.func69, Tryz.ntmps69
 go_wp2
 all_goals
  go_ret
  exact ⟨ret_bool (by simp_all [wdEnds, endWords]), rfl⟩
set_option maxHeartbeats 1000000 in
theorem IsWord_any (s : ByteArray) (w : World) :
 Calls Tryz.prog 65 #[.string s] w fun e w' => e = .returned (.bool (isWd s.toList)) ∧ w' = w := by
 go_enter Tryz.func65, Tryz.ntmps65
 go_wp2
 all_goals
  go_ret
  exact ⟨ret_bool (by simp_all [isWd, wordList]), rfl⟩
set_option maxHeartbeats 400000 in
theorem within_nil (p : ByteArray) (w : World) :
 Calls Tryz.prog 49 #[.string p, .nilIface] w fun e w' => e = .returned .nilIface ∧ w' = w := by
 go_enter Tryz.func49, Tryz.ntmps49
 go_wp2
 go_ret
 exact ⟨rfl, rfl⟩
set_option maxHeartbeats 400000 in
theorem within_err (p : ByteArray) (v : Value) (w : World) :
 Calls Tryz.prog 49 #[.string p, .iface 64 v] w fun e w' => e = .returned (.iface 114 (.agg #[.string p, .iface 64 v])) ∧ w' = w := by
 go_enter Tryz.func49, Tryz.ntmps49
 go_wp2
 go_ret
 exact ⟨rfl, rfl⟩
end Go.Proofs.YtgckmkiiheaeaaaGreatDoor
