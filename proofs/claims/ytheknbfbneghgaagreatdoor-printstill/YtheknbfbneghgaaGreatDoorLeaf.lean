import Derived.Test.YtheknbfbneghgaaGreatDoorChecked
import Derived.Test.YtheknbfbneghgaaGreatDoorSpec2
import Derived.WalkKit
import Derived.WalkSpells
import Derived.WalkLawsBesides
import Derived.Deep.QuietTactic
import Derived.BigQuiet
set_option maxHeartbeats 1000000
set_option maxRecDepth 100000
namespace Go.Proofs.YtheknbfbneghgaaGreatDoor
open Go.RowKit Lx
theorem zm {p : Prop} (h : p) : Hid p := h
theorem zk {p : Prop} (h : Hid p) : p := h
theorem ret_bool {a b : Bool} (h : a = b) : Ending.returned (.bool a) = .returned (.bool b) := by rw [h]
theorem isLetter_any (n : Int) (w : World) (h0 : 0 ≤ n) (h1 : n ≤ 255) :
 Calls Tryz.prog 45 #[.int .u8 n] w fun e w' => e = .returned (.bool (letZ n)) ∧ w' = w := by
 go_enter Tryz.func45, Tryz.ntmps45
 go_wp2
 all_goals
  go_ret
  exact ⟨ret_bool (by rw [Bool.eq_iff_iff]; simp [letZ]; omega), rfl⟩
theorem isDigit_any (n : Int) (w : World) (h0 : 0 ≤ n) (h1 : n ≤ 255) :
 Calls Tryz.prog 48 #[.int .u8 n] w fun e w' => e = .returned (.bool (digZ n)) ∧ w' = w := by
 go_enter Tryz.func48, Tryz.ntmps48
 go_wp2
 all_goals
  go_ret
  exact ⟨ret_bool (by rw [Bool.eq_iff_iff]; simp [digZ]; omega), rfl⟩
theorem isPlain_any (n : Int) (w : World) (h0 : 0 ≤ n) (h1 : n ≤ 255) :
 Calls Tryz.prog 70 #[.int .u8 n] w fun e w' => e = .returned (.bool (plnZ n)) ∧ w' = w := by
 go_enter Tryz.func70, Tryz.ntmps70
 go_wp2
 all_goals
  go_ret
  exact ⟨ret_bool (by rw [Bool.eq_iff_iff]; simp [plnZ]; omega), rfl⟩
theorem notNl_any (n : Int) (w : World) :
 Calls Tryz.prog 44 #[.int .u8 n] w fun e w' => e = .returned (.bool (!decide (n = 10))) ∧ w' = w := by
 go_enter Tryz.func44, Tryz.ntmps44
 go_wp2
 go_ret
 exact ⟨ret_bool (by rw [Bool.eq_iff_iff]; simp), rfl⟩
theorem isNam_any (n : Int) (w : World) (h0 : 0 ≤ n) (h1 : n ≤ 255) :
 Calls Tryz.prog 68 #[.int .u8 n] w fun e w' => e = .returned (.bool (letZ n || digZ n)) ∧ w' = w := by
 go_enter Tryz.func68, Tryz.ntmps68
 by_cases hl : letZ n = true
 ·go_wp2_with (first | (go_at_call 45; refine (isLetter_any _ _ h0 h1).mono ?_; rintro e w' ⟨rfl, rfl⟩) | (go_at_call 48; refine (isDigit_any _ _ h0 h1).mono ?_; rintro e w' ⟨rfl, rfl⟩))
  go_ret
  exact ⟨ret_bool (by rw [hl]; rfl), rfl⟩
 ·have hf : letZ n = false := by simpa using hl
  clear hl
  go_wp2_with (first | (go_at_call 45; refine (isLetter_any _ _ h0 h1).mono ?_; rintro e w' ⟨rfl, rfl⟩) | (go_at_call 48; refine (isDigit_any _ _ h0 h1).mono ?_; rintro e w' ⟨rfl, rfl⟩))
  go_ret
  exact ⟨ret_bool (by rw [hf]; rfl), rfl⟩
theorem isPair_any (s : ByteArray) (w : World) :
 Calls Tryz.prog 89 #[.string s] w fun e w' => e = .returned (.bool (isPr s.toList)) ∧ w' = w := by
 go_enter Tryz.func89, Tryz.ntmps89
 go_wp2
 all_goals
  go_ret
  exact ⟨ret_bool (by simp_all [isPr, pairList]), rfl⟩
theorem markEnds_any (s : ByteArray) (w : World) :
 Calls Tryz.prog 74 #[.string s] w fun e w' => e = .returned (.bool (mkEnds s.toList)) ∧ w' = w := by
 go_enter Tryz.func74, Tryz.ntmps74
 go_wp2
 all_goals
  go_ret
  exact ⟨ret_bool (by simp_all [mkEnds, endMarks]), rfl⟩
theorem wordEnds_any (s : ByteArray) (w : World) :
 Calls Tryz.prog 73 #[.string s] w fun e w' => e = .returned (.bool (wdEnds s.toList)) ∧ w' = w := by
 go_enter Tryz.func73, Tryz.ntmps73
 go_wp2
 all_goals
  go_ret
  exact ⟨ret_bool (by simp_all [wdEnds, endWords]), rfl⟩
theorem IsWord_any (s : ByteArray) (w : World) :
 Calls Tryz.prog 69 #[.string s] w fun e w' => e = .returned (.bool (isWd s.toList)) ∧ w' = w := by
 go_enter Tryz.func69, Tryz.ntmps69
 go_wp2
 all_goals
  go_ret
  exact ⟨ret_bool (by simp_all [isWd, wordList]), rfl⟩
theorem within_nil (p : ByteArray) (w : World) :
 Calls Tryz.prog 46 #[.string p, .nilIface] w fun e w' => e = .returned .nilIface ∧ w' = w := by
 go_enter Tryz.func46, Tryz.ntmps46
 go_wp2
 go_ret
 exact ⟨rfl, rfl⟩
theorem within_err (p : ByteArray) (v : Value) (w : World) :
 Calls Tryz.prog 46 #[.string p, .iface 57 v] w fun e w' => e = .returned (.iface 118 (.agg #[.string p, .iface 57 v])) ∧ w' = w := by
 go_enter Tryz.func46, Tryz.ntmps46
 go_wp2
 go_ret
 exact ⟨rfl, rfl⟩
end Go.Proofs.YtheknbfbneghgaaGreatDoor
