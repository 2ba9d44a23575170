/- Contracts of the leaves of package lex: bytes told apart, words, pairs. -/
import Derived.Test.YteoongjimggbgabDoorChecked
import Derived.Test.YteoongjimggbgabDoorSpec
import Derived.WalkKit
import Derived.WalkSpells
import Derived.WalkLawsBesides
import Derived.Deep.QuietTactic
import Derived.BigQuiet
namespace Go.Proofs.YteoongjimggbgabDoor
open Go.RowKit Go.Proofs.YteoongjimggbgabDoor.Lx

theorem hide {p : Prop} (h : p) : Hid p := h
theorem unhide {p : Prop} (h : Hid p) : p := h
theorem ret_bool {a b : Bool} (h : a = b) : Ending.returned (.bool a) = .returned (.bool b) := by rw [h]

set_option maxHeartbeats 400000 in
theorem isLetter_any (n : Int) (w : World) (h0 : 0 ≤ n) (h1 : n ≤ 255) :
    Calls Tryd.prog 20 #[.int .u8 n] w fun e w' => e = .returned (.bool (letZ n)) ∧ w' = w := by
  go_enter Tryd.func20, Tryd.ntmps20
  go_wp2
  all_goals
    go_ret
    exact ⟨ret_bool (by rw [Bool.eq_iff_iff]; simp [letZ]; omega), rfl⟩
set_option maxHeartbeats 400000 in
theorem isDigit_any (n : Int) (w : World) (h0 : 0 ≤ n) (h1 : n ≤ 255) :
    Calls Tryd.prog 23 #[.int .u8 n] w fun e w' => e = .returned (.bool (digZ n)) ∧ w' = w := by
  go_enter Tryd.func23, Tryd.ntmps23
  go_wp2
  all_goals
    go_ret
    exact ⟨ret_bool (by rw [Bool.eq_iff_iff]; simp [digZ]; omega), rfl⟩
set_option maxHeartbeats 400000 in
theorem isPlain_any (n : Int) (w : World) (h0 : 0 ≤ n) (h1 : n ≤ 255) :
    Calls Tryd.prog 32 #[.int .u8 n] w fun e w' => e = .returned (.bool (plnZ n)) ∧ w' = w := by
  go_enter Tryd.func32, Tryd.ntmps32
  go_wp2
  all_goals
    go_ret
    exact ⟨ret_bool (by rw [Bool.eq_iff_iff]; simp [plnZ]; omega), rfl⟩
set_option maxHeartbeats 400000 in
theorem notNl_any (n : Int) (w : World) :
    Calls Tryd.prog 19 #[.int .u8 n] w fun e w' => e = .returned (.bool (!decide (n = 10))) ∧ w' = w := by
  go_enter Tryd.func19, Tryd.ntmps19
  go_wp2
  go_ret
  exact ⟨ret_bool (by rw [Bool.eq_iff_iff]; simp), rfl⟩
set_option maxHeartbeats 400000 in
theorem isNam_any (n : Int) (w : World) (h0 : 0 ≤ n) (h1 : n ≤ 255) :
    Calls Tryd.prog 31 #[.int .u8 n] w fun e w' => e = .returned (.bool (letZ n || digZ n)) ∧ w' = w := by
  go_enter Tryd.func31, Tryd.ntmps31
  by_cases hl : letZ n = true
  · go_wp2_with (first | (go_at_call 20; refine (isLetter_any _ _ h0 h1).mono ?_; rintro e w' ⟨rfl, rfl⟩) | (go_at_call 23; refine (isDigit_any _ _ h0 h1).mono ?_; rintro e w' ⟨rfl, rfl⟩))
    go_ret
    exact ⟨ret_bool (by rw [hl]; rfl), rfl⟩
  · have hf : letZ n = false := by simpa using hl
    clear hl
    go_wp2_with (first | (go_at_call 20; refine (isLetter_any _ _ h0 h1).mono ?_; rintro e w' ⟨rfl, rfl⟩) | (go_at_call 23; refine (isDigit_any _ _ h0 h1).mono ?_; rintro e w' ⟨rfl, rfl⟩))
    go_ret
    exact ⟨ret_bool (by rw [hf]; rfl), rfl⟩
set_option maxHeartbeats 1000000 in
theorem isPair_any (s : ByteArray) (w : World) :
    Calls Tryd.prog 37 #[.string s] w fun e w' => e = .returned (.bool (isPr s.toList)) ∧ w' = w := by
  go_enter Tryd.func37, Tryd.ntmps37
  go_wp2
  all_goals
    go_ret
    exact ⟨ret_bool (by simp_all [isPr, pairList]), rfl⟩
set_option maxHeartbeats 1000000 in
theorem markEnds_any (s : ByteArray) (w : World) :
    Calls Tryd.prog 36 #[.string s] w fun e w' => e = .returned (.bool (mkEnds s.toList)) ∧ w' = w := by
  go_enter Tryd.func36, Tryd.ntmps36
  go_wp2
  all_goals
    go_ret
    exact ⟨ret_bool (by simp_all [mkEnds, endMarks]), rfl⟩
set_option maxHeartbeats 1000000 in
theorem wordEnds_any (s : ByteArray) (w : World) :
    Calls Tryd.prog 35 #[.string s] w fun e w' => e = .returned (.bool (wdEnds s.toList)) ∧ w' = w := by
  go_enter Tryd.func35, Tryd.ntmps35
  go_wp2
  all_goals
    go_ret
    exact ⟨ret_bool (by simp_all [wdEnds, endWords]), rfl⟩
set_option maxHeartbeats 1000000 in
theorem IsWord_any (s : ByteArray) (w : World) :
    Calls Tryd.prog 6 #[.string s] w fun e w' => e = .returned (.bool (isWd s.toList)) ∧ w' = w := by
  go_enter Tryd.func6, Tryd.ntmps6
  go_wp2
  all_goals
    go_ret
    exact ⟨ret_bool (by simp_all [isWd, wordList]), rfl⟩
set_option maxHeartbeats 400000 in
theorem within_nil (p : ByteArray) (w : World) :
    Calls Tryd.prog 21 #[.string p, .nilIface] w fun e w' => e = .returned .nilIface ∧ w' = w := by
  go_enter Tryd.func21, Tryd.ntmps21
  go_wp2
  go_ret
  exact ⟨rfl, rfl⟩
set_option maxHeartbeats 400000 in
theorem within_err (p : ByteArray) (v : Value) (w : World) :
    Calls Tryd.prog 21 #[.string p, .iface 40 v] w fun e w' => e = .returned (.iface 77 (.agg #[.string p, .iface 40 v])) ∧ w' = w := by
  go_enter Tryd.func21, Tryd.ntmps21
  go_wp2
  go_ret
  exact ⟨rfl, rfl⟩
end Go.Proofs.YteoongjimggbgabDoor
