/- Contracts of the leaves of package lex: bytes told apart, words, pairs. -/
import Derived.Test.YtpmpjbnnjdpbnaaDoorChecked
import Derived.Test.YtpmpjbnnjdpbnaaDoorSpec
import Derived.WalkKit
import Derived.WalkSpells
import Derived.WalkLawsBesides
import Derived.Deep.QuietTactic
import Derived.BigQuiet
namespace Go.Proofs.YtpmpjbnnjdpbnaaDoor
open Go.RowKit Go.Proofs.YtpmpjbnnjdpbnaaDoor.Lx

theorem hide {p : Prop} (h : p) : Hid p := h
theorem unhide {p : Prop} (h : Hid p) : p := h
theorem ret_bool {a b : Bool} (h : a = b) : Ending.returned (.bool a) = .returned (.bool b) := by rw [h]

set_option maxHeartbeats 400000 in
theorem isLetter_any (n : Int) (w : World) (h0 : 0 ≤ n) (h1 : n ≤ 255) :
    Calls Tryd.prog 79 #[.int .u8 n] w fun e w' => e = .returned (.bool (letZ n)) ∧ w' = w := by
  go_enter Tryd.func79, Tryd.ntmps79
  go_wp2
  all_goals
    go_ret
    exact ⟨ret_bool (by rw [Bool.eq_iff_iff]; simp [letZ]; omega), rfl⟩
set_option maxHeartbeats 400000 in
theorem Letter_any (n : Int) (w : World) (h0 : 0 ≤ n) (h1 : n ≤ 255) :
    Calls Tryd.prog 49 #[.int .u8 n] w fun e w' => e = .returned (.bool (letZ n)) ∧ w' = w := by
  go_enter Tryd.func49, Tryd.ntmps49
  go_wp2
  all_goals
    go_ret
    exact ⟨ret_bool (by rw [Bool.eq_iff_iff]; simp [letZ]; omega), rfl⟩
set_option maxHeartbeats 400000 in
theorem isDigit_any (n : Int) (w : World) (h0 : 0 ≤ n) (h1 : n ≤ 255) :
    Calls Tryd.prog 82 #[.int .u8 n] w fun e w' => e = .returned (.bool (digZ n)) ∧ w' = w := by
  go_enter Tryd.func82, Tryd.ntmps82
  go_wp2
  all_goals
    go_ret
    exact ⟨ret_bool (by rw [Bool.eq_iff_iff]; simp [digZ]; omega), rfl⟩
set_option maxHeartbeats 400000 in
theorem isPlain_any (n : Int) (w : World) (h0 : 0 ≤ n) (h1 : n ≤ 255) :
    Calls Tryd.prog 92 #[.int .u8 n] w fun e w' => e = .returned (.bool (plnZ n)) ∧ w' = w := by
  go_enter Tryd.func92, Tryd.ntmps92
  go_wp2
  all_goals
    go_ret
    exact ⟨ret_bool (by rw [Bool.eq_iff_iff]; simp [plnZ]; omega), rfl⟩
set_option maxHeartbeats 400000 in
theorem notNl_any (n : Int) (w : World) :
    Calls Tryd.prog 78 #[.int .u8 n] w fun e w' => e = .returned (.bool (!decide (n = 10))) ∧ w' = w := by
  go_enter Tryd.func78, Tryd.ntmps78
  go_wp2
  go_ret
  exact ⟨ret_bool (by rw [Bool.eq_iff_iff]; simp), rfl⟩
set_option maxHeartbeats 400000 in
theorem isNam_any (n : Int) (w : World) (h0 : 0 ≤ n) (h1 : n ≤ 255) :
    Calls Tryd.prog 90 #[.int .u8 n] w fun e w' => e = .returned (.bool (letZ n || digZ n)) ∧ w' = w := by
  go_enter Tryd.func90, Tryd.ntmps90
  by_cases hl : letZ n = true
  · go_wp2_with (first | (go_at_call 79; refine (isLetter_any _ _ h0 h1).mono ?_; rintro e w' ⟨rfl, rfl⟩) | (go_at_call 82; refine (isDigit_any _ _ h0 h1).mono ?_; rintro e w' ⟨rfl, rfl⟩))
    go_ret
    exact ⟨ret_bool (by rw [hl]; rfl), rfl⟩
  · have hf : letZ n = false := by simpa using hl
    clear hl
    go_wp2_with (first | (go_at_call 79; refine (isLetter_any _ _ h0 h1).mono ?_; rintro e w' ⟨rfl, rfl⟩) | (go_at_call 82; refine (isDigit_any _ _ h0 h1).mono ?_; rintro e w' ⟨rfl, rfl⟩))
    go_ret
    exact ⟨ret_bool (by rw [hf]; rfl), rfl⟩
set_option maxHeartbeats 1000000 in
theorem isPair_any (s : ByteArray) (w : World) :
    Calls Tryd.prog 97 #[.string s] w fun e w' => e = .returned (.bool (isPr s.toList)) ∧ w' = w := by
  go_enter Tryd.func97, Tryd.ntmps97
  go_wp2
  all_goals
    go_ret
    exact ⟨ret_bool (by simp_all [isPr, pairList]), rfl⟩
set_option maxHeartbeats 1000000 in
theorem markEnds_any (s : ByteArray) (w : World) :
    Calls Tryd.prog 96 #[.string s] w fun e w' => e = .returned (.bool (mkEnds s.toList)) ∧ w' = w := by
  go_enter Tryd.func96, Tryd.ntmps96
  go_wp2
  all_goals
    go_ret
    exact ⟨ret_bool (by simp_all [mkEnds, endMarks]), rfl⟩
set_option maxHeartbeats 1000000 in
theorem wordEnds_any (s : ByteArray) (w : World) :
    Calls Tryd.prog 95 #[.string s] w fun e w' => e = .returned (.bool (wdEnds s.toList)) ∧ w' = w := by
  go_enter Tryd.func95, Tryd.ntmps95
  go_wp2
  all_goals
    go_ret
    exact ⟨ret_bool (by simp_all [wdEnds, endWords]), rfl⟩
set_option maxHeartbeats 1000000 in
theorem IsWord_any (s : ByteArray) (w : World) :
    Calls Tryd.prog 91 #[.string s] w fun e w' => e = .returned (.bool (isWd s.toList)) ∧ w' = w := by
  go_enter Tryd.func91, Tryd.ntmps91
  go_wp2
  all_goals
    go_ret
    exact ⟨ret_bool (by simp_all [isWd, wordList]), rfl⟩
set_option maxHeartbeats 400000 in
theorem within_nil (p : ByteArray) (w : World) :
    Calls Tryd.prog 80 #[.string p, .nilIface] w fun e w' => e = .returned .nilIface ∧ w' = w := by
  go_enter Tryd.func80, Tryd.ntmps80
  go_wp2
  go_ret
  exact ⟨rfl, rfl⟩
set_option maxHeartbeats 400000 in
theorem within_err (p : ByteArray) (v : Value) (w : World) :
    Calls Tryd.prog 80 #[.string p, .iface 88 v] w fun e w' => e = .returned (.iface 123 (.agg #[.string p, .iface 88 v])) ∧ w' = w := by
  go_enter Tryd.func80, Tryd.ntmps80
  go_wp2
  go_ret
  exact ⟨rfl, rfl⟩
end Go.Proofs.YtpmpjbnnjdpbnaaDoor
