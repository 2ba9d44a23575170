import Derived.Test.YtgckmkiiheaeaaaGreatDoorLeaf
import Derived.Test.YtgckmkiiheaeaaaGreatDoorSpec2
namespace Go.Proofs.YtgckmkiiheaeaaaGreatDoor
open Go.RowKit Lx
theorem ret_int {k : IntKind} {a b : Int} (h : a = b) : Ending.returned (.int k a) = .returned (.int k b) := by rw [h]
theorem isNam_b (c : UInt8) (w : World) : Calls Tryz.prog 64 #[.int .u8 c.toNat] w fun e w' => e = .returned (.bool (isNam c)) ∧ w' = w :=
 isNam_any _ w (by omega) (by have := c.toNat_lt; omega)
theorem isDigit_b (c : UInt8) (w : World) : Calls Tryz.prog 51 #[.int .u8 c.toNat] w fun e w' => e = .returned (.bool (isDig c)) ∧ w' = w :=
 isDigit_any _ w (by omega) (by have := c.toNat_lt; omega)
theorem isPlain_b (c : UInt8) (w : World) : Calls Tryz.prog 66 #[.int .u8 c.toNat] w fun e w' => e = .returned (.bool (isPln c)) ∧ w' = w :=
 isPlain_any _ w (by omega) (by have := c.toNat_lt; omega)
theorem isLetter_b (c : UInt8) (w : World) : Calls Tryz.prog 48 #[.int .u8 c.toNat] w fun e w' => e = .returned (.bool (isLet c)) ∧ w' = w :=
 isLetter_any _ w (by omega) (by have := c.toNat_lt; omega)
set_option maxHeartbeats 400000 in
theorem run_notNl (b k : Nat) (s : ByteArray) (w : World) (hs : s.size ≤ 8192) (hk : k ≤ s.size) (hc : w.cell? ⟨b, 0, none⟩ = some (.string s)) :
 Calls Tryz.prog 46 #[.pointer (some ⟨b, 0, none⟩), .int .i64 k, .func (.func 47) #[] #[]] w fun e w' => e = .returned (.int .i64 (runEnd notNl s.toList k)) ∧ w' = w := by
 go_enter Tryz.func46, Tryz.ntmps46
 go_wp2
 go_loop [1] (fun t => ∃ j : Nat, j ≤ s.size ∧ t = .int .i64 j ∧ runEnd notNl s.toList j = runEnd notNl s.toList k) (fun t => s.size - (intOf t).toNat)
 case atStart => exact ⟨k, hk, rfl, rfl⟩
 case round =>
  obtain ⟨j, hj, rfl, hr⟩ := hrel
  have HR := hide hr
  clear hr
  by_cases hlt : j < s.size
  ·have H1 := hide (toL_step notNl s j hlt)
   have H2 := hide (toL_stop notNl s j hlt)
   go_wp2_with (first | (go_at_call 47; refine (notNl_any _ _).mono ?_; rintro e w' ⟨rfl, rfl⟩))
   ·go_round
    case rel => exact ⟨j + 1, by omega, by go_num, (unhide H1 (by assumption)).trans (unhide HR)⟩
    case measure => simp [intOf]; omega
   ·go_ret
    exact ⟨ret_int (by rw [← unhide HR, unhide H2 (by assumption)]), rfl⟩
  ·have H3 := hide (toL_end notNl s j (by omega))
   go_wp2_with (first | (go_at_call 47; refine (notNl_any _ _).mono ?_; rintro e w' ⟨rfl, rfl⟩))
   go_ret
   exact ⟨ret_int (by rw [← unhide HR, unhide H3]), rfl⟩
set_option maxHeartbeats 400000 in
theorem run_isNam (b k : Nat) (s : ByteArray) (w : World) (hs : s.size ≤ 8192) (hk : k ≤ s.size) (hc : w.cell? ⟨b, 0, none⟩ = some (.string s)) :
 Calls Tryz.prog 46 #[.pointer (some ⟨b, 0, none⟩), .int .i64 k, .func (.func 64) #[] #[]] w fun e w' => e = .returned (.int .i64 (runEnd isNam s.toList k)) ∧ w' = w := by
 go_enter Tryz.func46, Tryz.ntmps46
 go_wp2
 go_loop [1] (fun t => ∃ j : Nat, j ≤ s.size ∧ t = .int .i64 j ∧ runEnd isNam s.toList j = runEnd isNam s.toList k) (fun t => s.size - (intOf t).toNat)
 case atStart => exact ⟨k, hk, rfl, rfl⟩
 case round =>
  obtain ⟨j, hj, rfl, hr⟩ := hrel
  have HR := hide hr
  clear hr
  by_cases hlt : j < s.size
  ·have H1 := hide (toL_step isNam s j hlt)
   have H2 := hide (toL_stop isNam s j hlt)
   go_wp2_with (first | (go_at_call 64; refine (isNam_b _ _).mono ?_; rintro e w' ⟨rfl, rfl⟩))
   ·go_round
    case rel => exact ⟨j + 1, by omega, by go_num, (unhide H1 (by assumption)).trans (unhide HR)⟩
    case measure => simp [intOf]; omega
   ·go_ret
    exact ⟨ret_int (by rw [← unhide HR, unhide H2 (by assumption)]), rfl⟩
  ·have H3 := hide (toL_end isNam s j (by omega))
   go_wp2_with (first | (go_at_call 64; refine (isNam_b _ _).mono ?_; rintro e w' ⟨rfl, rfl⟩))
   go_ret
   exact ⟨ret_int (by rw [← unhide HR, unhide H3]), rfl⟩
set_option maxHeartbeats 400000 in
theorem run_isDig (b k : Nat) (s : ByteArray) (w : World) (hs : s.size ≤ 8192) (hk : k ≤ s.size) (hc : w.cell? ⟨b, 0, none⟩ = some (.string s)) :
 Calls Tryz.prog 46 #[.pointer (some ⟨b, 0, none⟩), .int .i64 k, .func (.func 51) #[] #[]] w fun e w' => e = .returned (.int .i64 (runEnd isDig s.toList k)) ∧ w' = w := by
 go_enter Tryz.func46, Tryz.ntmps46
 go_wp2
 go_loop [1] (fun t => ∃ j : Nat, j ≤ s.size ∧ t = .int .i64 j ∧ runEnd isDig s.toList j = runEnd isDig s.toList k) (fun t => s.size - (intOf t).toNat)
 case atStart => exact ⟨k, hk, rfl, rfl⟩
 case round =>
  obtain ⟨j, hj, rfl, hr⟩ := hrel
  have HR := hide hr
  clear hr
  by_cases hlt : j < s.size
  ·have H1 := hide (toL_step isDig s j hlt)
   have H2 := hide (toL_stop isDig s j hlt)
   go_wp2_with (first | (go_at_call 51; refine (isDigit_b _ _).mono ?_; rintro e w' ⟨rfl, rfl⟩))
   ·go_round
    case rel => exact ⟨j + 1, by omega, by go_num, (unhide H1 (by assumption)).trans (unhide HR)⟩
    case measure => simp [intOf]; omega
   ·go_ret
    exact ⟨ret_int (by rw [← unhide HR, unhide H2 (by assumption)]), rfl⟩
  ·have H3 := hide (toL_end isDig s j (by omega))
   go_wp2_with (first | (go_at_call 51; refine (isDigit_b _ _).mono ?_; rintro e w' ⟨rfl, rfl⟩))
   go_ret
   exact ⟨ret_int (by rw [← unhide HR, unhide H3]), rfl⟩
set_option maxHeartbeats 400000 in
theorem run_isPln (b k : Nat) (s : ByteArray) (w : World) (hs : s.size ≤ 8192) (hk : k ≤ s.size) (hc : w.cell? ⟨b, 0, none⟩ = some (.string s)) :
 Calls Tryz.prog 46 #[.pointer (some ⟨b, 0, none⟩), .int .i64 k, .func (.func 66) #[] #[]] w fun e w' => e = .returned (.int .i64 (runEnd isPln s.toList k)) ∧ w' = w := by
 go_enter Tryz.func46, Tryz.ntmps46
 go_wp2
 go_loop [1] (fun t => ∃ j : Nat, j ≤ s.size ∧ t = .int .i64 j ∧ runEnd isPln s.toList j = runEnd isPln s.toList k) (fun t => s.size - (intOf t).toNat)
 case atStart => exact ⟨k, hk, rfl, rfl⟩
 case round =>
  obtain ⟨j, hj, rfl, hr⟩ := hrel
  have HR := hide hr
  clear hr
  by_cases hlt : j < s.size
  ·have H1 := hide (toL_step isPln s j hlt)
   have H2 := hide (toL_stop isPln s j hlt)
   go_wp2_with (first | (go_at_call 66; refine (isPlain_b _ _).mono ?_; rintro e w' ⟨rfl, rfl⟩))
   ·go_round
    case rel => exact ⟨j + 1, by omega, by go_num, (unhide H1 (by assumption)).trans (unhide HR)⟩
    case measure => simp [intOf]; omega
   ·go_ret
    exact ⟨ret_int (by rw [← unhide HR, unhide H2 (by assumption)]), rfl⟩
  ·have H3 := hide (toL_end isPln s j (by omega))
   go_wp2_with (first | (go_at_call 66; refine (isPlain_b _ _).mono ?_; rintro e w' ⟨rfl, rfl⟩))
   go_ret
   exact ⟨ret_int (by rw [← unhide HR, unhide H3]), rfl⟩
set_option maxHeartbeats 400000 in
theorem endsStatement_any (k n a : Int) (s : ByteArray) (w : World) :
 Calls Tryz.prog 55 #[.agg #[.int .i64 k, .string s, .int .i64 n, .int .i64 a]] w fun e w' => e = .returned (.bool (tokEnds k s.toList)) ∧ w' = w.alloc (.cells #[.int .i64 k, .string s, .int .i64 n, .int .i64 a] 36) := by
 go_enter Tryz.func55, Tryz.ntmps55
 go_wp2_with (first | (go_at_call 69; refine (wordEnds_any _ _).mono ?_; rintro e w' ⟨rfl, rfl⟩) | (go_at_call 70; refine (markEnds_any _ _).mono ?_; rintro e w' ⟨rfl, rfl⟩))
 all_goals
  go_ret
  exact ⟨ret_bool (by simp_all [tokEnds]), rfl⟩
end Go.Proofs.YtgckmkiiheaeaaaGreatDoor
