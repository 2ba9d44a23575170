import Derived.Test.YtheknbfbneghgaaGreatDoorLeaf
import Derived.Test.YtheknbfbneghgaaGreatDoorSpec2
set_option maxHeartbeats 400000
set_option maxRecDepth 100000
namespace Go.Proofs.YtheknbfbneghgaaGreatDoor
open Go.RowKit Lx
theorem ret_int {k : IntKind} {a b : Int} (h : a = b) : Ending.returned (.int k a) = .returned (.int k b) := by rw [h]
theorem isNam_b (c : UInt8) (w : World) : Calls Tryz.prog 68 #[.int .u8 c.toNat] w fun e w' => e = .returned (.bool (isNam c)) ∧ w' = w :=
 isNam_any _ w om (by have := c.toNat_lt; omega)
theorem isDigit_b (c : UInt8) (w : World) : Calls Tryz.prog 48 #[.int .u8 c.toNat] w fun e w' => e = .returned (.bool (isDig c)) ∧ w' = w :=
 isDigit_any _ w om (by have := c.toNat_lt; omega)
theorem isPlain_b (c : UInt8) (w : World) : Calls Tryz.prog 70 #[.int .u8 c.toNat] w fun e w' => e = .returned (.bool (isPln c)) ∧ w' = w :=
 isPlain_any _ w om (by have := c.toNat_lt; omega)
theorem isLetter_b (c : UInt8) (w : World) : Calls Tryz.prog 45 #[.int .u8 c.toNat] w fun e w' => e = .returned (.bool (isLet c)) ∧ w' = w :=
 isLetter_any _ w om (by have := c.toNat_lt; omega)
theorem run_notNl (b k : Nat) (s : ByteArray) (w : World) (hs : s.size ≤ 8192) (hk : k ≤ s.size) (hc : w.cell? ⟨b, 0, none⟩ = some (.string s)) :
 Calls Tryz.prog 43 #[.pointer (some ⟨b, 0, none⟩), .int .i64 k, .func (.func 44) #[] #[]] w fun e w' => e = .returned (.int .i64 (yL notNl s.toList k)) ∧ w' = w := by
 go_enter Tryz.func43, Tryz.ntmps43
 go_wp2
 go_loop [1] (fun t => ∃ j : Nat, j ≤ s.size ∧ t = .int .i64 j ∧ yL notNl s.toList j = yL notNl s.toList k) (fun t => s.size - (intOf t).toNat)
 case atStart => exact ⟨k, hk, rfl, rfl⟩
 case round =>
  obtain ⟨j, hj, rfl, hr⟩ := hrel
  have HR := zm hr
  clear hr
  by_cases hlt : j < s.size
  ·have H1 := zm (toL_step notNl s j hlt)
   have H2 := zm (toL_stop notNl s j hlt)
   go_wp2_with (first | (go_at_call 44; refine (notNl_any _ _).mono ?_; rintro e w' ⟨rfl, rfl⟩))
   ·go_round
    case rel => exact ⟨j + 1, om, by go_num, (zk H1 zf).trans (zk HR)⟩
    case measure => simp [intOf]; omega
   ·go_ret
    exact ⟨ret_int (by rw [← zk HR, zk H2 zf]), rfl⟩
  ·have H3 := zm (toL_end notNl s j om)
   go_wp2_with (first | (go_at_call 44; refine (notNl_any _ _).mono ?_; rintro e w' ⟨rfl, rfl⟩))
   go_ret
   exact ⟨ret_int (by rw [← zk HR, zk H3]), rfl⟩
theorem run_isNam (b k : Nat) (s : ByteArray) (w : World) (hs : s.size ≤ 8192) (hk : k ≤ s.size) (hc : w.cell? ⟨b, 0, none⟩ = some (.string s)) :
 Calls Tryz.prog 43 #[.pointer (some ⟨b, 0, none⟩), .int .i64 k, .func (.func 68) #[] #[]] w fun e w' => e = .returned (.int .i64 (yL isNam s.toList k)) ∧ w' = w := by
 go_enter Tryz.func43, Tryz.ntmps43
 go_wp2
 go_loop [1] (fun t => ∃ j : Nat, j ≤ s.size ∧ t = .int .i64 j ∧ yL isNam s.toList j = yL isNam s.toList k) (fun t => s.size - (intOf t).toNat)
 case atStart => exact ⟨k, hk, rfl, rfl⟩
 case round =>
  obtain ⟨j, hj, rfl, hr⟩ := hrel
  have HR := zm hr
  clear hr
  by_cases hlt : j < s.size
  ·have H1 := zm (toL_step isNam s j hlt)
   have H2 := zm (toL_stop isNam s j hlt)
   go_wp2_with (first | (go_at_call 68; refine (isNam_b _ _).mono ?_; rintro e w' ⟨rfl, rfl⟩))
   ·go_round
    case rel => exact ⟨j + 1, om, by go_num, (zk H1 zf).trans (zk HR)⟩
    case measure => simp [intOf]; omega
   ·go_ret
    exact ⟨ret_int (by rw [← zk HR, zk H2 zf]), rfl⟩
  ·have H3 := zm (toL_end isNam s j om)
   go_wp2_with (first | (go_at_call 68; refine (isNam_b _ _).mono ?_; rintro e w' ⟨rfl, rfl⟩))
   go_ret
   exact ⟨ret_int (by rw [← zk HR, zk H3]), rfl⟩
theorem run_isDig (b k : Nat) (s : ByteArray) (w : World) (hs : s.size ≤ 8192) (hk : k ≤ s.size) (hc : w.cell? ⟨b, 0, none⟩ = some (.string s)) :
 Calls Tryz.prog 43 #[.pointer (some ⟨b, 0, none⟩), .int .i64 k, .func (.func 48) #[] #[]] w fun e w' => e = .returned (.int .i64 (yL isDig s.toList k)) ∧ w' = w := by
 go_enter Tryz.func43, Tryz.ntmps43
 go_wp2
 go_loop [1] (fun t => ∃ j : Nat, j ≤ s.size ∧ t = .int .i64 j ∧ yL isDig s.toList j = yL isDig s.toList k) (fun t => s.size - (intOf t).toNat)
 case atStart => exact ⟨k, hk, rfl, rfl⟩
 case round =>
  obtain ⟨j, hj, rfl, hr⟩ := hrel
  have HR := zm hr
  clear hr
  by_cases hlt : j < s.size
  ·have H1 := zm (toL_step isDig s j hlt)
   have H2 := zm (toL_stop isDig s j hlt)
   go_wp2_with (first | (go_at_call 48; refine (isDigit_b _ _).mono ?_; rintro e w' ⟨rfl, rfl⟩))
   ·go_round
    case rel => exact ⟨j + 1, om, by go_num, (zk H1 zf).trans (zk HR)⟩
    case measure => simp [intOf]; omega
   ·go_ret
    exact ⟨ret_int (by rw [← zk HR, zk H2 zf]), rfl⟩
  ·have H3 := zm (toL_end isDig s j om)
   go_wp2_with (first | (go_at_call 48; refine (isDigit_b _ _).mono ?_; rintro e w' ⟨rfl, rfl⟩))
   go_ret
   exact ⟨ret_int (by rw [← zk HR, zk H3]), rfl⟩
theorem run_isPln (b k : Nat) (s : ByteArray) (w : World) (hs : s.size ≤ 8192) (hk : k ≤ s.size) (hc : w.cell? ⟨b, 0, none⟩ = some (.string s)) :
 Calls Tryz.prog 43 #[.pointer (some ⟨b, 0, none⟩), .int .i64 k, .func (.func 70) #[] #[]] w fun e w' => e = .returned (.int .i64 (yL isPln s.toList k)) ∧ w' = w := by
 go_enter Tryz.func43, Tryz.ntmps43
 go_wp2
 go_loop [1] (fun t => ∃ j : Nat, j ≤ s.size ∧ t = .int .i64 j ∧ yL isPln s.toList j = yL isPln s.toList k) (fun t => s.size - (intOf t).toNat)
 case atStart => exact ⟨k, hk, rfl, rfl⟩
 case round =>
  obtain ⟨j, hj, rfl, hr⟩ := hrel
  have HR := zm hr
  clear hr
  by_cases hlt : j < s.size
  ·have H1 := zm (toL_step isPln s j hlt)
   have H2 := zm (toL_stop isPln s j hlt)
   go_wp2_with (first | (go_at_call 70; refine (isPlain_b _ _).mono ?_; rintro e w' ⟨rfl, rfl⟩))
   ·go_round
    case rel => exact ⟨j + 1, om, by go_num, (zk H1 zf).trans (zk HR)⟩
    case measure => simp [intOf]; omega
   ·go_ret
    exact ⟨ret_int (by rw [← zk HR, zk H2 zf]), rfl⟩
  ·have H3 := zm (toL_end isPln s j om)
   go_wp2_with (first | (go_at_call 70; refine (isPlain_b _ _).mono ?_; rintro e w' ⟨rfl, rfl⟩))
   go_ret
   exact ⟨ret_int (by rw [← zk HR, zk H3]), rfl⟩
theorem endsStatement_any (k n a : Int) (s : ByteArray) (w : World) :
 Calls Tryz.prog 52 #[.agg #[.int .i64 k, .string s, .int .i64 n, .int .i64 a]] w fun e w' => e = .returned (.bool (tokEnds k s.toList)) ∧ w' = w.alloc (.cells #[.int .i64 k, .string s, .int .i64 n, .int .i64 a] 85) := by
 go_enter Tryz.func52, Tryz.ntmps52
 go_wp2_with (first | (go_at_call 73; refine (wordEnds_any _ _).mono ?_; rintro e w' ⟨rfl, rfl⟩) | (go_at_call 74; refine (markEnds_any _ _).mono ?_; rintro e w' ⟨rfl, rfl⟩))
 all_goals
  go_ret
  exact ⟨ret_bool (by simp_all [tokEnds]), rfl⟩
end Go.Proofs.YtheknbfbneghgaaGreatDoor
