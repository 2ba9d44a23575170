import Derived.Test.YtheknbfbneghgaaGreatDoorRun
set_option maxHeartbeats 400000
set_option maxRecDepth 100000
namespace Go.Proofs.YtheknbfbneghgaaGreatDoor
open Go.RowKit Lx
theorem ext_toL (s : ByteArray) (a b : Nat) : (s.extract a b).toList = sub s.toList a b := by
 unfold sub
 rw [ByteArray.toList_eq, ByteArray.toList_eq, Lib.extract_data]
theorem cmt_of (s : ByteArray) (k : Nat) : ((s.extract k (k + 2)).toList == [47, 47]) = cmt s.toList k := by
 rw [ext_toL s k (k + 2)]
 simp [cmt, sub]
theorem cmt_no (s : ByteArray) (k : Nat) (h : s.size ≤ k + 1) : false = cmt s.toList k := by
 have hl : ((s.toList.drop k).take 2).length ≤ 1 := by rw [List.length_take, List.length_drop, yx]; omega
 unfold cmt
 generalize (s.toList.drop k).take 2 = t at hl
 match t, hl with
 | [], _ => rfl
 | [x], _ => simp
theorem comment_any (b k : Nat) (s : ByteArray) (w : World) (hs : s.size ≤ 8192) (hk : k < s.size) (hc : w.cell? ⟨b, 0, none⟩ = some (.string s)) (ha : w.cell? ⟨b, 1, none⟩ = some (.int .i64 k)) :
 Calls Tryz.prog 42 #[.pointer (some ⟨b, 0, none⟩)] w fun e w' => e = .returned (.bool (cmt s.toList k)) ∧ ∃ n, w' = w.drewN n := by
 by_cases hlt : k + 1 < s.size
 ·have h1 : (k : Int) + 1 < s.size := om
  go_enter Tryz.func42, Tryz.ntmps42
  go_wp2
  go_quiet (fail)
  go_wp2
  go_ret
  exact ⟨ret_bool (cmt_of s k), _, rfl⟩
 ·have h1 : decide ((k : Int) + 1 < s.size) = false := by simp; omega
  go_enter Tryz.func42, Tryz.ntmps42
  go_wp2
  go_quiet (fail)
  go_wp2
  go_ret
  exact ⟨ret_bool (cmt_no s k om), _, rfl⟩
theorem byte_of {c n : UInt8} (h : (c.toNat : Int) = (n.toNat : Int)) : c = n := UInt8.toNat_inj.1 om
theorem byte_ne {c n : UInt8} (h : ¬ (c.toNat : Int) = (n.toNat : Int)) : ¬ some c = some n := fun e => h (by rw [Option.some.inj e])
theorem some_of {c n : UInt8} (h : (c.toNat : Int) = (n.toNat : Int)) : some c = some n := by rw [byte_of h]
theorem esc_off (s : ByteArray) (k : Nat) (hk : k < s.size) (h : ¬ (s[k].toNat : Int) = 92) : escF s.toList k = none := by
 unfold escF; rw [toL_get s k hk, if_neg (byte_ne (n := 92) h)]
theorem esc_out (s : ByteArray) (k : Nat) (hlt : ¬ k + 1 < s.size) : escF s.toList k = none := by
 have h : s.toList[k + 1]? = none := List.getElem?_eq_none (by rw [yx]; omega)
 unfold escF; rw [h]; simp
theorem esc_on (s : ByteArray) (k : Nat) (hk : k < s.size) (hlt : k + 1 < s.size) (h : (s[k].toNat : Int) = 92) : escF s.toList k = if some s[k + 1] = some 110 then some 10 else if some s[k + 1] = some 34 then some 34 else if some s[k + 1] = some 92 then some 92 else none := by
 unfold escF; rw [toL_get s k hk, if_pos (some_of (n := 92) h), toL_get s (k + 1) hlt]
theorem escape_any (b k : Nat) (s : ByteArray) (w : World) (hs : s.size ≤ 8192) (hk : k < s.size) (hc : w.cell? ⟨b, 0, none⟩ = some (.string s)) :
 Calls Tryz.prog 71 #[.pointer (some ⟨b, 0, none⟩), .int .i64 k] w fun e w' => e = .returned (.tuple #[.int .u8 (((escF s.toList k).getD 0).toNat : Int), .bool (escF s.toList k).isSome]) ∧ w' = w := by
 have E0 := zm (esc_off s k hk)
 by_cases hlt : k + 1 < s.size
 ·have E1 := zm (esc_on s k hk hlt)
  go_enter Tryz.func71, Tryz.ntmps71
  go_wp2
  ·go_ret2
   have e : escF s.toList k = some 10 := by rw [zk E1 zf, if_pos (some_of (n := 110) (eq_of_beq zf))]
   rw [e]; exact ⟨rfl, rfl⟩
  ·go_ret2
   have t2 : (s[k + 1].toNat : Int) = 34 := eq_of_beq zf
   have e : escF s.toList k = some 34 := by rw [zk E1 zf, if_neg (byte_ne (n := 110) (by simp only [t2]; decide)), if_pos (some_of (n := 34) t2)]
   rw [e, byte_of (n := 34) t2]; exact ⟨rfl, rfl⟩
  ·go_ret2
   have t2 : (s[k + 1].toNat : Int) = 92 := eq_of_beq zf
   have e : escF s.toList k = some 92 := by rw [zk E1 zf, if_neg (byte_ne (n := 110) (by simp only [t2]; decide)), if_neg (byte_ne (n := 34) (by simp only [t2]; decide)), if_pos (some_of (n := 92) t2)]
   rw [e, byte_of (n := 92) t2]; exact ⟨rfl, rfl⟩
  ·go_ret2
   have t1 : ((s[k + 1].toNat : Int) == 110) = false := by assumption
   have t2 : ((s[k + 1].toNat : Int) == 34) = false := by assumption
   have t3 : ((s[k + 1].toNat : Int) == 92) = false := by assumption
   have e : escF s.toList k = none := by rw [zk E1 zf, if_neg (byte_ne (n := 110) (ne_of_beq_false t1)), if_neg (byte_ne (n := 34) (ne_of_beq_false t2)), if_neg (byte_ne (n := 92) (ne_of_beq_false t3))]
   rw [e]; exact ⟨rfl, rfl⟩
  ·go_ret2
   rw [zk E0 zf]; exact ⟨rfl, rfl⟩
 ·have E1 := zm (esc_out s k hlt)
  go_enter Tryz.func71, Tryz.ntmps71
  go_wp2
  all_goals
   go_ret2
   rw [zk E1]; exact ⟨rfl, rfl⟩
end Go.Proofs.YtheknbfbneghgaaGreatDoor
