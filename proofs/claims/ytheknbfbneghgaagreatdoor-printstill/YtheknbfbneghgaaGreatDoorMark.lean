import Derived.Test.YtheknbfbneghgaaGreatDoorRead
set_option maxHeartbeats 400000
set_option maxRecDepth 100000
namespace Go.Proofs.YtheknbfbneghgaaGreatDoor
open Go.RowKit Lx
theorem wrap_byte (c : UInt8) : wrap64 (c.toNat : Int) = c.toNat := by have := c.toNat_lt; unfold wrap64; omega
theorem ml_cons (s : ByteArray) (h : 0 < s.size) : ∃ r, s.toList = s[0] :: r := ⟨_, by simpa using drop_cons_of s.toList 0 s[0] (toL_get s 0 h)⟩
theorem ml_val (s : ByteArray) (h : 0 < s.size) : mLen s.toList = if mTab s[0].toNat = 2 then (if isPr (s.extract 0 2).toList = true then 2 else if s[0] = 124 then 0 else 1) else if mTab s[0].toNat = 1 then 1 else 0 := by
 obtain ⟨r, hr⟩ := ml_cons s h
 rw [ext_toL s 0 2, hr]
 rfl
theorem pr_len (t : List UInt8) (h : isPr t = true) : t.length = 2 := by
 simp [isPr, pairList] at h
 rcases h with h | h | h | h | h | h | h | h | h | h | h | h | h <;> subst h <;> rfl
theorem mTab_hi (n : Nat) (h : 128 ≤ n) : mTab n = 0 := by
 unfold mTab
 rw [List.getD_eq_getElem?_getD, List.getElem?_eq_none (by exact h)]; rfl
theorem markLength_hi (s : ByteArray) (w : World) (_hs : s.size ≤ 8192) (hk : 0 < s.size) (h128 : 128 ≤ (s[0].toNat : Int)) :
 Calls Tryz.prog 72 #[.string s] w fun e w' => e = .returned (.int .i64 0) ∧ w' = w := by
 have h2 := wrap_byte s[0]
 go_enter Tryz.func72, Tryz.ntmps72
 go_wp2_with (first | (go_at_call 89; refine (isPair_any _ _).mono ?_; rintro e w' ⟨rfl, rfl⟩))
 go_ret
 exact ⟨rfl, rfl⟩
theorem markLength_lo (s : ByteArray) (w : World) (_hs : s.size ≤ 8192) (hk : 0 < s.size) (m : Int) (h128 : (s[0].toNat : Int) < 128) (hg : w.cell? ⟨1, s[0].toNat, none⟩ = some (.int .i8 m)) (n2 : (m == 2) = false) :
 Calls Tryz.prog 72 #[.string s] w fun e w' => e = .returned (.int .i64 (if m = 1 then 1 else 0)) ∧ w' = w := by
 have h2 := wrap_byte s[0]
 by_cases h1 : m = 1
 ·subst h1
  go_enter Tryz.func72, Tryz.ntmps72
  go_wp2_with (first | (go_at_call 89; refine (isPair_any _ _).mono ?_; rintro e w' ⟨rfl, rfl⟩))
  go_ret
  exact ⟨rfl, rfl⟩
 ·have n1 : (m == 1) = false := beq_eq_false_iff_ne.2 h1
  rw [if_neg h1]
  clear h1
  go_enter Tryz.func72, Tryz.ntmps72
  go_wp2_with (first | (go_at_call 89; refine (isPair_any _ _).mono ?_; rintro e w' ⟨rfl, rfl⟩))
  go_ret
  exact ⟨rfl, rfl⟩
theorem markLength_two (s : ByteArray) (w : World) (hs : s.size ≤ 8192) (hk : 0 < s.size) (h128 : (s[0].toNat : Int) < 128) (hg : w.cell? ⟨1, s[0].toNat, none⟩ = some (.int .i8 2)) :
 Calls Tryz.prog 72 #[.string s] w fun e w' => e = .returned (.int .i64 (if isPr (s.extract 0 2).toList = true then 2 else if s[0] = 124 then 0 else 1)) ∧ w' = w := by
 have h2 := wrap_byte s[0]
 by_cases hp : isPr (s.extract 0 2).toList = true
 ·have hl : 1 < s.size := by
   have := pr_len _ hp
   rw [ext_toL] at this
   simp [sub, yx] at this
   omega
  rw [if_pos hp]
  go_enter Tryz.func72, Tryz.ntmps72
  go_wp2_with (first | (go_at_call 89; refine (isPair_any _ _).mono ?_; rintro e w' ⟨rfl, rfl⟩))
  go_ret
  exact ⟨rfl, rfl⟩
 ·rw [if_neg hp]
  have hpf : isPr (s.extract 0 2).toList = false := by simpa using hp
  clear hp
  by_cases hl : 1 < s.size
  ·by_cases h4 : (s[0].toNat : Int) = 124
   ·rw [if_pos (byte_of (n := 124) h4)]
    have h5 : ((s[0].toNat : Int) == 124) = true := beq_iff_eq.2 h4
    clear h4
    go_enter Tryz.func72, Tryz.ntmps72
    go_wp2_with (first | (go_at_call 89; refine (isPair_any _ _).mono ?_; rintro e w' ⟨rfl, rfl⟩))
    go_ret
    exact ⟨rfl, rfl⟩
   ·rw [if_neg (fun e => byte_ne (n := 124) h4 (congrArg some e))]
    have h5 : ((s[0].toNat : Int) == 124) = false := beq_eq_false_iff_ne.2 h4
    clear h4
    go_enter Tryz.func72, Tryz.ntmps72
    go_wp2_with (first | (go_at_call 89; refine (isPair_any _ _).mono ?_; rintro e w' ⟨rfl, rfl⟩))
    go_ret
    exact ⟨rfl, rfl⟩
  ·by_cases h4 : (s[0].toNat : Int) = 124
   ·rw [if_pos (byte_of (n := 124) h4)]
    have h5 : ((s[0].toNat : Int) == 124) = true := beq_iff_eq.2 h4
    clear h4
    go_enter Tryz.func72, Tryz.ntmps72
    go_wp2_with (first | (go_at_call 89; refine (isPair_any _ _).mono ?_; rintro e w' ⟨rfl, rfl⟩))
    go_ret
    exact ⟨rfl, rfl⟩
   ·rw [if_neg (fun e => byte_ne (n := 124) h4 (congrArg some e))]
    have h5 : ((s[0].toNat : Int) == 124) = false := beq_eq_false_iff_ne.2 h4
    clear h4
    go_enter Tryz.func72, Tryz.ntmps72
    go_wp2_with (first | (go_at_call 89; refine (isPair_any _ _).mono ?_; rintro e w' ⟨rfl, rfl⟩))
    go_ret
    exact ⟨rfl, rfl⟩
theorem markLength_any (s : ByteArray) (w : World) (hs : s.size ≤ 8192) (hk : 0 < s.size) (hg : ∀ i, i < 128 → w.cell? ⟨1, i, none⟩ = some (.int .i8 (mTab i))) :
 Calls Tryz.prog 72 #[.string s] w fun e w' => e = .returned (.int .i64 (mLen s.toList)) ∧ w' = w := by
 rw [ml_val s hk]
 by_cases h : s[0].toNat < 128
 ·have hg' := hg _ h
  by_cases h2 : mTab s[0].toNat = 2
  ·rw [h2] at hg'
   rw [if_pos h2]
   refine (markLength_two s w hs hk om hg').mono ?_
   rintro e w' ⟨rfl, rfl⟩
   refine ⟨ret_int ?_, rfl⟩
   split
   ·rfl
   ·split <;> rfl
  ·rw [if_neg h2]
   refine (markLength_lo s w hs hk _ om hg' (beq_eq_false_iff_ne.2 h2)).mono ?_
   rintro e w' ⟨rfl, rfl⟩
   refine ⟨ret_int ?_, rfl⟩
   split <;> rfl
 ·have h0 := mTab_hi s[0].toNat om
  rw [h0]
  exact markLength_hi s w hs hk om
end Go.Proofs.YtheknbfbneghgaaGreatDoor
