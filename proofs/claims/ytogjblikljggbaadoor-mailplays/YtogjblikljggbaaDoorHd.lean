/- Headers: Header, Open, tells. -/
import Derived.Test.YtogjblikljggbaaDoorSp
namespace Go.Proofs.YtogjblikljggbaaDoor
open Go.RowKit Go.Proofs.YtogjblikljggbaaDoor.Hp

theorem i64_low (n : Int) (k : Nat) (hk : k < 63) : bits .and .i64 n ((2 ^ k - 1 : Nat) : Int) = n % (2 ^ k : Nat) := by
  have hp : 2 ^ k < 2 ^ 63 := Nat.pow_lt_pow_right (by decide) hk
  have h0 : 0 < 2 ^ k := Nat.pow_pos (by decide)
  show IntKind.i64.wrap ((BitVec.ofInt 64 n &&& BitVec.ofInt 64 ((2 ^ k - 1 : Nat) : Int)).toNat : Nat) = _
  have e1 : (BitVec.ofInt 64 ((2 ^ k - 1 : Nat) : Int)).toNat = 2 ^ k - 1 := by
    rw [BitVec.ofInt_natCast, BitVec.toNat_ofNat]; exact Nat.mod_eq_of_lt (by omega)
  have e2 : (BitVec.ofInt 64 n).toNat = (n % 18446744073709551616).toNat := by rw [BitVec.toNat_ofInt]; rfl
  rw [BitVec.toNat_and, e1, Nat.and_two_pow_sub_one_eq_mod, e2, IntKind.wrap_i64]
  have e3 : (((n % 18446744073709551616).toNat % 2 ^ k : Nat) : Int) = n % (2 ^ k : Nat) := by
    rw [Int.natCast_emod, Int.toNat_of_nonneg (by omega)]
    exact Int.emod_emod_of_dvd _ (by
      refine ⟨((2 ^ (64 - k) : Nat) : Int), ?_⟩
      rw [← Int.natCast_mul, ← Nat.pow_add, show k + (64 - k) = 64 by omega]
      rfl)
  have h1 := Int.emod_nonneg n (show ((2 ^ k : Nat) : Int) ≠ 0 by omega)
  have h2 := Int.emod_lt_of_pos n (show (0 : Int) < ((2 ^ k : Nat) : Int) by omega)
  rw [e3]
  generalize n % ((2 ^ k : Nat) : Int) = z at h1 h2 ⊢
  generalize 2 ^ k = y at hp h1 h2
  omega
theorem i64_and65535 (n : Int) : bits .and .i64 n 65535 = n % 65536 := i64_low n 16 (by decide)
theorem i64_and32767 (n : Int) : bits .and .i64 n 32767 = n % 32768 := i64_low n 15 (by decide)
theorem i64_and1 (n : Int) : bits .and .i64 n 1 = n % 2 := i64_low n 1 (by decide)
theorem i64_or_nat (a b : Nat) (ha : a < 9223372036854775808) (hb : b < 9223372036854775808) : bits .or .i64 (a : Int) (b : Int) = ((a ||| b : Nat) : Int) := by
  have hx : a ||| b < 2 ^ 63 := Nat.or_lt_two_pow (by omega) (by omega)
  show IntKind.i64.wrap ((BitVec.ofInt 64 (a : Int) ||| BitVec.ofInt 64 (b : Int)).toNat : Int) = _
  have e : ∀ c : Nat, c < 9223372036854775808 → (BitVec.ofInt 64 (c : Int)).toNat = c := fun c hc => by
    rw [BitVec.ofInt_natCast, BitVec.toNat_ofNat]; exact Nat.mod_eq_of_lt (by omega)
  rw [BitVec.toNat_or, e a ha, e b hb, IntKind.wrap_i64]
  generalize a ||| b = z at hx ⊢
  omega
/-- A header's parts are right. -/
def Right (k s m : Int) : Prop := 1 ≤ k ∧ k ≤ 4 ∧ 0 ≤ s ∧ s ≤ 16447 ∧ 0 ≤ m ∧ m ≤ 65535
instance (k s m : Int) : Decidable (Right k s m) := inferInstanceAs (Decidable (_ ∧ _))
/-- Whether the word k behind a header may be a reference. -/
def tellsB (kd mk : Int) (k : Nat) : Bool := decide (kd = 2) || (decide (kd = 3) && decide (mk ≤ k)) || (decide (kd = 4) && decide (mk / 2 ^ k % 2 = 1))
def hdr (k s m : Int) : Int := if Right k s m then k * 2147483648 + m * 32768 + s else 0
/-- A word is a header. -/
def IsH (h : Int) : Prop := 2147483648 ≤ h ∧ h < 10737418240 ∧ h % 32768 ≤ 16447
instance (h : Int) : Decidable (IsH h) := inferInstanceAs (Decidable (_ ∧ _))
def hK (h : Int) : Int := h / 2147483648
def hM (h : Int) : Int := h / 32768 % 65536
def hS (h : Int) : Int := h % 32768
theorem right_is (h : Int) : Right (hK h) (hS h) (hM h) ↔ IsH h := by
  unfold Right IsH hK hS hM
  omega
theorem hdr_is (h : Int) : hdr (hK h) (hS h) (hM h) = (if IsH h then h else 0) := by
  unfold hdr
  by_cases h1 : IsH h
  · rw [if_pos h1, if_pos ((right_is h).2 h1)]
    unfold hK hS hM
    omega
  · rw [if_neg h1, if_neg (fun x => h1 ((right_is h).1 x))]
theorem hdr_ne (h : Int) : (h = 0 ∨ hdr (hK h) (hS h) (hM h) ≠ h) ↔ ¬ IsH h := by
  rw [hdr_is]
  by_cases h1 : IsH h
  · rw [if_pos h1]; unfold IsH at h1; constructor
    · rintro (e | e)
      · omega
      · exact absurd rfl e
    · intro e; exact absurd (show IsH h from h1) e
  · rw [if_neg h1]; constructor
    · intro _; exact h1
    · intro _; by_cases e : h = 0
      · exact .inl e
      · exact .inr (fun x => e x.symm)
theorem hdr_open {k s m : Int} (h : Right k s m) : IsH (hdr k s m) ∧ hK (hdr k s m) = k ∧ hS (hdr k s m) = s ∧ hM (hdr k s m) = m := by
  have e : hdr k s m = k * 2147483648 + m * 32768 + s := if_pos h
  rw [e]
  unfold Right at h
  unfold IsH hK hS hM
  omega
theorem hdr_zero {k s m : Int} : hdr k s m = 0 ↔ ¬ Right k s m := by
  unfold hdr
  by_cases h : Right k s m
  · rw [if_pos h]; unfold Right at *; constructor
    · intro _; omega
    · intro e; exact absurd h e
  · rw [if_neg h]; exact ⟨fun _ => h, fun _ => rfl⟩
theorem hdr_val {k s m : Int} (h : Right k s m) : bits .or .i64 (bits .or .i64 (k * 2147483648) (m * 32768)) s = hdr k s m := by
  have e : hdr k s m = k * 2147483648 + m * 32768 + s := if_pos h
  rw [e]
  unfold Right at h
  obtain ⟨a, rfl⟩ := Int.eq_ofNat_of_zero_le (show 0 ≤ k by omega)
  obtain ⟨b, rfl⟩ := Int.eq_ofNat_of_zero_le (show 0 ≤ m by omega)
  obtain ⟨c, rfl⟩ := Int.eq_ofNat_of_zero_le (show 0 ≤ s by omega)
  have e1 : (a : Int) * 2147483648 = ((2 ^ 31 * a : Nat) : Int) := by omega
  have e2 : (b : Int) * 32768 = ((b * 32768 : Nat) : Int) := by omega
  have e3 : 2 ^ 31 * a ||| b * 32768 = 2 ^ 31 * a + b * 32768 := (Nat.two_pow_add_eq_or_of_lt (by omega) a).symm
  have e4 : 2 ^ 31 * a + b * 32768 = 2 ^ 15 * (65536 * a + b) := by omega
  have e5 : 2 ^ 15 * (65536 * a + b) ||| c = 2 ^ 15 * (65536 * a + b) + c := (Nat.two_pow_add_eq_or_of_lt (by omega) _).symm
  rw [e1, e2, i64_or_nat _ _ (by omega) (by omega), e3, e4, i64_or_nat _ _ (by omega) (by omega), e5]
  omega
set_option maxHeartbeats 1000000 in
theorem Header_any (k s m : Int) (w : World) : Calls Tryd.prog 30 #[.int .i64 k, .int .i64 s, .int .i64 m] w fun e w' => e = .returned (.int .i64 (hdr k s m)) ∧ w' = w := by
  by_cases h : Right k s m
  · have HV := hide (hdr_val h)
    have h' := h
    unfold Right at h'
    obtain ⟨h1, h2, h3, h4, h5, h6⟩ := h'
    have s1 : IntKind.i64.wrap (k * 2 ^ 31) = k * 2147483648 := by rw [IntKind.wrap_i64]; omega
    have s2 : IntKind.i64.wrap (m * 2 ^ 15) = m * 32768 := by rw [IntKind.wrap_i64]; omega
    go_enter Tryd.func30, Tryd.ntmps30
    go_wp2
    go_ret
    exact ⟨ret_int (unhide HV), rfl⟩
  · have e : hdr k s m = 0 := hdr_zero.2 h
    rw [e]
    unfold Right at h
    clear e
    go_enter Tryd.func30, Tryd.ntmps30
    go_wp2
    all_goals first | omega | (go_ret; exact ⟨rfl, rfl⟩)
theorem results_tmp4 {fn : Func} {t u v x : Tmp} (h : fn.results = #[.tmp t, .tmp u, .tmp v, .tmp x]) (tmps : Array Value) (P : Program) (w : World) :
    (results fn tmps).run P w = .ok (.tuple #[tmps.getD t undef, tmps.getD u undef, tmps.getD v undef, tmps.getD x undef]) w := by
  simp [results, h]
def opnV (h : Int) : Value := if IsH h then .tuple #[.int .i64 (hK h), .int .i64 (hS h), .int .i64 (hM h), .bool true] else .tuple #[.int .i64 0, .int .i64 0, .int .i64 0, .bool false]
set_option maxHeartbeats 1000000 in
theorem Open_yes (h : Int) (w : World) (hh : IsH h) : Calls Tryd.prog 48 #[.int .i64 h] w fun e w' => e = .returned (.tuple #[.int .i64 (h / 2147483648), .int .i64 (h % 32768), .int .i64 (h / 32768 % 65536), .bool true]) ∧ w' = w := by
  have e1 := i64_and65535 (h / 32768)
  have e2 := i64_and32767 h
  have HC : Calls Tryd.prog 30 #[.int .i64 (h / 2147483648), .int .i64 (h % 32768), .int .i64 (h / 32768 % 65536)] w fun e w' => e = .returned (.int .i64 h) ∧ w' = w := by
    have := Header_any (hK h) (hS h) (hM h) w
    rw [hdr_is, if_pos hh] at this
    exact this
  have HD := hide HC
  clear HC
  have h0 : (h == 0) = false := by unfold IsH at hh; simp; omega
  clear hh
  go_enter Tryd.func48, Tryd.ntmps48
  go_wp2_with (first | (go_at_call 30; refine (unhide HD).mono ?_; rintro e w' ⟨rfl, rfl⟩))
  all_goals ((try simp only [Exit.inBlock, Exit.then]); refine bodyPost_ret (results_tmp4 rfl _ _ _) rfl ?_)
  all_goals exact ⟨rfl, rfl⟩
set_option maxHeartbeats 1000000 in
theorem Open_no (h : Int) (w : World) (hh : ¬ IsH h) : Calls Tryd.prog 48 #[.int .i64 h] w fun e w' => e = .returned (.tuple #[.int .i64 0, .int .i64 0, .int .i64 0, .bool false]) ∧ w' = w := by
  have e1 := i64_and65535 (h / 32768)
  have e2 := i64_and32767 h
  have HC : Calls Tryd.prog 30 #[.int .i64 (h / 2147483648), .int .i64 (h % 32768), .int .i64 (h / 32768 % 65536)] w fun e w' => e = .returned (.int .i64 0) ∧ w' = w := by
    have := Header_any (hK h) (hS h) (hM h) w
    rw [hdr_is, if_neg hh] at this
    exact this
  have HD := hide HC
  clear HC hh
  by_cases hz : h = 0
  · subst hz
    go_enter Tryd.func48, Tryd.ntmps48
    go_wp2
    all_goals ((try simp only [Exit.inBlock, Exit.then]); refine bodyPost_ret (results_tmp4 rfl _ _ _) rfl ?_)
    all_goals exact ⟨rfl, rfl⟩
  · have h0 : (h == 0) = false := by simpa using hz
    have h1 : ((0 : Int) != h) = true := by simp; omega
    clear hz
    go_enter Tryd.func48, Tryd.ntmps48
    go_wp2_with (first | (go_at_call 30; refine (unhide HD).mono ?_; rintro e w' ⟨rfl, rfl⟩))
    all_goals ((try simp only [Exit.inBlock, Exit.then]); refine bodyPost_ret (results_tmp4 rfl _ _ _) rfl ?_)
    all_goals exact ⟨rfl, rfl⟩
theorem Open_any (h : Int) (w : World) : Calls Tryd.prog 48 #[.int .i64 h] w fun e w' => e = .returned (opnV h) ∧ w' = w := by
  unfold opnV
  by_cases hh : IsH h
  · rw [if_pos hh]; exact Open_yes h w hh
  · rw [if_neg hh]; exact Open_no h w hh
theorem shr_min (mk : Int) (k : Nat) (h0 : 0 ≤ mk) (h1 : mk ≤ 65535) : mk / 2 ^ min k 64 = mk / 2 ^ k := by
  by_cases h : k ≤ 64
  · rw [Nat.min_eq_left h]
  · rw [Nat.min_eq_right (by omega)]
    have h2 : (2 : Int) ^ 64 ≤ 2 ^ k := by
      have := Nat.pow_le_pow_right (show 0 < 2 by decide) (show 64 ≤ k by omega)
      exact_mod_cast this
    rw [Int.ediv_eq_zero_of_lt h0 (by omega), Int.ediv_eq_zero_of_lt h0 (by omega)]
set_option maxHeartbeats 1000000 in
theorem tells_any (kd mk : Int) (k : Nat) (w : World) (hm : 0 ≤ mk) (hm2 : mk ≤ 65535) : Calls Tryd.prog 64 #[.int .i64 kd, .int .i64 mk, .int .i64 k] w fun e w' => e = .returned (.bool (tellsB kd mk k)) ∧ w' = w := by
  have e1 := i64_and1 (mk / 2 ^ k)
  unfold tellsB
  by_cases h2 : kd = 2
  · subst h2
    go_enter Tryd.func64, Tryd.ntmps64
    go_wp2
    go_ret
    exact ⟨rfl, rfl⟩
  · by_cases h3 : kd = 3
    · subst h3
      go_enter Tryd.func64, Tryd.ntmps64
      go_wp2
      go_ret
      exact ⟨ret_bool (by simp), rfl⟩
    · by_cases h4 : kd = 4
      · subst h4
        go_enter Tryd.func64, Tryd.ntmps64
        go_wp2
        go_ret
        exact ⟨ret_bool (by simp [shr_min mk k hm hm2, e1]; by_cases h : mk / 2 ^ k % 2 = 1 <;> simp [h]), rfl⟩
      · have d2 : (kd == 2) = false := by simpa using h2
        have d3 : (kd == 3) = false := by simpa using h3
        have d4 : (kd == 4) = false := by simpa using h4
        have HE : Hid ((decide (kd = 2) || (decide (kd = 3) && decide (mk ≤ k)) || (decide (kd = 4) && decide (mk / 2 ^ k % 2 = 1))) = false) := hide (by simp [h2, h3, h4])
        clear h2 h3 h4
        go_enter Tryd.func64, Tryd.ntmps64
        go_wp2
        go_ret
        exact ⟨ret_bool (unhide HE).symm, rfl⟩
end Go.Proofs.YtogjblikljggbaaDoor
