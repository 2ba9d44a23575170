/- The contracts of a span: its classes, its room, whether it is full. -/
import Derived.Test.YtogjblikljggbaaDoorSt
namespace Go.Proofs.YtogjblikljggbaaDoor
open Go.RowKit Go.Proofs.YtogjblikljggbaaDoor.Hp
theorem pop8_nat (b : Nat) (h : b < 256) : Lib.pop8 (b : Int) = (pop b 8 : Int) := by
  have := Lib.pop8_eq ⟨b, h⟩
  simp only at this
  rw [this, onesCount8 b h]
theorem pop_le (x k : Nat) : pop x k ≤ k := cntN_le _ _
theorem pop32 (x : Nat) : pop x 32 = pop (x / 16777216) 8 + pop (x / 65536 % 256) 8 + pop (x / 256 % 256) 8 + pop (x % 256) 8 := by
  have h1 := pop_split x 8 24
  have h2 := pop_split (x / 2 ^ 8) 8 16
  have h3 := pop_split (x / 2 ^ 8 / 2 ^ 8) 8 8
  rw [show (2 : Nat) ^ 8 = 256 from rfl] at h1 h2 h3
  rw [show 32 = 8 + 24 from rfl, h1, show 24 = 8 + 16 from rfl, h2, show 16 = 8 + 8 from rfl, h3, show x / 256 / 256 / 256 = x / 16777216 by omega, show x / 256 / 256 = x / 65536 by omega]
  omega
theorem and255 (x : Nat) (hx : x < 4294967296) : bits BinOp.and IntKind.u32 (x : Int) 255 = ((x % 256 : Nat) : Int) := by
  rw [show (255 : Int) = ((255 : Nat) : Int) from rfl, u32_and_nat _ _ hx (by decide)]
  congr 1
  exact Nat.and_two_pow_sub_one_eq_mod x 8
theorem and255' (x d : Nat) (hx : x < 4294967296) : bits BinOp.and IntKind.u32 ((x : Int) / (d : Int)) 255 = ((x / d % 256 : Nat) : Int) := by
  rw [← and255 _ (Nat.lt_of_le_of_lt (Nat.div_le_self x d) hx)]
  simp
set_option maxHeartbeats 1000000 in
set_option maxRecDepth 100000 in
theorem ones32 (x : Nat) (hx : x < 4294967296) (w : World) :
    Calls Tryd.prog 66 #[.int .u32 x] w fun e w' => e = .returned (.int .i64 (pop x 32)) ∧ w' = w.drew := by
  have a1 := and255 x hx
  have a2 : bits BinOp.and IntKind.u32 ((x : Int) / 256) 255 = ((x / 256 % 256 : Nat) : Int) := and255' x 256 hx
  have a3 : bits BinOp.and IntKind.u32 ((x : Int) / 65536) 255 = ((x / 65536 % 256 : Nat) : Int) := and255' x 65536 hx
  have d1 : (x : Int) / 16777216 = ((x / 16777216 : Nat) : Int) := by omega
  have HP := hide (pop32 x)
  have p0 := pop8_nat (x % 256) (by omega)
  have p1 := pop8_nat (x / 256 % 256) (by omega)
  have p2 := pop8_nat (x / 65536 % 256) (by omega)
  have p3 := pop8_nat (x / 16777216) (by omega)
  have l1 : ((x % 256 : Nat) : Int) ≤ 255 := by omega
  have l2 : ((x / 256 % 256 : Nat) : Int) ≤ 255 := by omega
  have l3 : ((x / 65536 % 256 : Nat) : Int) ≤ 255 := by omega
  have l4 : ((x / 16777216 : Nat) : Int) ≤ 255 := by omega
  have m1 : 0 ≤ ((x % 256 : Nat) : Int) := by omega
  have m2 : 0 ≤ ((x / 256 % 256 : Nat) : Int) := by omega
  have m3 : 0 ≤ ((x / 65536 % 256 : Nat) : Int) := by omega
  have m4 : 0 ≤ ((x / 16777216 : Nat) : Int) := by omega
  have q0 := pop_le (x % 256) 8
  have q1 := pop_le (x / 256 % 256) 8
  have q2 := pop_le (x / 65536 % 256) 8
  have q3 := pop_le (x / 16777216) 8
  generalize pop (x % 256) 8 = k0 at *
  generalize pop (x / 256 % 256) 8 = k1 at *
  generalize pop (x / 65536 % 256) 8 = k2 at *
  generalize pop (x / 16777216) 8 = k3 at *
  generalize ((x % 256 : Nat) : Int) = b0 at *
  generalize ((x / 256 % 256 : Nat) : Int) = b1 at *
  generalize ((x / 65536 % 256 : Nat) : Int) = b2 at *
  generalize ((x / 16777216 : Nat) : Int) = b3 at *
  go_enter Tryd.func66, Tryd.ntmps66
  go_wp2
  go_region
  all_goals (try go_wp2)
  all_goals (go_ret; exact ⟨ret_int (by rw [unhide HP]; omega), rfl⟩)
set_option maxHeartbeats 1000000 in
theorem roomOf_any (c : Nat) (w : World) (hc : c < 6) : Calls Tryd.prog 60 #[.int .i64 c] w fun e w' => e = .returned (.int .i64 ((2 ^ (c + 1) : Nat) : Int)) ∧ w' = w := by
  rcases (show c = 0 ∨ c = 1 ∨ c = 2 ∨ c = 3 ∨ c = 4 ∨ c = 5 by omega) with rfl | rfl | rfl | rfl | rfl | rfl <;> (go_enter Tryd.func60, Tryd.ntmps60; go_wp2; go_ret; exact ⟨rfl, rfl⟩)
/-- The least class that is enough for n words. -/
def clOf (n : Nat) : Nat := if n ≤ 2 then 0 else if n ≤ 4 then 1 else if n ≤ 8 then 2 else if n ≤ 16 then 3 else if n ≤ 32 then 4 else 5
theorem clOf_lt (n : Nat) : clOf n < 6 := by unfold clOf; (repeat' split) <;> omega
theorem clOf_iff (n c : Nat) (hn : n ≤ 64) (hc : c < 6) : 2 ^ (c + 1) < n ↔ c < clOf n := by
  rcases (show c = 0 ∨ c = 1 ∨ c = 2 ∨ c = 3 ∨ c = 4 ∨ c = 5 by omega) with rfl | rfl | rfl | rfl | rfl | rfl <;> (unfold clOf; (repeat' split) <;> simp <;> omega)
theorem clOf_room (c : Nat) (hc : c < 6) : clOf (2 ^ (c + 1)) = c := by
  rcases (show c = 0 ∨ c = 1 ∨ c = 2 ∨ c = 3 ∨ c = 4 ∨ c = 5 by omega) with rfl | rfl | rfl | rfl | rfl | rfl <;> rfl
set_option maxHeartbeats 1000000 in
theorem classOf_any (n : Nat) (w : World) (hn : n ≤ 64) : Calls Tryd.prog 50 #[.int .i64 n] w fun e w' => e = .returned (.int .i64 (clOf n)) ∧ w' = w := by
  have hl := clOf_lt n
  have HI := hide (fun c hc => clOf_iff n c hn hc)
  go_enter Tryd.func50, Tryd.ntmps50
  go_wp2
  go_loop [3] (fun t => ∃ c : Nat, c ≤ clOf n ∧ t = .int .i64 c) (fun t => 6 - (intOf t).toNat)
  case atStart => exact ⟨0, Nat.zero_le _, rfl⟩
  case round =>
    obtain ⟨c, hc, rfl⟩ := hrel
    have hc6 : c < 6 := by omega
    have HC := hide (roomOf_any c w hc6)
    have HJ := hide (unhide HI c hc6)
    obtain ⟨r, hr⟩ : ∃ r, r = 2 ^ (c + 1) := ⟨_, rfl⟩
    rw [← hr] at HC HJ
    have hr64 : r ≤ 64 := by rw [hr]; exact Nat.le_trans (Nat.pow_le_pow_right (by decide) (show c + 1 ≤ 6 by omega)) (by decide)
    clear hr HI
    by_cases hlt : c < clOf n
    · have h1 : r < n := (unhide HJ).2 hlt
      go_wp2_with (go_at_call 60; refine (unhide HC).mono ?_; rintro e w' ⟨rfl, rfl⟩)
      go_round
      case rel => exact ⟨c + 1, by omega, by go_num⟩
      case measure => simp [intOf]; omega
    · have h1 : ¬ r < n := fun h => hlt ((unhide HJ).1 h)
      go_wp2_with (go_at_call 60; refine (unhide HC).mono ?_; rintro e w' ⟨rfl, rfl⟩)
      go_ret
      exact ⟨ret_int (by omega), rfl⟩
theorem Fr.drewN {K : Nat → Prop} {a w : World} (h : Fr K a w) (n : Nat) : Fr K a (w.drewN n) := ⟨h.os, h.tape, h.output, h.size, h.block⟩
set_option maxHeartbeats 1000000 in
theorem full_any (r u : Nat) (w : World) (hr : 0 < r) (hr2 : r ≤ 100000) (hu : u < 4294967296) : Calls Tryd.prog 61 #[.agg #[.int .i64 r, .int .u32 u]] w fun e w' => e = .returned (.bool (decide (pop u 32 = 64 / r))) ∧ Fr (fun _ => False) w w' := by
  have HC := hide (fun w' => ones32 u hu w')
  have hp := pop_le u 32
  generalize pop u 32 = k at *
  have hr0 : (r : Int) ≠ 0 := by omega
  have hdv : Int.tdiv 64 (r : Int) = ((64 / r : Nat) : Int) := by
    rw [Int.tdiv_eq_ediv_of_nonneg (by omega)]; simp
  have hd0 : ((r : Int) == 0) = false := by simpa using hr0
  have hq : 64 / r ≤ 64 := Nat.div_le_self _ _
  generalize 64 / r = q at *
  go_enter Tryd.func61, Tryd.ntmps61
  go_wp2
  go_quiet (first | (go_at_call 66; exact Calls.quiet_of ((unhide HC _).mono fun _ _ x => ⟨x.1, 1, x.2⟩)))
  all_goals (try go_wp2)
  all_goals (go_ret; exact ⟨ret_bool (by by_cases h : k = q <;> simp [h] <;> omega), ((Fr.refl _ w).alloc _).drewN _⟩)
/-- The room of the block that begins o words behind a span's beginning. -/
def roomS (r u o : Nat) : Nat := if r = 0 then 0 else if o % r = 0 ∧ u.testBit (o / r) = true then r else 0
set_option maxHeartbeats 1000000 in
theorem roomAt_any (r u o : Nat) (w : World) (hr : r ≠ 1) (hr2 : r ≤ 100000) (hu : u < 4294967296) (ho : o < 64) : Calls Tryd.prog 52 #[.agg #[.int .i64 r, .int .u32 u], .int .i64 o] w fun e w' => e = .returned (.int .i64 (roomS r u o)) ∧ Fr (fun _ => False) w w' := by
  by_cases h0 : r = 0
  · subst h0
    go_enter Tryd.func52, Tryd.ntmps52
    go_wp2
    go_quiet (fail)
    all_goals (try go_wp2)
    all_goals (go_ret; exact ⟨rfl, ((Fr.refl _ w).alloc _).drewN _⟩)
  · have hr0 : (r : Int) ≠ 0 := by omega
    have hor : o / r < 32 := by
      have : o / r ≤ o / 2 := Nat.div_le_div_left (by omega) (by omega)
      omega
    have d0 : ((r : Int) == 0) = false := by simpa using hr0
    have tm : (o : Int).tmod (r : Int) = ((o % r : Nat) : Int) := by rw [Int.tmod_eq_emod_of_nonneg (by omega)]; simp
    have td : (o : Int).tdiv (r : Int) = ((o / r : Nat) : Int) := by rw [Int.tdiv_eq_ediv_of_nonneg (by omega)]; simp
    have HM : Hid (roomS r u o = if o % r = 0 ∧ u.testBit (o / r) = true then r else 0) := hide (by unfold roomS; rw [if_neg h0])
    have wq : IntKind.i64.wrap ((o / r : Nat) : Int) = ((o / r : Nat) : Int) := by
      rw [Go.IntKind.wrap_i64]
      clear td tm
      generalize o / r = q at hor ⊢
      omega
    by_cases h1 : o % r = 0
    · have d1 : ((o : Int).tmod (r : Int) != 0) = false := by rw [tm, h1]; rfl
      have HT : Hid ((bits .and .u32 ((u : Int) / 2 ^ (o / r)) 1 == 0) = !u.testBit (o / r)) := by
        refine hide ?_
        have e : (u : Int) / 2 ^ (o / r) = ((u / 2 ^ (o / r) : Nat) : Int) := by simp
        rw [e, show (1 : Int) = ((1 : Nat) : Int) from rfl, u32_and_nat _ _ (Nat.lt_of_le_of_lt (Nat.div_le_self _ _) hu) (by decide), nat_mask1, Nat.testBit_eq_decide_div_mod_eq]
        rcases Nat.mod_two_eq_zero_or_one (u / 2 ^ (o / r)) with h | h <;> simp [h]
      generalize o / r = q at *
      rw [h1] at HM
      clear tm h1
      cases hb : u.testBit q with
      | true =>
        rw [hb] at HT HM
        have ht : (bits .and .u32 ((u : Int) / 2 ^ q) 1 == 0) = false := unhide HT
        go_enter Tryd.func52, Tryd.ntmps52
        go_wp2
        go_quiet (fail)
        all_goals (try go_wp2)
        all_goals (go_ret; exact ⟨ret_int (by rw [unhide HM]; simp), ((Fr.refl _ w).alloc _).drewN _⟩)
      | false =>
        rw [hb] at HT HM
        have ht : (bits .and .u32 ((u : Int) / 2 ^ q) 1 == 0) = true := unhide HT
        go_enter Tryd.func52, Tryd.ntmps52
        go_wp2
        go_quiet (fail)
        all_goals (try go_wp2)
        all_goals (go_ret; exact ⟨ret_int (by rw [unhide HM]; simp), ((Fr.refl _ w).alloc _).drewN _⟩)
    · rw [if_neg (fun h => h1 h.1)] at HM
      generalize o % r = k at tm h1
      have d1 : ((k : Int) != 0) = true := by simp; omega
      clear td h1
      go_enter Tryd.func52, Tryd.ntmps52
      go_wp2
      go_quiet (fail)
      all_goals (try go_wp2)
      all_goals (go_ret; exact ⟨ret_int (by rw [unhide HM]; rfl), ((Fr.refl _ w).alloc _).drewN _⟩)
end Go.Proofs.YtogjblikljggbaaDoor
