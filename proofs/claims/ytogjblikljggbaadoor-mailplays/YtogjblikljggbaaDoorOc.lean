/- How many bits of 64; how many spans are free; no blocks. -/
import Derived.Test.YtogjblikljggbaaDoorSp
namespace Go.Proofs.YtogjblikljggbaaDoor
open Go.RowKit Go.Proofs.YtogjblikljggbaaDoor.Hp
theorem and_split (a b c d : Nat) (ha : a < 256) (hc : c < 256) : (a + 256 * b) &&& (c + 256 * d) = (a &&& c) + 256 * (b &&& d) := by
  have e : ∀ x y : Nat, x < 256 → x + 256 * y = y * 2 ^ 8 + x := fun x y _ => by omega
  have hac : a &&& c < 2 ^ 8 := Nat.and_lt_two_pow _ hc
  rw [e a b ha, e c d hc, e _ _ hac]
  apply Nat.eq_of_testBit_eq
  intro i
  rw [Nat.testBit_and, Nat.mul_comm b, Nat.mul_comm d, Nat.mul_comm (b &&& d), Nat.testBit_two_pow_mul_add _ ha, Nat.testBit_two_pow_mul_add _ hc, Nat.testBit_two_pow_mul_add _ hac]
  split
  · rw [Nat.testBit_and]
  · rw [Nat.testBit_and]
def p1 (m x : Nat) : Nat := (x / 2 &&& m) + (x &&& m)
def p2 (m x : Nat) : Nat := (x / 4 &&& m) + (x &&& m)
def p3 (m x : Nat) : Nat := (x / 16 + x) &&& m
theorem b1 : ∀ a : Fin 256, ∀ r : Fin 2, ((a.val / 2 + 128 * r.val) &&& 85) = (a.val / 2 &&& 85) := by decide +kernel
theorem b2 : ∀ a : Fin 256, ∀ r : Fin 4, ((a.val / 4 + 64 * r.val) &&& 51) = (a.val / 4 &&& 51) := by decide +kernel
theorem p1_lt : ∀ a : Fin 256, p1 85 a.val < 256 := by decide +kernel
theorem p2_lt : ∀ a : Fin 256, p2 51 (p1 85 a.val) < 256 ∧ p2 51 (p1 85 a.val) % 16 ≤ 4 ∧ p2 51 (p1 85 a.val) / 16 ≤ 4 := by decide +kernel
theorem b3 : ∀ a : Fin 256, ∀ r : Fin 7, ((p2 51 (p1 85 a.val) / 16 + 16 * r.val + p2 51 (p1 85 a.val)) &&& 15) = Lib.onesCount a.val := by decide +kernel
theorem p1_step (a b m : Nat) (ha : a < 256) : p1 (85 + 256 * m) (a + 256 * b) = p1 85 a + 256 * p1 m b := by
  unfold p1
  have e : (a + 256 * b) / 2 = (a / 2 + 128 * (b % 2)) + 256 * (b / 2) := by omega
  have := b1 ⟨a, ha⟩ ⟨b % 2, by omega⟩
  simp only at this
  rw [e, and_split _ _ _ _ (by omega) (by decide), and_split _ _ _ _ ha (by decide), this]
  omega
theorem p2_step (a b m : Nat) (ha : a < 256) : p2 (51 + 256 * m) (a + 256 * b) = p2 51 a + 256 * p2 m b := by
  unfold p2
  have e : (a + 256 * b) / 4 = (a / 4 + 64 * (b % 4)) + 256 * (b / 4) := by omega
  have := b2 ⟨a, ha⟩ ⟨b % 4, by omega⟩
  simp only at this
  rw [e, and_split _ _ _ _ (by omega) (by decide), and_split _ _ _ _ ha (by decide), this]
  omega
/-- The first three steps, over a number whose lowest byte is a. -/
theorem p3_step (a b m0 m1 m2 : Nat) (ha : a < 256) (hb : p2 m1 (p1 m0 b) % 16 ≤ 6) : p3 (15 + 256 * m2) (p2 (51 + 256 * m1) (p1 (85 + 256 * m0) (a + 256 * b))) = Lib.onesCount a + 256 * p3 m2 (p2 m1 (p1 m0 b)) := by
  rw [p1_step _ _ _ ha, p2_step _ _ _ (p1_lt ⟨a, ha⟩)]
  obtain ⟨l1, l2, l3⟩ := p2_lt ⟨a, ha⟩
  simp only at l1 l2 l3
  have h3 := b3 ⟨a, ha⟩ ⟨p2 m1 (p1 m0 b) % 16, by omega⟩
  simp only at h3
  generalize p2 51 (p1 85 a) = x at *
  generalize p2 m1 (p1 m0 b) = y at *
  unfold p3
  have e : (x + 256 * y) / 16 + (x + 256 * y) = (x / 16 + 16 * (y % 16) + x) + 256 * (y / 16 + y) := by omega
  rw [e, and_split _ _ _ _ (by omega) (by decide), h3]
theorem nib (u m : Nat) (h : m % 16 = 0 ∨ m % 16 = 3) : (u &&& m) % 16 ≤ 3 := by
  have e : (u &&& m) % 2 ^ 4 = (u % 2 ^ 4) &&& (m % 2 ^ 4) := Nat.and_mod_two_pow ..
  rw [show (2 : Nat) ^ 4 = 16 from rfl] at e
  rw [e]
  have := Nat.and_le_right (n := u % 16) (m := m % 16)
  omega
theorem nib2 (x m : Nat) (h : m % 16 = 0 ∨ m % 16 = 3) : p2 m x % 16 ≤ 6 := by
  unfold p2
  have h1 := nib (x / 4) m h
  have h2 := nib x m h
  omega
theorem oc_le (a : Nat) (h : a < 256) : Lib.onesCount a ≤ 8 := Lib.onesCount_le8 ⟨a, h⟩
/-- A row of bytes, the lowest first. -/
def bytesN : List Nat → Nat
  | [] => 0
  | a :: l => a + 256 * bytesN l
theorem y3_eq (x : Nat) (hx : x < 18446744073709551616) : p3 1085102592571150095 (p2 3689348814741910323 (p1 6148914691236517205 x)) = bytesN ((List.range 8).map fun i => Lib.onesCount (x / 256 ^ i % 256)) := by
  have e : ∀ z : Nat, z = z % 256 + 256 * (z / 256) := fun z => by omega
  have st : ∀ (z m0 m1 m2 : Nat), (m1 % 16 = 0 ∨ m1 % 16 = 3) → p3 (15 + 256 * m2) (p2 (51 + 256 * m1) (p1 (85 + 256 * m0) z)) = Lib.onesCount (z % 256) + 256 * p3 m2 (p2 m1 (p1 m0 (z / 256))) := fun z m0 m1 m2 h => by
    have := p3_step (z % 256) (z / 256) m0 m1 m2 (by omega) (nib2 _ _ h)
    rw [← e z] at this
    exact this
  have s0 := st x 24019198012642645 14411518807585587 4238682002231055 (by decide)
  have s1 := st (x / 256) 93824992236885 56294995342131 16557351571215 (by decide)
  have s2 := st (x / 256 / 256) 366503875925 219902325555 64677154575 (by decide)
  have s3 := st (x / 256 / 256 / 256) 1431655765 858993459 252645135 (by decide)
  have s4 := st (x / 256 / 256 / 256 / 256) 5592405 3355443 986895 (by decide)
  have s5 := st (x / 256 / 256 / 256 / 256 / 256) 21845 13107 3855 (by decide)
  have s6 := st (x / 256 / 256 / 256 / 256 / 256 / 256) 85 51 15 (by decide)
  have s7 := st (x / 256 / 256 / 256 / 256 / 256 / 256 / 256) 0 0 0 (by decide)
  have z8 : x / 256 / 256 / 256 / 256 / 256 / 256 / 256 / 256 = 0 := by omega
  rw [z8] at s7
  have z0 : p3 0 (p2 0 (p1 0 0)) = 0 := by decide
  rw [z0] at s7
  simp only [Nat.reduceAdd, Nat.reduceMul] at s0 s1 s2 s3 s4 s5 s6 s7
  rw [s0, s1, s2, s3, s4, s5, s6, s7]
  simp [bytesN, List.range, List.range.loop, Nat.div_div_eq_div_mul]
theorem pop64_eq (x : Nat) : pop x 64 = ((List.range 8).map fun i => Lib.onesCount (x / 256 ^ i % 256)).sum := by
  have st : ∀ (z k : Nat), pop z (8 + k) = Lib.onesCount (z % 256) + pop (z / 256) k := fun z k => by
    rw [pop_split z 8 k, onesCount8 (z % 256) (by omega)]
  rw [show 64 = 8 + (8 + (8 + (8 + (8 + (8 + (8 + (8 + 0))))))) from rfl, st, st, st, st, st, st, st, st]
  have : pop (x / 256 / 256 / 256 / 256 / 256 / 256 / 256 / 256) 0 = 0 := rfl
  rw [this]
  simp [List.range, List.range.loop, Nat.div_div_eq_div_mul]
theorem last3 (p0 p1 p2 p3 p4 p5 p6 p7 t1 t2 t3 t4 t5 t6 y : Nat) (h0 : p0 ≤ 8) (h1 : p1 ≤ 8) (h2 : p2 ≤ 8) (h3 : p3 ≤ 8) (h4 : p4 ≤ 8) (h5 : p5 ≤ 8) (h6 : p6 ≤ 8) (h7 : p7 ≤ 8)
    (hy : y = p0 + 256 * t1) (e1 : t1 = p1 + 256 * t2) (e2 : t2 = p2 + 256 * t3) (e3 : t3 = p3 + 256 * t4) (e4 : t4 = p4 + 256 * t5) (e5 : t5 = p5 + 256 * t6) (e6 : t6 = p6 + 256 * p7) :
    ∃ y4 y5, y4 = y + y / 256 ∧ y5 = y4 + y4 / 65536 ∧ (y5 + y5 / 4294967296) % 128 = p0 + (p1 + (p2 + (p3 + (p4 + (p5 + (p6 + p7)))))) ∧ y5 + y5 / 4294967296 < 9223372036854775808 ∧ y4 < 9223372036854775808 ∧ y5 < 9223372036854775808 := by
  have d1 : y / 256 = t1 := by omega
  obtain ⟨y4, hy4⟩ : ∃ y4, y4 = y + t1 := ⟨_, rfl⟩
  have d2 : y4 / 65536 = t2 + t3 := by omega
  obtain ⟨y5, hy5⟩ : ∃ y5, y5 = y4 + (t2 + t3) := ⟨_, rfl⟩
  have d3 : y5 / 4294967296 = t4 + t5 + t6 + p7 := by omega
  refine ⟨y4, y5, by rw [d1]; exact hy4, by rw [d2]; exact hy5, ?_, ?_, by omega, by omega⟩
  · rw [d3]; omega
  · rw [d3]; omega
set_option maxHeartbeats 1000000 in
theorem ones64_core (x y1 y2 y3 y4 y5 y6 k : Nat) (w : World)
    (h1 : IntKind.u64.wrap (bits .and .u64 ((x : Int) / 2) 6148914691236517205 + bits .and .u64 (x : Int) 6148914691236517205) = (y1 : Int))
    (h2 : IntKind.u64.wrap (bits .and .u64 ((y1 : Int) / 4) 3689348814741910323 + bits .and .u64 (y1 : Int) 3689348814741910323) = (y2 : Int))
    (h3 : bits .and .u64 (IntKind.u64.wrap ((y2 : Int) / 16 + (y2 : Int))) 1085102592571150095 = (y3 : Int))
    (h4 : IntKind.u64.wrap ((y3 : Int) + (y3 : Int) / 256) = (y4 : Int)) (h5 : IntKind.u64.wrap ((y4 : Int) + (y4 : Int) / 65536) = (y5 : Int)) (h6 : IntKind.u64.wrap ((y5 : Int) + (y5 : Int) / 4294967296) = (y6 : Int))
    (h7 : IntKind.i64.wrap (y6 : Int) = (y6 : Int)) (h8 : bits .and .i64 (y6 : Int) 127 = (k : Int)) :
    Calls Tryd.prog 57 #[.int .u64 x] w fun e w' => e = .returned (.int .i64 k) ∧ w' = w := by
  have H8 := hide h8
  clear h8
  go_enter Tryd.func57, Tryd.ntmps57
  go_wp2
  go_ret
  exact ⟨ret_int (unhide H8), rfl⟩
theorem and_nat (x m : Nat) (hx : x < 18446744073709551616) (hm : m < 18446744073709551616) : bits .and .u64 (x : Int) (m : Int) = ((x &&& m : Nat) : Int) := u64_and_nat x m hx hm
set_option maxHeartbeats 1000000 in
theorem ones64 (x : Nat) (hx : x < 18446744073709551616) (w : World) :
    Calls Tryd.prog 57 #[.int .u64 x] w fun e w' => e = .returned (.int .i64 (pop x 64)) ∧ w' = w := by
  obtain ⟨y1, hy1⟩ : ∃ y1, y1 = p1 6148914691236517205 x := ⟨_, rfl⟩
  obtain ⟨y2, hy2⟩ : ∃ y2, y2 = p2 3689348814741910323 y1 := ⟨_, rfl⟩
  obtain ⟨y3, hy3⟩ : ∃ y3, y3 = p3 1085102592571150095 y2 := ⟨_, rfl⟩
  have q1 : y1 ≤ 12297829382473034410 := by
    rw [hy1]; unfold p1
    have a := Nat.and_le_right (n := x / 2) (m := 6148914691236517205)
    have b := Nat.and_le_right (n := x) (m := 6148914691236517205)
    omega
  have q2 : y2 ≤ 7378697629483820646 := by
    rw [hy2]; unfold p2
    have a := Nat.and_le_right (n := y1 / 4) (m := 3689348814741910323)
    have b := Nat.and_le_right (n := y1) (m := 3689348814741910323)
    omega
  have hb := y3_eq x hx
  rw [← hy1, ← hy2, ← hy3] at hb
  have hp := pop64_eq x
  simp only [List.range, List.range.loop, List.map, bytesN, List.sum_cons, List.sum_nil] at hb hp
  have g : ∀ i, Lib.onesCount (x / 256 ^ i % 256) ≤ 8 := fun i => oc_le _ (by omega)
  have g0 := g 0
  have g1 := g 1
  have g2 := g 2
  have g3 := g 3
  have g4 := g 4
  have g5 := g 5
  have g6 := g 6
  have g7 := g 7
  generalize Lib.onesCount (x / 256 ^ 0 % 256) = r0 at *
  generalize Lib.onesCount (x / 256 ^ 1 % 256) = r1 at *
  generalize Lib.onesCount (x / 256 ^ 2 % 256) = r2 at *
  generalize Lib.onesCount (x / 256 ^ 3 % 256) = r3 at *
  generalize Lib.onesCount (x / 256 ^ 4 % 256) = r4 at *
  generalize Lib.onesCount (x / 256 ^ 5 % 256) = r5 at *
  generalize Lib.onesCount (x / 256 ^ 6 % 256) = r6 at *
  generalize Lib.onesCount (x / 256 ^ 7 % 256) = r7 at *
  obtain ⟨y4, y5, e4, e5, e6, l6, l4, l5⟩ := last3 r0 r1 r2 r3 r4 r5 r6 r7 _ _ _ _ _ _ y3 g0 g1 g2 g3 g4 g5 g6 g7 (by rw [hb]) rfl rfl rfl rfl rfl (by omega)
  clear hb g g0 g1 g2 g3 g4 g5 g6 g7
  have hx2 : x / 2 < 18446744073709551616 := by omega
  refine ones64_core x y1 y2 y3 y4 y5 (y5 + y5 / 4294967296) _ w ?_ ?_ ?_ ?_ ?_ ?_ ?_ ?_
  · have a := and_nat (x / 2) 6148914691236517205 hx2 (by decide)
    have b := and_nat x 6148914691236517205 hx (by decide)
    rw [show ((x / 2 : Nat) : Int) = (x : Int) / 2 by omega] at a
    rw [show (6148914691236517205 : Int) = ((6148914691236517205 : Nat) : Int) from rfl, a, b, IntKind.wrap_u64, hy1]
    unfold p1 at hy1 ⊢
    omega
  · have a := and_nat (y1 / 4) 3689348814741910323 (by omega) (by decide)
    have b := and_nat y1 3689348814741910323 (by omega) (by decide)
    rw [show ((y1 / 4 : Nat) : Int) = (y1 : Int) / 4 by omega] at a
    rw [show (3689348814741910323 : Int) = ((3689348814741910323 : Nat) : Int) from rfl, a, b, IntKind.wrap_u64, hy2]
    unfold p2 at hy2 ⊢
    omega
  · rw [show IntKind.u64.wrap ((y2 : Int) / 16 + (y2 : Int)) = ((y2 / 16 + y2 : Nat) : Int) by rw [IntKind.wrap_u64]; omega, show (1085102592571150095 : Int) = ((1085102592571150095 : Nat) : Int) from rfl, and_nat _ _ (by omega) (by decide), hy3]
    rfl
  · rw [IntKind.wrap_u64]; clear hp e5 e6 l5 l6 q1 q2 hy1 hy2 hy3; omega
  · rw [IntKind.wrap_u64]; clear hp e4 e6 l4 l6 q1 q2 hy1 hy2 hy3; omega
  · rw [IntKind.wrap_u64]; clear hp e4 e5 e6 l4 l5 q1 q2 hy1 hy2 hy3; omega
  · rw [Go.IntKind.wrap_i64]; clear hp e4 e5 e6 l4 l5 q1 q2 hy1 hy2 hy3; omega
  · rw [i64_and127, hp]; clear e4 e5 l4 l5 q1 q2 hy1 hy2 hy3; omega
set_option maxHeartbeats 1000000 in
theorem count_any (b m : Nat) (S : Nat → Bool) (w : World) (hm : m ≤ 1000) (h : SetAt w b m S) :
    Calls Tryd.prog 47 #[.slice (some ⟨b, 0, none⟩) m m] w fun e w' => e = .returned (.int .i64 (cntN S (64 * m))) ∧ w' = w := by
  have H := hide h
  clear h
  go_enter Tryd.func47, Tryd.ntmps47
  go_wp2
  go_loop [8, 3] (fun t s => ∃ i : Nat, i ≤ m ∧ t = .int .i64 i ∧ s = .int .i64 (cntN S (64 * i))) (fun t _ => m - (intOf t).toNat)
  case atStart => exact ⟨0, by omega, rfl, rfl⟩
  case round =>
    obtain ⟨i, hi, rfl, rfl⟩ := hrel
    have hc1 := cntN_le S (64 * i)
    by_cases hlt : i < m
    · obtain ⟨v, hv⟩ : ∃ v, v = wordN (fun j => S (64 * i + j)) 64 := ⟨_, rfl⟩
      have hc : w.cell? ⟨b, i, none⟩ = some (.int .u64 v) := by rw [hv]; exact (unhide H i hlt).1
      have hl : v < 2 ^ 64 := by rw [hv]; exact wordN_lt _ _
      have HC := hide (ones64 v hl w)
      have hp := pop_le v 64
      have HE : Hid (cntN S (64 * (i + 1)) = cntN S (64 * i) + pop v 64) := hide (by rw [hv, pop_word, show 64 * (i + 1) = 64 * i + 64 by omega, cntN_add])
      clear hv
      generalize pop v 64 = k at *
      generalize cntN S (64 * i) = c at *
      go_wp2_with (first | (go_at_call 57; refine (unhide HC).mono ?_; rintro e w' ⟨rfl, rfl⟩))
      go_round
      case rel => exact ⟨i + 1, by omega, by go_num, val_int (by rw [unhide HE]; omega)⟩
      case measure => simp [intOf]; omega
    · have e : i = m := by omega
      subst e
      go_wp2
      go_ret
      exact ⟨rfl, rfl⟩
end Go.Proofs.YtogjblikljggbaaDoor
