/- How many blocks there are. -/
import Derived.Test.YtkhegceikdegbaaDoorFi1
namespace Go.Proofs.YtkhegceikdegbaaDoor
open Go.RowKit Go.Proofs.YtkhegceikdegbaaDoor.Hp
theorem and_split2 (a b c d : Nat) (ha : a < 2) (hc : c < 2) : (a + 2 * b) &&& (c + 2 * d) = (a &&& c) + 2 * (b &&& d) := by
  have e : ∀ x y : Nat, x < 2 → x + 2 * y = y * 2 ^ 1 + x := fun x y _ => by omega
  have hac : a &&& c < 2 ^ 1 := Nat.and_lt_two_pow _ hc
  rw [e a b ha, e c d hc, e _ _ hac]
  apply Nat.eq_of_testBit_eq
  intro i
  rw [Nat.testBit_and, Nat.mul_comm b, Nat.mul_comm d, Nat.mul_comm (b &&& d), Nat.testBit_two_pow_mul_add _ ha, Nat.testBit_two_pow_mul_add _ hc, Nat.testBit_two_pow_mul_add _ hac]
  split
  · rw [Nat.testBit_and]
  · rw [Nat.testBit_and]
theorem pop_succ (x n : Nat) : pop x (n + 1) = x % 2 + pop (x / 2) n := by
  rw [← popAux_cnt, ← popAux_cnt, Lib.popAux]
theorem pop_clear : ∀ (n x : Nat), x ≠ 0 → x < 2 ^ n → pop (x &&& (x - 1)) n + 1 = pop x n
  | 0, x, h0, h => by simp at h; omega
  | n + 1, x, h0, h => by
    rcases Nat.mod_two_eq_zero_or_one x with e | e
    · obtain ⟨y, rfl⟩ : ∃ y, x = 2 * y := ⟨x / 2, by omega⟩
      have ih := pop_clear n y (by omega) (by rw [Nat.pow_succ] at h; omega)
      have e2 : (2 * y) &&& (2 * y - 1) = 2 * (y &&& (y - 1)) := by
        have := and_split2 0 y 1 (y - 1) (by decide) (by decide)
        rw [show 0 + 2 * y = 2 * y by omega, show 1 + 2 * (y - 1) = 2 * y - 1 by omega] at this
        rw [this]; simp
      rw [e2, pop_succ, pop_succ, show 2 * (y &&& (y - 1)) % 2 = 0 by omega, show 2 * (y &&& (y - 1)) / 2 = (y &&& (y - 1)) by omega, show 2 * y % 2 = 0 by omega, show 2 * y / 2 = y by omega]
      omega
    · obtain ⟨y, rfl⟩ : ∃ y, x = 1 + 2 * y := ⟨x / 2, by omega⟩
      have e2 : (1 + 2 * y) &&& (1 + 2 * y - 1) = 2 * y := by
        have := and_split2 1 y 0 y (by decide) (by decide)
        rw [show 0 + 2 * y = 1 + 2 * y - 1 by omega] at this
        rw [this, Nat.and_self]; simp
      rw [e2, pop_succ, pop_succ, show 2 * y % 2 = 0 by omega, show 2 * y / 2 = y by omega, show (1 + 2 * y) % 2 = 1 by omega, show (1 + 2 * y) / 2 = y by omega]
      omega
theorem cnt_false (k : Nat) : cntN (fun _ => false) k = 0 := by
  induction k with
  | zero => rfl
  | succ k ih => simp [cntN, ih]
theorem cnt_first (S : Nat → Bool) (b : Bool) (h0 : S 0 = b) : ∀ k, (∀ j, 0 < j → j < k + 1 → S j = false) → cntN S (k + 1) = if b then 1 else 0
  | 0, _ => by simp [cntN, h0]
  | k + 1, h => by
    rw [cntN, cnt_first S b h0 k (fun j a c => h j a (by omega)), h (k + 1) (by omega) (by omega)]
    simp
theorem cnt_stride (S : Nat → Bool) (r : Nat) : ∀ q, cntN (fun o => decide (o % (r + 1) = 0) && S (o / (r + 1))) ((r + 1) * q) = cntN S q
  | 0 => rfl
  | q + 1 => by
    rw [Nat.mul_succ, cntN_add, cnt_stride S r q, cntN]
    congr 1
    refine cnt_first _ (S q) ?_ r (fun j h1 h2 => ?_)
    · simp
    · rw [Nat.mul_add_mod, Nat.mod_eq_of_lt h2]
      simp; omega
def isB (A : Nat → Kd) (x : Nat) : Bool := decide (roomN A x ≠ 0)
/-- How many blocks begin in the first s spans. -/
def cntB (A : Nat → Kd) (s : Nat) : Nat := cntN (isB A) (64 * s)
theorem span_cnt {N : Nat} {A : Nat → Kd} (h : Inv N A) (s : Nat) : cntB A (s + 1) = cntB A s + pop (usK (A s)) 32 := by
  unfold cntB
  rw [show 64 * (s + 1) = 64 * s + 64 by omega, cntN_add]
  congr 1
  have e : ∀ o, o < 64 → isB A (64 * s + o) = decide (roomK (A s) o ≠ 0) := fun o ho => by
    unfold isB roomN
    rw [show (64 * s + o) / 64 = s by omega, show (64 * s + o) % 64 = o by omega]
  rw [cntN_ext e]
  cases ek : A s with
  | free => exact (cntN_ext (fun _ _ => by simp [roomK])).trans (cnt_false 64)
  | tail => exact (cntN_ext (fun _ _ => by simp [roomK])).trans (cnt_false 64)
  | head k =>
    have := (h.head s k ek).1
    rw [show 64 = 63 + 1 from rfl, cnt_first _ true (by simp [roomK]; omega) 63 (fun j h1 h2 => by simp [roomK]; omega)]
    show (if true = true then 1 else 0) = pop 1 32
    decide
  | cls c u =>
    obtain ⟨hc, hu, hu2⟩ := h.cls s c u ek
    have hp : 0 < 2 ^ (c + 1) := Nat.pow_pos (by decide)
    obtain ⟨r, hr⟩ : ∃ r, 2 ^ (c + 1) = r + 1 := ⟨2 ^ (c + 1) - 1, by omega⟩
    have h64 : 64 = (r + 1) * 2 ^ (5 - c) := by rw [← hr]; rcases c6 hc with rfl | rfl | rfl | rfl | rfl | rfl <;> rfl
    have hl : u < 2 ^ 2 ^ (5 - c) := by
      have : 0 < 2 ^ 2 ^ (5 - c) := Nat.pow_pos (by decide)
      unfold fullC at hu2; omega
    have hq := places_le hc
    have e2 : ∀ o, o < 64 → decide (roomK (.cls c u) o ≠ 0) = (decide (o % (r + 1) = 0) && u.testBit (o / (r + 1))) := fun o _ => by
      simp only [roomK, hr]
      by_cases h1 : o % (r + 1) = 0 ∧ u.testBit (o / (r + 1)) = true
      · rw [if_pos h1]; simp [h1.1, h1.2]
      · rw [if_neg h1]
        by_cases h2 : o % (r + 1) = 0
        · have : u.testBit (o / (r + 1)) = false := by simpa [h2] using h1
          simp [this]
        · simp [h2]
    rw [cntN_ext e2, h64, cnt_stride]
    show pop u (2 ^ (5 - c)) = pop u 32
    rw [show 32 = 2 ^ (5 - c) + (32 - 2 ^ (5 - c)) by omega, pop_small _ _ _ hl]
theorem cnt_one (S : Nat → Bool) {x : Nat} (hs : S x = false) : ∀ k, x < k → cntN (upd S x true) k = cntN S k + 1
  | 0, h => by omega
  | k + 1, h => by
    rw [cntN, cntN]
    by_cases e : x = k
    · subst e
      rw [upd_same, hs, cntN_ext (T := S) (fun j hj => upd_ne _ _ (by omega))]
      simp
    · rw [cnt_one S hs k (by omega), upd_ne _ _ (by omega)]
      omega
theorem cntB_goes {N m a : Nat} {A A' : Nat → Kd} (h : Inv N A) (hm : m ≤ 16448) (g : Goes N A m a A') : cntB A' N = cntB A N + 1 := by
  obtain ⟨h0, hr⟩ := room_goes h g
  have hp := roomOfM_pos m
  have hin := room_in (g.inv h hm) (x := a) (by rw [hr, if_pos rfl]; omega)
  rw [hr, if_pos rfl] at hin
  unfold cntB
  rw [← cnt_one (isB A) (x := a) (by unfold isB; rw [h0]; rfl) (64 * N) (by omega)]
  refine cntN_ext fun j _ => ?_
  unfold isB
  rw [hr]
  by_cases e : j = a
  · rw [if_pos e, e, upd_same]; simp; omega
  · rw [if_neg e, upd_ne _ _ e]
theorem cntB_freed {N x : Nat} {A : Nat → Kd} (h : Inv N A) (hx : roomN A x ≠ 0) : cntB A N = cntB (freeA A x) N + 1 := by
  have hrf := room_freed h hx
  have hin := room_in h hx
  unfold cntB
  rw [← cnt_one (isB (freeA A x)) (x := x) (by unfold isB; rw [hrf, if_pos rfl]; rfl) (64 * N) (by omega)]
  refine cntN_ext fun j _ => ?_
  by_cases e : j = x
  · rw [e, upd_same]; unfold isB; simp [hx]
  · rw [upd_ne _ _ e]; unfold isB; rw [hrf, if_neg e]
theorem cntB_zero (A : Nat → Kd) : cntB A 0 = 0 := rfl
theorem cntB_empty (N : Nat) : cntB (emptyA N) N = 0 := by
  unfold cntB
  rw [cntN_ext (T := fun _ => false) (fun x _ => by unfold isB roomN emptyA; split <;> rfl), cnt_false]
end Go.Proofs.YtkhegceikdegbaaDoor
