/- Numbers as sets of bits; the lowest bit; how many bits. -/
import Derived.Lib.TrailingZeros
import Derived.Lib.BitFns
namespace Go.Proofs.YtogjblikljggbaaDoor.Hp

/-- The number whose bit j (j < k) is S j. -/
def wordN (S : Nat → Bool) : Nat → Nat
  | 0 => 0
  | k + 1 => wordN S k + (if S k then 2 ^ k else 0)
theorem wordN_lt (S : Nat → Bool) : ∀ k, wordN S k < 2 ^ k
  | 0 => by simp [wordN]
  | k + 1 => by
    have := wordN_lt S k
    simp only [wordN, Nat.pow_succ]
    split <;> omega
theorem wordN_bit (S : Nat → Bool) : ∀ k j, (wordN S k).testBit j = (decide (j < k) && S j)
  | 0, j => by simp [wordN]
  | k + 1, j => by
    have hl := wordN_lt S k
    have ih := wordN_bit S k
    simp only [wordN]
    split
    · rename_i hs
      rw [Nat.add_comm]
      rcases Nat.lt_trichotomy j k with h | h | h
      · rw [Nat.testBit_two_pow_add_gt h, ih, decide_eq_true h, decide_eq_true (show j < k + 1 by omega)]
      · subst h
        rw [Nat.testBit_two_pow_add_eq, ih]
        simp [hs]
      · rw [Nat.testBit_lt_two_pow (Nat.lt_of_lt_of_le (show 2 ^ k + wordN S k < 2 ^ (k + 1) by rw [Nat.pow_succ]; omega) (Nat.pow_le_pow_right (by decide) h)), decide_eq_false (show ¬ j < k + 1 by omega)]
        rfl
    · rename_i hs
      rw [Nat.add_zero, ih]
      by_cases h : j = k
      · subst h; simp [hs]
      · simp [show (j < k + 1) ↔ (j < k) by omega]
theorem wordN_ext {S T : Nat → Bool} : ∀ {k}, (∀ j, j < k → S j = T j) → wordN S k = wordN T k
  | 0, _ => rfl
  | k + 1, h => by
    rw [wordN, wordN, wordN_ext (fun j hj => h j (by omega)), h k (by omega)]
theorem wordN_zero {S : Nat → Bool} {k : Nat} : wordN S k = 0 ↔ ∀ j, j < k → S j = false := by
  constructor
  · intro h j hj
    have := wordN_bit S k j
    rw [h, decide_eq_true hj] at this
    simpa using this.symm
  · intro h
    rw [wordN_ext (T := fun _ => false) h]
    clear h
    induction k with
    | zero => rfl
    | succ k ih => simp [wordN, ih]
def upd {α : Type} (f : Nat → α) (i : Nat) (v : α) : Nat → α := fun j => if j = i then v else f j
theorem upd_same {α : Type} (f : Nat → α) (i : Nat) (v : α) : upd f i v i = v := by simp [upd]
theorem upd_ne {α : Type} (f : Nat → α) {i j : Nat} (v : α) (h : j ≠ i) : upd f i v j = f j := by simp [upd, h]
theorem wordN_or (S : Nat → Bool) (k i : Nat) (h : i < k) : wordN S k ||| 2 ^ i = wordN (upd S i true) k := by
  apply Nat.eq_of_testBit_eq
  intro j
  rw [Nat.testBit_or, wordN_bit, wordN_bit, Nat.testBit_two_pow]
  by_cases e : j = i
  · subst e; simp [upd, h]
  · simp [upd, e, Ne.symm e]
theorem wordN_andNot (S : Nat → Bool) (k i : Nat) (h : i < k) : wordN S k &&& (2 ^ k - 1 - 2 ^ i) = wordN (upd S i false) k := by
  apply Nat.eq_of_testBit_eq
  intro j
  have hp : 2 ^ i < 2 ^ k := Nat.pow_lt_pow_right (by decide) h
  rw [Nat.testBit_and, wordN_bit, wordN_bit, show 2 ^ k - 1 - 2 ^ i = 2 ^ k - (2 ^ i + 1) by omega, Nat.testBit_two_pow_sub_succ hp, Nat.testBit_two_pow]
  by_cases e : j = i
  · subst e; simp [upd]
  · simp [upd, e, Ne.symm e]
    by_cases hj : j < k <;> simp [hj]
theorem wordN_shr (S : Nat → Bool) (k i : Nat) (h : i < k) : wordN S k / 2 ^ i % 2 = if S i then 1 else 0 := by
  have := wordN_bit S k i
  rw [Nat.testBit_eq_decide_div_mod_eq, decide_eq_true h, Bool.true_and] at this
  cases hs : S i <;> simp [hs] at this ⊢ <;> omega

theorem ctz_lt {n x : Nat} (h0 : x ≠ 0) (h : x < 2 ^ n) : Lib.ctz n x < n := (Lib.lowest_bit n x h0 h).2
theorem ctz_spec {n x : Nat} (h0 : x ≠ 0) (h : x < 2 ^ n) : x.testBit (Lib.ctz n x) = true ∧ ∀ j, j < Lib.ctz n x → x.testBit j = false := by
  unfold Lib.ctz
  rw [if_neg h0]
  obtain ⟨m, hm, _⟩ := Lib.ctzFrom_spec n x (by omega) h
  generalize Lib.ctzFrom n x = k at hm
  subst hm
  constructor
  · rw [Nat.mul_comm, Nat.testBit_mul_two_pow]
    simp [Nat.testBit_zero]
  · intro j hj
    rw [Nat.mul_comm, Nat.testBit_mul_two_pow]
    simp; omega

/-- How many of the first k are in S. -/
def cntN (S : Nat → Bool) : Nat → Nat
  | 0 => 0
  | k + 1 => cntN S k + (if S k then 1 else 0)
theorem cntN_le (S : Nat → Bool) : ∀ k, cntN S k ≤ k
  | 0 => Nat.le_refl _
  | k + 1 => by have := cntN_le S k; simp only [cntN]; split <;> omega
theorem cntN_ext {S T : Nat → Bool} : ∀ {k}, (∀ j, j < k → S j = T j) → cntN S k = cntN T k
  | 0, _ => rfl
  | k + 1, h => by rw [cntN, cntN, cntN_ext (fun j hj => h j (by omega)), h k (by omega)]
theorem cntN_full (S : Nat → Bool) : ∀ {k}, cntN S k = k ↔ ∀ j, j < k → S j = true
  | 0 => by simp [cntN]
  | k + 1 => by
    have h1 := cntN_le S k
    have ih := cntN_full S (k := k)
    simp only [cntN]
    constructor
    · intro h j hj
      cases hs : S k <;> simp [hs] at h
      · omega
      · rcases Nat.lt_or_eq_of_le (Nat.le_of_lt_succ hj) with h' | h'
        · exact ih.1 (by omega) j h'
        · rw [h']; exact hs
    · intro h
      rw [h k (by omega), ih.2 (fun j hj => h j (by omega))]
      simp
theorem cntN_add (S : Nat → Bool) (a : Nat) : ∀ b, cntN S (a + b) = cntN S a + cntN (fun j => S (a + j)) b
  | 0 => by simp [cntN]
  | b + 1 => by rw [← Nat.add_assoc]; simp only [cntN]; rw [cntN_add S a b]; omega
/-- The bits of a number, counted. -/
def pop (x k : Nat) : Nat := cntN (fun j => x.testBit j) k
theorem popAux_cnt : ∀ (f x : Nat), Lib.popAux f x = pop x f
  | 0, x => rfl
  | f + 1, x => by
    rw [Lib.popAux, popAux_cnt f (x / 2)]
    unfold pop
    rw [show f + 1 = 1 + f from Nat.add_comm .., cntN_add]
    congr 1
    · simp only [cntN, Nat.testBit_zero, Nat.zero_add]
      rcases Nat.mod_two_eq_zero_or_one x with h | h <;> simp [h]
    · apply cntN_ext
      intro j _
      rw [Nat.add_comm, Nat.testBit_succ]
theorem pop_small (x a b : Nat) (h : x < 2 ^ a) : pop x (a + b) = pop x a := by
  unfold pop
  rw [cntN_add]
  have : cntN (fun j => x.testBit (a + j)) b = 0 := by
    rw [cntN_ext (T := fun _ => false) (fun j _ => Nat.testBit_lt_two_pow (Nat.lt_of_lt_of_le h (Nat.pow_le_pow_right (by decide) (by omega))))]
    induction b with
    | zero => rfl
    | succ b ih => simp [cntN, ih]
  omega
theorem pop_split (x a b : Nat) : pop x (a + b) = pop (x % 2 ^ a) a + pop (x / 2 ^ a) b := by
  unfold pop
  rw [cntN_add]
  congr 1
  · exact cntN_ext fun j hj => by rw [Nat.testBit_mod_two_pow]; simp [hj]
  · exact cntN_ext fun j _ => by rw [Nat.testBit_div_two_pow, Nat.add_comm]
theorem onesCount8 (x : Nat) (h : x < 256) : Lib.onesCount x = pop x 8 := by
  unfold Lib.onesCount
  rw [popAux_cnt, show 64 = 8 + 56 from rfl, pop_small x 8 56 h]
theorem pop_word (S : Nat → Bool) (k : Nat) : pop (wordN S k) k = cntN S k :=
  cntN_ext fun j hj => by rw [wordN_bit]; simp [hj]
end Go.Proofs.YtogjblikljggbaaDoor.Hp
