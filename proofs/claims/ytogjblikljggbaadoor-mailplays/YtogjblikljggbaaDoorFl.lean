/- Filling an empty heap with blocks of one class; where blocks go is told. -/
import Derived.Test.YtogjblikljggbaaDoorAb2
namespace Go.Proofs.YtogjblikljggbaaDoor
open Go.RowKit Go.Proofs.YtogjblikljggbaaDoor.Hp
theorem opK_of {A : Nat → Kd} {s c u : Nat} (e : A s = .cls c u) (hn : u ≠ fullC c) : opK c (A s) = true := by rw [e]; simp [opK, hn]
theorem Goes.det {n : Nat} {A A1 A2 : Nat → Kd} {m a b : Nat} (g : Goes n A m a A1) (h : Goes n A m b A2) : a = b ∧ A1 = A2 := by
  cases g with
  | op s u hm hs e hn hl =>
    cases h with
    | op s' u' hm' hs' e' hn' hl' =>
      have : s = s' := by
        rcases Nat.lt_trichotomy s s' with h | h | h
        · have := hl' s h; rw [opK_of e hn] at this; cases this
        · exact h
        · have := hl s' h; rw [opK_of e' hn'] at this; cases this
      subst this
      rw [e] at e'; cases e'
      exact ⟨rfl, rfl⟩
    | free s' hm' hs' e' hl' hn' => have := hn' s; rw [opK_of e hn] at this; cases this
    | row f k hm' hk hf e' hl' => omega
  | free s hm hs e hl hn =>
    cases h with
    | op s' u' hm' hs' e' hn' hl' => have := hn s'; rw [opK_of e' hn'] at this; cases this
    | free s' hm' hs' e' hl' hn' =>
      have : s = s' := by
        rcases Nat.lt_trichotomy s s' with h | h | h
        · exact absurd e (hl' s h)
        · exact h
        · exact absurd e' (hl s' h)
      subst this
      exact ⟨rfl, rfl⟩
    | row f k hm' hk hf e' hl' => omega
  | row f k hm hk hf e hl =>
    cases h with
    | op s' u' hm' hs' e' hn' hl' => omega
    | free s' hm' hs' e' hl' hn' => omega
    | row f' k' hm' hk' hf' e' hl' =>
      have hkk : k = k' := by omega
      subst hkk
      have : f = f' := by
        rcases Nat.lt_trichotomy f f' with h | h | h
        · obtain ⟨t, a, b, c⟩ := hl' f h; exact absurd (e t a b) c
        · exact h
        · obtain ⟨t, a, b, c⟩ := hl f' h; exact absurd (e' t a b) c
      subst this
      exact ⟨rfl, rfl⟩
theorem Goes.not {n : Nat} {A A1 : Nat → Kd} {m a : Nat} (g : Goes n A m a A1) : ¬ NoPlace n A m := by
  intro h
  cases g with
  | op s u hm hs e hn hl =>
    rcases h with ⟨_, h1, _⟩ | ⟨h1, _⟩
    · have := h1 s; rw [opK_of e hn] at this; cases this
    · omega
  | free s hm hs e hl hn =>
    rcases h with ⟨_, _, h2⟩ | ⟨h1, _⟩
    · exact h2 s e
    · omega
  | row f k hm hk hf e hl =>
    rcases h with ⟨h1, _⟩ | ⟨_, h2⟩
    · omega
    · subst hk
      obtain ⟨t, a, b, c⟩ := h2 f hf
      exact c (e t a b)
/-- How many of the q places of span s are taken when the first k are. -/
def takenQ (q k s : Nat) : Nat := min (k - q * (s - 1)) q
theorem tq_low {q d e s : Nat} (h : 1 ≤ s) (hs : s ≤ d) : takenQ q (q * d + e) s = q := by
  unfold takenQ
  have h2 : q * s ≤ q * d := Nat.mul_le_mul_left q hs
  have h3 : q * (s - 1) + q = q * s := by rw [← Nat.mul_succ]; congr 1; omega
  omega
theorem tq_at {q d e : Nat} (he : e < q) : takenQ q (q * d + e) (d + 1) = e := by
  unfold takenQ
  rw [Nat.add_sub_cancel]
  omega
theorem tq_past {q d e s : Nat} (he : e ≤ q) (hs : d + 1 < s) : takenQ q (q * d + e) s = 0 := by
  unfold takenQ
  have h2 : q * (d + 1) ≤ q * (s - 1) := Nat.mul_le_mul_left q (by omega)
  rw [Nat.mul_succ] at h2
  omega
theorem tq_next {q d e s : Nat} (he : e < q) (h : 1 ≤ s) : takenQ q (q * d + e + 1) s = if s = d + 1 then e + 1 else takenQ q (q * d + e) s := by
  by_cases e1 : s = d + 1
  · rw [if_pos e1]
    subst e1
    unfold takenQ
    rw [Nat.add_sub_cancel]
    omega
  · rw [if_neg e1]
    rcases Nat.lt_or_gt_of_ne e1 with h1 | h1
    · rw [tq_low h (by omega), Nat.add_assoc, tq_low h (by omega)]
    · rw [tq_past (by omega) h1, Nat.add_assoc, tq_past (by omega) h1]
def fillA (n c k : Nat) : Nat → Kd := fun s => if 1 ≤ s ∧ s < n then (if takenQ (2 ^ (5 - c)) k s = 0 then .free else .cls c (2 ^ takenQ (2 ^ (5 - c)) k s - 1)) else .tail
theorem low_ones {j : Nat} (hj : j < 32) : lowP (2 ^ j - 1) = j := by
  have hp : 2 ^ j ≤ 2 ^ 31 := Nat.pow_le_pow_right (by decide) (by omega)
  have h := lowP_spec (u := 2 ^ j - 1) (by omega)
  rcases Nat.lt_trichotomy (lowP (2 ^ j - 1)) j with h1 | h1 | h1
  · have := h.1
    rw [Nat.testBit_two_pow_sub_one, decide_eq_true h1] at this; cases this
  · exact h1
  · have := h.2.1 j h1
    rw [Nat.testBit_two_pow_sub_one, decide_eq_false (by omega)] at this; cases this
theorem ones_or (j : Nat) : (2 ^ j - 1) ||| 2 ^ j = 2 ^ (j + 1) - 1 := by
  apply Nat.eq_of_testBit_eq
  intro i
  rw [Nat.testBit_or, Nat.testBit_two_pow_sub_one, Nat.testBit_two_pow_sub_one, Nat.testBit_two_pow]
  by_cases h1 : i < j
  · simp [h1]; omega
  · by_cases h2 : j = i
    · subst h2; simp
    · simp [h1, h2]; omega
/-- The next block of the class goes to the next place. -/
theorem fill_goes {n m k : Nat} (hm : m ≤ 64) (hk : k < 2 ^ (5 - clOf m) * (n - 1)) : Goes n (fillA n (clOf m) k) m (64 + k * 2 ^ (clOf m + 1)) (fillA n (clOf m) (k + 1)) := by
  have hc := clOf_lt m
  have hq : 0 < 2 ^ (5 - clOf m) := Nat.pow_pos (by decide)
  have h64 : 2 ^ (5 - clOf m) * 2 ^ (clOf m + 1) = 64 := by rcases c6 hc with h | h | h | h | h | h <;> rw [h]
  obtain ⟨d, e, rfl, he⟩ : ∃ d e, k = 2 ^ (5 - clOf m) * d + e ∧ e < 2 ^ (5 - clOf m) := ⟨_, _, (Nat.div_add_mod k _).symm, Nat.mod_lt k hq⟩
  have hsn : d + 1 < n := by
    have h1 : 2 ^ (5 - clOf m) * d < 2 ^ (5 - clOf m) * (n - 1) := by omega
    have := Nat.lt_of_mul_lt_mul_left h1
    omega
  have hq32 := places_le hc
  have hlow : ∀ t, 1 ≤ t → t < d + 1 → fillA n (clOf m) (2 ^ (5 - clOf m) * d + e) t = .cls (clOf m) (fullC (clOf m)) := by
    intro t h1 h2
    unfold fillA
    rw [if_pos ⟨h1, by omega⟩, tq_low h1 (by omega), if_neg (by omega)]
    rfl
  have hat : fillA n (clOf m) (2 ^ (5 - clOf m) * d + e) (d + 1) = if e = 0 then .free else .cls (clOf m) (2 ^ e - 1) := by
    unfold fillA
    rw [if_pos ⟨by omega, hsn⟩, tq_at he]
  have hnext : fillA n (clOf m) (2 ^ (5 - clOf m) * d + e + 1) = upd (fillA n (clOf m) (2 ^ (5 - clOf m) * d + e)) (d + 1) (.cls (clOf m) (2 ^ (e + 1) - 1)) := by
    funext t
    by_cases e1 : t = d + 1
    · rw [e1, upd_same]
      unfold fillA
      rw [if_pos ⟨by omega, hsn⟩, tq_next he (by omega), if_pos rfl, if_neg (by omega)]
    · rw [upd_ne _ _ e1]
      unfold fillA
      by_cases h1 : 1 ≤ t ∧ t < n
      · rw [if_pos h1, if_pos h1, tq_next he h1.1, if_neg e1]
      · rw [if_neg h1, if_neg h1]
  have hadr : 64 + (2 ^ (5 - clOf m) * d + e) * 2 ^ (clOf m + 1) = (d + 1) * 64 + e * 2 ^ (clOf m + 1) := by
    rw [Nat.add_mul, Nat.mul_right_comm, h64]
    omega
  have hzero : fillA n (clOf m) (2 ^ (5 - clOf m) * d + e) 0 = .tail := by unfold fillA; rw [if_neg (by omega)]
  by_cases hz : e = 0
  · rw [if_pos hz] at hat
    rw [hadr, hnext]
    subst hz
    rw [show (d + 1) * 64 + 0 * 2 ^ (clOf m + 1) = (d + 1) * 64 by rw [Nat.zero_mul, Nat.add_zero]]
    refine Goes.free _ hm hsn hat (fun t ht => ?_) (fun t => ?_)
    · by_cases h0 : t = 0
      · subst h0; rw [hzero]; simp
      · rw [hlow t (by omega) ht]; simp
    · by_cases h0 : t = 0
      · subst h0; rw [hzero]; rfl
      · by_cases h1 : t < d + 1
        · rw [hlow t (by omega) h1]; simp [opK]
        · by_cases h2 : t = d + 1
          · rw [h2, hat]; rfl
          · unfold fillA
            rw [tq_past (by omega) (by omega), if_pos rfl]
            split <;> rfl
  · rw [if_neg hz] at hat
    rw [hadr, hnext]
    have hl := low_ones (j := e) (by omega)
    have hne : 2 ^ e - 1 ≠ fullC (clOf m) := by
      unfold fullC
      have h1 : 2 ^ e < 2 ^ 2 ^ (5 - clOf m) := Nat.pow_lt_pow_right (by decide) he
      have h2 : 0 < 2 ^ e := Nat.pow_pos (by decide)
      omega
    have := Goes.op (n := n) (A := fillA n (clOf m) (2 ^ (5 - clOf m) * d + e)) (m := m) _ _ hm hsn hat hne (fun t ht => by
      by_cases h0 : t = 0
      · subst h0; rw [hzero]; rfl
      · rw [hlow t (by omega) ht]; simp [opK])
    rw [hl, ones_or] at this
    exact this
/-- Behind the n-th block a span is free as long as there are more spans than blocks. -/
theorem fill_free {n c k s : Nat} (hs : k < s) (hn : s < n) : fillA n c k s = .free := by
  unfold fillA
  have : takenQ (2 ^ (5 - c)) k s = 0 := by
    unfold takenQ
    have hq : 1 ≤ 2 ^ (5 - c) := Nat.pow_pos (by decide)
    have : 1 * (s - 1) ≤ 2 ^ (5 - c) * (s - 1) := Nat.mul_le_mul_right _ hq
    omega
  rw [if_pos ⟨by omega, hn⟩, if_pos this]
end Go.Proofs.YtogjblikljggbaaDoor
