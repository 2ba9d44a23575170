/- The addresses of the blocks, rising. -/
import Derived.Test.YtogjblikljggbaaDoorWd1
import Derived.Deep.AppendLies
namespace Go.Proofs.YtogjblikljggbaaDoor
open Go.RowKit Go.Proofs.YtogjblikljggbaaDoor.Hp
theorem and_split2 (a b c d : Nat) (ha : a < 2) (hc : c < 2) : (a + 2 * b) &&& (c + 2 * d) = (a &&& c) + 2 * (b &&& d) := by
  have e : ∀ x y : Nat, x < 2 → x + 2 * y = y * 2 ^ 1 + x := fun x y _ => by omega
  have hac : a &&& c < 2 ^ 1 := Nat.and_lt_two_pow _ hc
  rw [e a b ha, e c d hc, e _ _ hac]
  apply Nat.eq_of_testBit_eq
  intro i
  rw [Nat.testBit_and, Nat.mul_comm b, Nat.mul_comm d, Nat.mul_comm (b &&& d), Nat.testBit_two_pow_mul_add _ ha, Nat.testBit_two_pow_mul_add _ hc, Nat.testBit_two_pow_mul_add _ hac]
  split
  · rw [Nat.testBit_and]
  · rw [Nat.testBit_and]
theorem room_bit {A : Nat → Kd} {s c u j : Nat} (e : A s = .cls c u) (hj : j * 2 ^ (c + 1) < 64) : roomN A (64 * s + j * 2 ^ (c + 1)) = if u.testBit j then 2 ^ (c + 1) else 0 := by
  have hp : 0 < 2 ^ (c + 1) := Nat.pow_pos (by decide)
  unfold roomN
  rw [show (64 * s + j * 2 ^ (c + 1)) / 64 = s by omega, show (64 * s + j * 2 ^ (c + 1)) % 64 = j * 2 ^ (c + 1) by omega, e]
  simp only [roomK]
  rw [Nat.mul_mod_left, Nat.mul_div_cancel _ hp]
  simp
def bl : Nat → Nat → List Nat
  | 0, _ => []
  | n + 1, x => (if x % 2 = 1 then [0] else []) ++ (bl n (x / 2)).map (· + 1)
theorem bl_zero : ∀ n, bl n 0 = []
  | 0 => rfl
  | n + 1 => by simp [bl, bl_zero n]
theorem bl_clear : ∀ (n x : Nat), x ≠ 0 → x < 2 ^ n → bl n x = Lib.ctzFrom n x :: bl n (x &&& (x - 1))
  | 0, x, h0, h => by simp at h; omega
  | n + 1, x, h0, h => by
    rcases Nat.mod_two_eq_zero_or_one x with e | e
    · obtain ⟨y, rfl⟩ : ∃ y, x = 2 * y := ⟨x / 2, by omega⟩
      have ih := bl_clear n y (by omega) (by rw [Nat.pow_succ] at h; omega)
      have e2 : (2 * y) &&& (2 * y - 1) = 2 * (y &&& (y - 1)) := by
        have := and_split2 0 y 1 (y - 1) (by decide) (by decide)
        rw [show 0 + 2 * y = 2 * y by omega, show 1 + 2 * (y - 1) = 2 * y - 1 by omega] at this
        rw [this]; simp
      rw [e2]
      unfold bl Lib.ctzFrom
      rw [show 2 * (y &&& (y - 1)) % 2 = 0 by omega, show 2 * (y &&& (y - 1)) / 2 = (y &&& (y - 1)) by omega, show 2 * y % 2 = 0 by omega, show 2 * y / 2 = y by omega, ih]
      simp; omega
    · obtain ⟨y, rfl⟩ : ∃ y, x = 1 + 2 * y := ⟨x / 2, by omega⟩
      have e2 : (1 + 2 * y) &&& (1 + 2 * y - 1) = 2 * y := by
        have := and_split2 1 y 0 y (by decide) (by decide)
        rw [show 0 + 2 * y = 1 + 2 * y - 1 by omega] at this
        rw [this, Nat.and_self]; simp
      rw [e2]
      unfold bl Lib.ctzFrom
      rw [show (1 + 2 * y) % 2 = 1 by omega, show (1 + 2 * y) / 2 = y by omega, show 2 * y % 2 = 0 by omega, show 2 * y / 2 = y by omega]
      simp
theorem bl_mem : ∀ (n x k : Nat), k ∈ bl n x ↔ k < n ∧ x.testBit k = true
  | 0, x, k => by simp [bl]
  | n + 1, x, k => by
    unfold bl
    rw [List.mem_append, List.mem_map]
    cases k with
    | zero =>
      rw [Nat.testBit_zero]
      constructor
      · rintro (h | ⟨a, _, h⟩)
        · split at h
          · rename_i e; exact ⟨by omega, by simp [e]⟩
          · simp at h
        · omega
      · rintro ⟨_, h⟩
        left
        rw [if_pos (by simpa using h)]
        simp
    | succ k =>
      rw [Nat.testBit_succ]
      constructor
      · rintro (h | ⟨a, h1, h⟩)
        · split at h
          · simp at h
          · simp at h
        · obtain rfl : a = k := by omega
          have := (bl_mem n (x / 2) a).1 h1
          exact ⟨by omega, this.2⟩
      · rintro ⟨h1, h2⟩
        exact .inr ⟨k, (bl_mem n (x / 2) k).2 ⟨by omega, h2⟩, rfl⟩
theorem bl_sorted : ∀ (n x : Nat), (bl n x).Pairwise (· < ·)
  | 0, x => List.Pairwise.nil
  | n + 1, x => by
    unfold bl
    rw [List.pairwise_append]
    refine ⟨by split <;> simp, ?_, fun a ha b hb => ?_⟩
    · rw [List.pairwise_map]
      exact (bl_sorted n (x / 2)).imp fun h => by omega
    · obtain ⟨c, _, rfl⟩ := List.mem_map.1 hb
      split at ha
      · simp at ha; omega
      · simp at ha
def spanU (s r u : Nat) : List Nat := (bl 32 u).map fun k => s * 64 + k * r
def blkL (A : Nat → Kd) : Nat → List Nat
  | 0 => []
  | s + 1 => blkL A s ++ spanU s (rmK (A s)) (usK (A s))
theorem span_mem {N : Nat} {A : Nat → Kd} (h : Inv N A) (s x : Nat) : x ∈ spanU s (rmK (A s)) (usK (A s)) ↔ x / 64 = s ∧ roomN A x ≠ 0 := by
  unfold spanU
  rw [List.mem_map]
  unfold roomN
  cases ek : A s with
  | free => simp [usK, bl_zero]; intro e; rw [e, ek]; rfl
  | tail => simp [usK, bl_zero]; intro e; rw [e, ek]; rfl
  | head k =>
    have hk := (h.head s k ek).1
    have e1 : bl 32 1 = [0] := by decide
    simp only [usK, rmK, e1, List.mem_singleton]
    constructor
    · rintro ⟨a, rfl, rfl⟩
      rw [show (s * 64 + 0 * (64 * k)) / 64 = s by omega, show (s * 64 + 0 * (64 * k)) % 64 = 0 by omega, ek]
      exact ⟨rfl, by simp [roomK]; omega⟩
    · rintro ⟨e, h2⟩
      rw [e, ek] at h2
      simp only [roomK] at h2
      by_cases e0 : x % 64 = 0
      · exact ⟨0, rfl, by omega⟩
      · rw [if_neg e0] at h2; exact absurd rfl h2
  | cls c u =>
    obtain ⟨hc, hu, hu2⟩ := h.cls s c u ek
    have hp : 2 ≤ 2 ^ (c + 1) := by rw [Nat.pow_succ]; have : 0 < 2 ^ c := Nat.pow_pos (by decide); omega
    simp only [usK, rmK]
    constructor
    · rintro ⟨j, hj, rfl⟩
      obtain ⟨h1, h2⟩ := (bl_mem 32 u j).1 hj
      have hjq : j < 2 ^ (5 - c) := by
        apply Nat.lt_of_not_le
        intro hle
        have h0 : 0 < 2 ^ 2 ^ (5 - c) := Nat.pow_pos (by decide)
        have : u < 2 ^ j := Nat.lt_of_lt_of_le (show u < 2 ^ 2 ^ (5 - c) by unfold fullC at hu2; omega) (Nat.pow_le_pow_right (by decide) hle)
        rw [Nat.testBit_lt_two_pow this] at h2; cases h2
      have ho : j * 2 ^ (c + 1) < 64 := by
        rcases c6 hc with rfl | rfl | rfl | rfl | rfl | rfl <;> simp at hjq ⊢ <;> omega
      have hr := room_bit ek (j := j) ho
      rw [h2, if_pos rfl, Nat.mul_comm 64 s] at hr
      refine ⟨by omega, ?_⟩
      show roomN A _ ≠ 0
      rw [hr]; omega
    · rintro ⟨e, h2⟩
      rw [e, ek] at h2
      obtain ⟨g1, g2, g3, g4⟩ := cls_off hc (show x % 64 < 64 by omega) h2
      refine ⟨x % 64 / 2 ^ (c + 1), (bl_mem 32 u _).2 ⟨?_, g2⟩, ?_⟩
      · rw [Nat.div_lt_iff_lt_mul (by omega)]
        have := Nat.mul_le_mul_left 32 hp
        omega
      · rw [Nat.div_mul_cancel (Nat.dvd_of_mod_eq_zero g1)]; omega
theorem blkL_mem {N : Nat} {A : Nat → Kd} (h : Inv N A) (x : Nat) : ∀ n, x ∈ blkL A n ↔ x < 64 * n ∧ roomN A x ≠ 0
  | 0 => by simp [blkL]
  | n + 1 => by
    unfold blkL
    rw [List.mem_append, blkL_mem h x n, span_mem h n x]
    constructor
    · rintro (⟨a, b⟩ | ⟨a, b⟩)
      · exact ⟨by omega, b⟩
      · exact ⟨by omega, b⟩
    · rintro ⟨a, b⟩
      by_cases e : x < 64 * n
      · exact .inl ⟨e, b⟩
      · exact .inr ⟨by omega, b⟩
theorem blkL_sorted {N : Nat} {A : Nat → Kd} (h : Inv N A) : ∀ n, (blkL A n).Pairwise (· < ·)
  | 0 => List.Pairwise.nil
  | n + 1 => by
    unfold blkL
    rw [List.pairwise_append]
    refine ⟨blkL_sorted h n, ?_, fun a ha b hb => ?_⟩
    · unfold spanU
      rw [List.pairwise_map]
      by_cases e : rmK (A n) = 0
      · have : usK (A n) = 0 := by
          cases ek : A n with
          | free => rfl
          | tail => rfl
          | head k => rw [ek] at e; simp only [rmK] at e; have := (h.head n k ek).1; omega
          | cls c u => rw [ek] at e; simp only [rmK] at e; have : 0 < 2 ^ (c + 1) := Nat.pow_pos (by decide); omega
        rw [this, bl_zero]; exact List.Pairwise.nil
      · exact (bl_sorted 32 (usK (A n))).imp fun {a b} hab => by
          have := (Nat.mul_lt_mul_right (Nat.pos_of_ne_zero e)).2 hab
          omega
    · have h1 := ((blkL_mem h a n).1 ha).1
      have h2 := ((span_mem h n b).1 hb).1
      omega
theorem sorted_eq : ∀ (L M : List Nat), L.Pairwise (· < ·) → M.Pairwise (· < ·) → (∀ x, x ∈ L ↔ x ∈ M) → L = M
  | [], [], _, _, _ => rfl
  | [], b :: M, _, _, h => absurd ((h b).2 (by simp)) (by simp)
  | a :: L, [], _, _, h => absurd ((h a).1 (by simp)) (by simp)
  | a :: L, b :: M, h1, h2, h => by
    rw [List.pairwise_cons] at h1 h2
    have e : a = b := by
      rcases List.mem_cons.1 ((h a).1 (by simp)) with e | e
      · exact e
      · rcases List.mem_cons.1 ((h b).2 (by simp)) with e2 | e2
        · exact e2.symm
        · have := h1.1 b e2; have := h2.1 a e; omega
    subst e
    rw [sorted_eq L M h1.2 h2.2 fun x => ?_]
    constructor
    · intro hx
      rcases List.mem_cons.1 ((h x).1 (by simp [hx])) with e | e
      · have := h1.1 x hx; omega
      · exact e
    · intro hx
      rcases List.mem_cons.1 ((h x).2 (by simp [hx])) with e | e
      · have := h2.1 x hx; omega
      · exact e
end Go.Proofs.YtogjblikljggbaaDoor
