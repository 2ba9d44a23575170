/- What is freed; what a new block and a freed one change. -/
import Derived.Test.YtogjblikljggbaaDoorAb
namespace Go.Proofs.YtogjblikljggbaaDoor
open Go.RowKit Go.Proofs.YtogjblikljggbaaDoor.Hp
/-- The places of a span without the one at offset o. -/
def cutU (c u o : Nat) : Nat := u &&& (4294967295 - 2 ^ (o / 2 ^ (c + 1)))
/-- The heap without the block at x. -/
def freeA (A : Nat → Kd) (x : Nat) : Nat → Kd :=
  match A (x / 64) with
  | .cls c u => if cutU c u (x % 64) = 0 then upd A (x / 64) .free else upd A (x / 64) (.cls c (cutU c u (x % 64)))
  | .head k => fun t => if x / 64 ≤ t ∧ t < x / 64 + k then .free else A t
  | _ => A
theorem freeA_cls {A : Nat → Kd} {x c u : Nat} (e : A (x / 64) = .cls c u) : freeA A x = if cutU c u (x % 64) = 0 then upd A (x / 64) .free else upd A (x / 64) (.cls c (cutU c u (x % 64))) := by
  unfold freeA; rw [e]
theorem freeA_head {A : Nat → Kd} {x k : Nat} (e : A (x / 64) = .head k) : freeA A x = fun t => if x / 64 ≤ t ∧ t < x / 64 + k then .free else A t := by
  unfold freeA; rw [e]
theorem cutU_bit {c u o : Nat} (hc : c < 6) (ho : o < 64) (hu : u ≤ fullC c) (j : Nat) : (cutU c u o).testBit j = (u.testBit j && decide (j ≠ o / 2 ^ (c + 1))) := by
  have hl : o / 2 ^ (c + 1) < 32 := by
    rcases c6 hc with rfl | rfl | rfl | rfl | rfl | rfl <;> simp <;> omega
  have hp : 2 ^ (o / 2 ^ (c + 1)) < 2 ^ 32 := Nat.pow_lt_pow_right (by decide) hl
  have hf := fullC_lt hc
  unfold cutU
  rw [Nat.testBit_and, show 4294967295 - 2 ^ (o / 2 ^ (c + 1)) = 2 ^ 32 - (2 ^ (o / 2 ^ (c + 1)) + 1) by omega, Nat.testBit_two_pow_sub_succ hp, Nat.testBit_two_pow]
  by_cases hj : j < 32
  · by_cases e : j = o / 2 ^ (c + 1)
    · subst e; simp
    · simp [hj, e, Ne.symm e]
  · rw [Nat.testBit_lt_two_pow (Nat.lt_of_lt_of_le (show u < 2 ^ 32 by omega) (Nat.pow_le_pow_right (by decide) (by omega)))]
    simp
theorem cutU_le {c u o : Nat} : cutU c u o ≤ u := Nat.and_le_left
theorem cutU_ne {c u o : Nat} (hc : c < 6) (ho : o < 64) (hu : u ≤ fullC c) : cutU c u o ≠ fullC c := by
  intro e
  have h1 := cutU_bit hc ho hu (o / 2 ^ (c + 1))
  have hl : o / 2 ^ (c + 1) < 2 ^ (5 - c) := by
    rcases c6 hc with rfl | rfl | rfl | rfl | rfl | rfl <;> simp <;> omega
  rw [e, fullC, Nat.testBit_two_pow_sub_one, decide_eq_true hl] at h1
  simp at h1
theorem Inv.free_upd {n : Nat} {A : Nat → Kd} (h : Inv n A) {s c u : Nat} (e : A s = .cls c u) : Inv n (upd A s .free) := by
  have hne : A s ≠ .tail := by rw [e]; simp
  refine ⟨?_, fun t ht => ?_, fun t d v hd => ?_, fun t k hd => ?_, fun t h1 h2 ht => ?_⟩
  · rw [upd_ne _ _ (fun e0 : 0 = s => hne (e0 ▸ h.zero))]; exact h.zero
  · rw [upd_ne _ _ (fun e0 : t = s => hne (e0 ▸ h.past t ht))]; exact h.past t ht
  · by_cases e0 : t = s
    · subst e0; rw [upd_same] at hd; cases hd
    · rw [upd_ne _ _ e0] at hd; exact h.cls t d v hd
  · by_cases e0 : t = s
    · subst e0; rw [upd_same] at hd; cases hd
    · rw [upd_ne _ _ e0] at hd
      obtain ⟨a1, a2, a3, a4⟩ := h.head t k hd
      refine ⟨a1, a2, a3, fun x hx1 hx2 => ?_⟩
      rw [upd_ne _ _ (fun e1 : x = s => hne (e1 ▸ a4 x hx1 hx2))]
      exact a4 x hx1 hx2
  · by_cases e0 : t = s
    · subst e0; rw [upd_same] at ht; cases ht
    · rw [upd_ne _ _ e0] at ht
      obtain ⟨x, k, b1, b2, b3⟩ := h.tail t h1 h2 ht
      refine ⟨x, k, ?_, b2, b3⟩
      rw [upd_ne _ _ ?_]
      · exact b1
      · rintro rfl
        rw [e] at b1; cases b1
theorem Inv.freed {n : Nat} {A : Nat → Kd} (h : Inv n A) {x : Nat} (hx : roomN A x ≠ 0) : Inv n (freeA A x) := by
  unfold roomN at hx
  cases e : A (x / 64) with
  | free => rw [e] at hx; exact absurd rfl hx
  | tail => rw [e] at hx; exact absurd rfl hx
  | cls c u =>
    obtain ⟨h1, h2, h3⟩ := h.cls _ _ _ e
    rw [freeA_cls e]
    split
    · exact h.free_upd e
    · exact h.cls_upd (.inr ⟨_, _, e⟩) h1 (by omega) (Nat.le_trans cutU_le h3)
  | head k =>
    obtain ⟨k1, k2, k3, k4⟩ := h.head _ _ e
    rw [freeA_head e]
    have h0 : 1 ≤ x / 64 := by
      apply Nat.pos_of_ne_zero
      intro e0
      rw [e0, h.zero] at e; cases e
    refine ⟨?_, fun t ht => ?_, fun t d v hd => ?_, fun t j hd => ?_, fun t h1 h2 ht => ?_⟩
    · rw [if_neg (by omega)]; exact h.zero
    · rw [if_neg (by omega)]; exact h.past t ht
    · by_cases e0 : x / 64 ≤ t ∧ t < x / 64 + k
      · rw [if_pos e0] at hd; cases hd
      · rw [if_neg e0] at hd; exact h.cls t d v hd
    · by_cases e0 : x / 64 ≤ t ∧ t < x / 64 + k
      · rw [if_pos e0] at hd; cases hd
      · rw [if_neg e0] at hd
        obtain ⟨a1, a2, a3, a4⟩ := h.head t j hd
        refine ⟨a1, a2, a3, fun y hy1 hy2 => ?_⟩
        rw [if_neg ?_]
        · exact a4 y hy1 hy2
        · intro e1
          by_cases e2 : t < x / 64
          · have := a4 (x / 64) e2 (by omega)
            rw [e] at this; cases this
          · omega
    · by_cases e0 : x / 64 ≤ t ∧ t < x / 64 + k
      · rw [if_pos e0] at ht; cases ht
      · rw [if_neg e0] at ht
        obtain ⟨y, j, b1, b2, b3⟩ := h.tail t h1 h2 ht
        refine ⟨y, j, ?_, b2, b3⟩
        show (if x / 64 ≤ y ∧ y < x / 64 + k then Kd.free else A y) = _
        rw [if_neg ?_]
        · exact b1
        · intro e1
          by_cases e2 : y = x / 64
          · subst e2; rw [e] at b1; cases b1; omega
          · have := k4 y (by omega) e1.2
            rw [this] at b1; cases b1
theorem roomN_off {A B : Nat → Kd} {y : Nat} (e : A (y / 64) = B (y / 64)) : roomN A y = roomN B y := by unfold roomN; rw [e]
/-- Of the rooms only that of the freed block turns. -/
theorem room_freed {n : Nat} {A : Nat → Kd} (h : Inv n A) {x : Nat} (hx : roomN A x ≠ 0) (y : Nat) : roomN (freeA A x) y = if y = x then 0 else roomN A y := by
  have hx' := hx
  unfold roomN at hx'
  cases e : A (x / 64) with
  | free => rw [e] at hx'; exact absurd rfl hx'
  | tail => rw [e] at hx'; exact absurd rfl hx'
  | cls c u =>
    obtain ⟨h1, h2, h3⟩ := h.cls _ _ _ e
    rw [e] at hx'
    obtain ⟨o1, o2, o3, o4⟩ := cls_off h1 (by omega) hx'
    have key : ∀ o, o < 64 → roomK (.cls c (cutU c u (x % 64))) o = if o = x % 64 then 0 else roomK (.cls c u) o := by
      intro o ho
      simp only [roomK]
      rw [cutU_bit h1 (by omega) h3]
      by_cases eo : o = x % 64
      · subst eo; simp
      · rw [if_neg eo]
        by_cases hz : o % 2 ^ (c + 1) = 0
        · have : o / 2 ^ (c + 1) ≠ x % 64 / 2 ^ (c + 1) := by
            intro e1
            apply eo
            have e2 := Nat.div_add_mod o (2 ^ (c + 1))
            have e3 := Nat.div_add_mod (x % 64) (2 ^ (c + 1))
            rw [e1] at e2
            omega
          simp [this]
        · rw [if_neg (fun q => hz q.1), if_neg (fun q => hz q.1)]
    rw [freeA_cls e]
    by_cases hs : y / 64 = x / 64
    · have hyx : (y = x) ↔ (y % 64 = x % 64) := by omega
      by_cases hz : cutU c u (x % 64) = 0
      · rw [if_pos hz]
        have k2 := key (y % 64) (by omega)
        rw [hz] at k2
        unfold roomN
        rw [hs, upd_same, e]
        simp only [hyx]
        rw [← k2]
        simp [roomK]
      · rw [if_neg hz]
        unfold roomN
        rw [hs, upd_same, e]
        simp only [hyx]
        exact key (y % 64) (by omega)
    · rw [if_neg (show y ≠ x by rintro rfl; exact hs rfl)]
      split <;> exact roomN_off (upd_ne _ _ hs)
  | head k =>
    obtain ⟨k1, k2, k3, k4⟩ := h.head _ _ e
    rw [e] at hx'
    have hx0 : x % 64 = 0 := by
      simp only [roomK] at hx'
      by_cases h0 : x % 64 = 0
      · exact h0
      · rw [if_neg h0] at hx'; exact absurd rfl hx'
    rw [freeA_head e]
    by_cases e0 : x / 64 ≤ y / 64 ∧ y / 64 < x / 64 + k
    · have : roomN (fun t => if x / 64 ≤ t ∧ t < x / 64 + k then Kd.free else A t) y = 0 := by
        unfold roomN; dsimp only; rw [if_pos e0]; rfl
      rw [this]
      by_cases hs : y / 64 = x / 64
      · by_cases hyx : y = x
        · rw [if_pos hyx]
        · rw [if_neg hyx]
          unfold roomN
          rw [hs, e]
          simp only [roomK]
          rw [if_neg (by omega)]
      · rw [if_neg (by omega)]
        unfold roomN
        rw [k4 _ (by omega) e0.2]
        rfl
    · rw [if_neg (by omega)]
      unfold roomN
      simp only [if_neg e0]
/-- Of the rooms only that of the new block turns: it was none. -/
theorem room_goes {n : Nat} {A A' : Nat → Kd} {m a : Nat} (h : Inv n A) (g : Goes n A m a A') : roomN A a = 0 ∧ ∀ y, roomN A' y = if y = a then roomOfM m else roomN A y := by
  cases g with
  | op s u hm hs e hn hl =>
    obtain ⟨h1, h2, h3⟩ := h.cls _ _ _ e
    obtain ⟨l1, l2⟩ := lowP_lt h1 h3 hn
    have lb := lowP_spec l1
    have hR : roomOfM m = 2 ^ (clOf m + 1) := by unfold roomOfM; rw [if_pos hm]
    rw [hR]
    generalize clOf m = c at *
    have ho : lowP u * 2 ^ (c + 1) < 64 := by
      rcases c6 h1 with rfl | rfl | rfl | rfl | rfl | rfl <;> simp at l2 ⊢ <;> omega
    have hp : 0 < 2 ^ (c + 1) := Nat.pow_pos (by decide)
    have da : (s * 64 + lowP u * 2 ^ (c + 1)) / 64 = s := by omega
    have ma : (s * 64 + lowP u * 2 ^ (c + 1)) % 64 = lowP u * 2 ^ (c + 1) := by omega
    constructor
    · unfold roomN
      rw [da, ma, e]
      simp only [roomK]
      rw [Nat.mul_mod_left, Nat.mul_div_cancel _ hp, lb.1]
      simp
    · intro y
      by_cases hs2 : y / 64 = s
      · have hyx : (y = s * 64 + lowP u * 2 ^ (c + 1)) ↔ (y % 64 = lowP u * 2 ^ (c + 1)) := by omega
        simp only [hyx]
        unfold roomN
        rw [hs2, upd_same, e]
        simp only [roomK]
        by_cases eo : y % 64 = lowP u * 2 ^ (c + 1)
        · rw [if_pos eo, if_pos]
          rw [eo, Nat.mul_mod_left, Nat.mul_div_cancel _ hp, Nat.testBit_or, Nat.testBit_two_pow]
          simp
        · rw [if_neg eo, Nat.testBit_or, Nat.testBit_two_pow]
          by_cases hz : y % 64 % 2 ^ (c + 1) = 0
          · have : ¬ (lowP u = y % 64 / 2 ^ (c + 1)) := by
              intro e1
              apply eo
              have e2 := Nat.div_add_mod (y % 64) (2 ^ (c + 1))
              rw [← e1, Nat.mul_comm] at e2
              omega
            simp [this]
          · rw [if_neg (fun q => hz q.1), if_neg (fun q => hz q.1)]
      · rw [if_neg (by omega)]
        exact roomN_off (upd_ne _ _ hs2)
  | free s hm hs e hl hn =>
    have hR : roomOfM m = 2 ^ (clOf m + 1) := by unfold roomOfM; rw [if_pos hm]
    rw [hR]
    have h1 := clOf_lt m
    generalize clOf m = c at *
    have hp : 0 < 2 ^ (c + 1) := Nat.pow_pos (by decide)
    have da : (s * 64) / 64 = s := by omega
    constructor
    · unfold roomN; rw [da, e]; rfl
    · intro y
      by_cases hs2 : y / 64 = s
      · have hyx : (y = s * 64) ↔ (y % 64 = 0) := by omega
        simp only [hyx]
        unfold roomN
        rw [hs2, upd_same, e]
        simp only [roomK]
        by_cases eo : y % 64 = 0
        · rw [if_pos eo, if_pos]
          rw [eo]; simp
        · rw [if_neg eo, if_neg]
          intro q
          have e2 := Nat.div_add_mod (y % 64) (2 ^ (c + 1))
          have e3 : y % 64 / 2 ^ (c + 1) ≠ 0 := by
            intro e4; rw [e4, q.1] at e2; omega
          have q2 := q.2
          rw [Nat.testBit_one_eq_true_iff_self_eq_zero] at q2
          exact e3 q2
      · rw [if_neg (by omega)]
        exact roomN_off (upd_ne _ _ hs2)
  | row f k hm hk hf e hl =>
    have hR : roomOfM m = 64 * k := by unfold roomOfM; rw [if_neg (by omega), hk]
    rw [hR]
    have da : (f * 64) / 64 = f := by omega
    constructor
    · unfold roomN; rw [da, e f (Nat.le_refl _) (by omega)]; rfl
    · intro y
      by_cases hs2 : y / 64 = f
      · have hyx : (y = f * 64) ↔ (y % 64 = 0) := by omega
        simp only [hyx]
        unfold roomN
        rw [hs2]
        dsimp only
        rw [if_pos rfl, e f (Nat.le_refl _) (by omega)]
        rfl
      · rw [if_neg (show y ≠ f * 64 by omega)]
        unfold roomN
        dsimp only
        rw [if_neg hs2]
        by_cases e1 : f < y / 64 ∧ y / 64 < f + k
        · rw [if_pos e1, e _ (by omega) e1.2]; rfl
        · rw [if_neg e1]
end Go.Proofs.YtogjblikljggbaaDoor
