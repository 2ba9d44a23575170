/- How many spans are taken, by the blocks that were ever made of a class. -/
import Derived.Test.YtkclpbbpcicpiaaDoorRo
namespace Go.Proofs.YtkclpbbpcicpiaaDoor
open Go.RowKit Go.Proofs.YtkclpbbpcicpiaaDoor.Hp
variable {n m a : Nat} {A A' A1 : Nat → Kd} {wd : Nat → Int} {held : List Int} {rb : Nat → Bool} {N0 N2 q : Nat}
theorem cntN_row {S T : Nat → Bool} {f d : Nat} : ∀ {k}, (∀ j, j < k → T j = true → S j = true ∨ (f ≤ j ∧ j < f + d)) → cntN T k ≤ cntN S k + min (k - f) d
  | 0, _ => by simp [cntN]
  | k + 1, h => by
    have ih := cntN_row (k := k) fun j hj => h j (by omega)
    have hk := h k (by omega)
    simp only [cntN]
    cases hT : T k with
    | false => simp; omega
    | true =>
      rcases hk hT with e | e
      · simp [e]; omega
      · simp; omega
theorem cntN_mono {S T : Nat → Bool} {k : Nat} (h : ∀ j, j < k → T j = true → S j = true) : cntN T k ≤ cntN S k := by
  have := cntN_row (f := 0) (d := 0) (S := S) (T := T) (k := k) fun j hj ht => .inl (h j hj ht)
  omega
theorem cntN_one {S T : Nat → Bool} {k i : Nat} (h : ∀ j, j < k → j ≠ i → T j = true → S j = true) : cntN T k ≤ cntN S k + 1 := by
  have := cntN_row (f := i) (d := 1) (S := S) (T := T) (k := k) fun j hj ht => by
    by_cases e : j = i
    · exact .inr (by omega)
    · exact .inl (h j hj e ht)
  omega
theorem cntN_or {S T U V : Nat → Bool} : ∀ {k}, (∀ j, j < k → U j = true → S j = true ∨ T j = true ∨ V j = true) → cntN U k ≤ cntN S k + cntN T k + cntN V k
  | 0, _ => by simp [cntN]
  | k + 1, h => by
    have ih := cntN_or (k := k) fun j hj => h j (by omega)
    have hk := h k (by omega)
    simp only [cntN]
    cases hU : U k with
    | false => simp; omega
    | true => rcases hk hU with e | e | e <;> simp [e] <;> omega
theorem cntN_two {U : Nat → Bool} {n : Nat} (h : ∀ g, g + 2 ≤ n → ∃ t, g ≤ t ∧ t < g + 2 ∧ U t = true) : ∀ j, 2 * j ≤ n → j ≤ cntN U (2 * j)
  | 0, _ => by simp
  | j + 1, hj => by
    have ih := cntN_two h j (by omega)
    obtain ⟨t, h1, h2, h3⟩ := h (2 * j) (by omega)
    rw [show 2 * (j + 1) = 2 * j + 1 + 1 by omega]
    simp only [cntN]
    rcases (show t = 2 * j ∨ t = 2 * j + 1 by omega) with rfl | rfl
    · simp [h3]; omega
    · simp [h3]; omega
def isC (c : Nat) : Kd → Bool | .cls d _ => decide (d = c) | _ => false
def otB : Kd → Bool | .free => false | .cls d _ => decide (d ≠ 0) && decide (d ≠ 2) | _ => true
def sC (A : Nat → Kd) (n c : Nat) : Nat := cntN (fun s => isC c (A s)) n
def oC (A : Nat → Kd) (n : Nat) : Nat := cntN (fun s => otB (A s)) n
def rC (A : Nat → Kd) (n c : Nat) : Nat := cntN (fun x => decide (roomN A x = 2 ^ (c + 1))) (64 * n)
theorem full0 : cntN (fun i => decide (roomK (.cls 0 (fullC 0)) i = 2 ^ (0 + 1))) 64 = 32 := by decide +kernel
theorem full2 : cntN (fun i => decide (roomK (.cls 2 (fullC 2)) i = 2 ^ (2 + 1))) 64 = 8 := by decide +kernel
/-- Where no span of a class is open its blocks are as many as its places. -/
theorem full_cnt {c cap : Nat} (hf : cntN (fun i => decide (roomK (.cls c (fullC c)) i = 2 ^ (c + 1))) 64 = cap) (h : ∀ t, opK c (A t) = false) : ∀ n, cap * sC A n c ≤ rC A n c
  | 0 => by simp [sC, rC, cntN]
  | n + 1 => by
    have ih := full_cnt hf h n
    have eS : sC A (n + 1) c = sC A n c + (if isC c (A n) = true then 1 else 0) := rfl
    have eR : rC A (n + 1) c = rC A n c + cntN (fun j => decide (roomN A (64 * n + j) = 2 ^ (c + 1))) 64 := by
      unfold rC
      rw [show 64 * (n + 1) = 64 * n + 64 by omega, cntN_add]
    have e : cntN (fun j => decide (roomN A (64 * n + j) = 2 ^ (c + 1))) 64 = cntN (fun j => decide (roomK (A n) j = 2 ^ (c + 1))) 64 := cntN_ext fun j hj => by
      unfold roomN
      rw [show (64 * n + j) / 64 = n by omega, show (64 * n + j) % 64 = j by omega]
    rw [eS, eR, e]
    by_cases hc : isC c (A n) = true
    · rw [if_pos hc, Nat.mul_add, Nat.mul_one]
      have : A n = .cls c (fullC c) := by
        have ho := h n
        cases eA : A n with
        | cls d u =>
          rw [eA] at hc ho
          have hd : d = c := by simpa [isC] using hc
          subst hd
          have hu : u = fullC d := by simpa [opK] using ho
          rw [hu]
        | _ => rw [eA] at hc; simp [isC] at hc
      rw [this, hf]
      omega
    · rw [if_neg hc, Nat.add_zero]
      omega
/-- What is bounded. -/
structure Cn (A : Nat → Kd) (N0 N2 q : Nat) : Prop where
  r0 : rC A 64 0 ≤ N0
  r2 : rC A 64 2 ≤ N2
  s0 : 32 * sC A 64 0 ≤ N0 + 32
  s2 : 8 * sC A 64 2 ≤ N2 + 8
  o : oC A 64 ≤ q
theorem Cn.more {M0 M2 r : Nat} (h : Cn A N0 N2 q) (h0 : N0 ≤ M0) (h2 : N2 ≤ M2) (hq : q ≤ r) : Cn A M0 M2 r :=
  ⟨Nat.le_trans h.r0 h0, Nat.le_trans h.r2 h2, Nat.le_trans h.s0 (by omega), Nat.le_trans h.s2 (by omega), Nat.le_trans h.o hq⟩
theorem Cn.start : Cn (emptyA 64) 0 0 1 := by
  have hr : ∀ c, rC (emptyA 64) 64 c = 0 := fun c => by
    unfold rC
    have : cntN (fun x => decide (roomN (emptyA 64) x = 2 ^ (c + 1))) (64 * 64) ≤ cntN (fun _ => false) (64 * 64) := cntN_mono fun j _ h => by
      have h0 : roomN (emptyA 64) j = 0 := by unfold roomN emptyA; split <;> rfl
      have : 2 ^ (c + 1) ≠ 0 := Nat.pos_iff_ne_zero.1 (Nat.pow_pos (by decide))
      rw [h0] at h
      simp at h
      omega
    have h2 : ∀ k, cntN (fun _ => false) k = 0 := fun k => by
      induction k with
      | zero => rfl
      | succ k ih => simp [cntN, ih]
    rw [h2] at this
    omega
  refine ⟨by rw [hr]; omega, by rw [hr]; omega, ?_, ?_, ?_⟩ <;> decide +kernel
theorem room_small (hm : m ≤ 64) : roomOfM m = 2 ^ (clOf m + 1) := by unfold roomOfM; rw [if_pos hm]
theorem rC_goes {c : Nat} (hI : Inv n A) (g : Goes n A m a A') (hc : roomOfM m ≠ 2 ^ (c + 1)) : rC A' n c ≤ rC A n c := by
  have hg := (room_goes hI g).2
  exact cntN_mono fun j _ h => by
    rw [hg j] at h
    by_cases e : j = a
    · rw [if_pos e] at h; exact absurd (of_decide_eq_true h) hc
    · rw [if_neg e] at h; exact h
theorem rC_goes1 {c : Nat} (hI : Inv n A) (g : Goes n A m a A') : rC A' n c ≤ rC A n c + 1 := by
  have hg := (room_goes hI g).2
  exact cntN_one (i := a) fun j _ e h => by
    rw [hg j, if_neg e] at h; exact h
theorem pow_inj {c d : Nat} (hc : c < 6) (hd : d < 6) (h : 2 ^ (c + 1) = 2 ^ (d + 1)) : c = d := by
  rcases c6 hc with rfl | rfl | rfl | rfl | rfl | rfl <;> rcases c6 hd with rfl | rfl | rfl | rfl | rfl | rfl <;> first | rfl | (exact absurd h (by decide))
/-- A block more of the class c, cap of which are a span. -/
theorem sC_goes {c cap M : Nat} (hf : cntN (fun i => decide (roomK (.cls c (fullC c)) i = 2 ^ (c + 1))) 64 = cap) (g : Goes n A m a A') (hr : rC A n c ≤ M) (hs : cap * sC A n c ≤ M + cap) : cap * sC A' n c ≤ M + cap := by
  cases g with
  | op s u hm hs2 e hn hl =>
    refine Nat.le_trans (Nat.mul_le_mul_left cap (cntN_mono fun j _ h => ?_)) hs
    by_cases ej : j = s
    · subst ej; rw [upd_same] at h; rw [e]; exact h
    · rw [upd_ne _ _ ej] at h; exact h
  | free s hm hs2 e hl hn =>
    by_cases hc : clOf m = c
    · subst hc
      have h1 := full_cnt hf hn n
      have h2 : sC (upd A s (.cls (clOf m) 1)) n (clOf m) ≤ sC A n (clOf m) + 1 := cntN_one (i := s) fun j _ ej h => by rw [upd_ne _ _ ej] at h; exact h
      have h3 := Nat.mul_le_mul_left cap h2
      rw [Nat.mul_add, Nat.mul_one] at h3
      omega
    · refine Nat.le_trans (Nat.mul_le_mul_left cap (cntN_mono fun j _ h => ?_)) hs
      by_cases ej : j = s
      · subst ej; rw [upd_same] at h; simp [isC, hc] at h
      · rw [upd_ne _ _ ej] at h; exact h
  | row f k hm hk hfn e hl =>
    refine Nat.le_trans (Nat.mul_le_mul_left cap (cntN_mono fun j _ h => ?_)) hs
    by_cases e1 : j = f
    · simp only [if_pos e1, isC] at h; cases h
    · by_cases e2 : f < j ∧ j < f + k
      · simp only [if_neg e1, if_pos e2, isC] at h; cases h
      · simp only [if_neg e1, if_neg e2] at h; exact h
theorem oC_goes (g : Goes n A m a A') : oC A' n ≤ oC A n + (if m ≤ 2 ∨ (4 < m ∧ m ≤ 8) then 0 else (m + 63) / 64) := by
  cases g with
  | op s u hm hs2 e hn hl =>
    have : oC (upd A s (.cls (clOf m) (u ||| 2 ^ lowP u))) n ≤ oC A n := cntN_mono fun j _ h => by
      by_cases ej : j = s
      · subst ej; rw [upd_same] at h; rw [e]; exact h
      · rw [upd_ne _ _ ej] at h; exact h
    omega
  | free s hm hs2 e hl hn =>
    by_cases hc : m ≤ 2 ∨ (4 < m ∧ m ≤ 8)
    · rw [if_pos hc]
      have : oC (upd A s (.cls (clOf m) 1)) n ≤ oC A n := cntN_mono fun j _ h => by
        by_cases ej : j = s
        · subst ej
          rw [upd_same] at h
          have : clOf m = 0 ∨ clOf m = 2 := by unfold clOf; (repeat' split) <;> omega
          rcases this with e | e <;> (rw [e] at h; simp [otB] at h)
        · rw [upd_ne _ _ ej] at h; exact h
      omega
    · rw [if_neg hc]
      have : oC (upd A s (.cls (clOf m) 1)) n ≤ oC A n + 1 := cntN_one (i := s) fun j _ ej h => by rw [upd_ne _ _ ej] at h; exact h
      omega
  | row f k hm hk hfn e hl =>
    rw [if_neg (by omega)]
    have := cntN_row (f := f) (d := k) (S := fun s => otB (A s)) (T := fun s => otB (if s = f then .head k else if f < s ∧ s < f + k then .tail else A s)) (k := n) fun j _ h => by
      by_cases e1 : j = f
      · exact .inr (by omega)
      · by_cases e2 : f < j ∧ j < f + k
        · exact .inr (by omega)
        · simp only [if_neg e1, if_neg e2] at h; exact .inl h
    have h2 : oC (fun s => if s = f then .head k else if f < s ∧ s < f + k then .tail else A s) n ≤ oC A n + min (n - f) k := this
    omega
theorem Cn.goes (h : Cn A N0 N2 q) (hI : Inv 64 A) (g : Goes 64 A m a A') (hm : 0 < m) : Cn A' (N0 + (if m ≤ 2 then 1 else 0)) (N2 + (if 4 < m ∧ m ≤ 8 then 1 else 0)) (q + (if m ≤ 2 ∨ (4 < m ∧ m ≤ 8) then 0 else (m + 63) / 64)) := by
  have h1 := sC_goes full0 g h.r0 h.s0
  have h2 := sC_goes full2 g h.r2 h.s2
  have h3 := oC_goes g
  have hr0 : rC A' 64 0 ≤ N0 + (if m ≤ 2 then 1 else 0) := by
    by_cases e : m ≤ 2
    · rw [if_pos e]; have := rC_goes1 (c := 0) hI g; have := h.r0; omega
    · rw [if_neg e]
      refine Nat.le_trans (rC_goes hI g ?_) h.r0
      intro hh
      unfold roomOfM at hh
      split at hh
      · have := pow_inj (clOf_lt m) (by omega) hh
        unfold clOf at this
        (repeat' split at this) <;> omega
      · simp at hh; omega
  have hr2 : rC A' 64 2 ≤ N2 + (if 4 < m ∧ m ≤ 8 then 1 else 0) := by
    by_cases e : 4 < m ∧ m ≤ 8
    · rw [if_pos e]; have := rC_goes1 (c := 2) hI g; have := h.r2; omega
    · rw [if_neg e]
      refine Nat.le_trans (rC_goes hI g ?_) h.r2
      intro hh
      unfold roomOfM at hh
      split at hh
      · have := pow_inj (clOf_lt m) (by omega) hh
        unfold clOf at this
        (repeat' split at this) <;> omega
      · simp at hh; omega
  exact ⟨hr0, hr2, by omega, by omega, Nat.le_trans h3 (by have := h.o; omega)⟩
/-- What a span is behind a collection it was before. -/
theorem gc_cls (hI1 : Inv n A1) (hI : Inv n A) (hg : Gc n A wd held rb A1) {t c u : Nat} (e : A1 t = .cls c u) : ∃ v, A t = .cls c v := by
  obtain ⟨hc, hu, hu2⟩ := hI1.cls t c u e
  obtain ⟨j, hj⟩ := Nat.exists_testBit_of_ne_zero (Nat.pos_iff_ne_zero.1 hu)
  have hjq : j < 2 ^ (5 - c) := by
    apply Nat.lt_of_not_le
    intro hle
    have h0 : 0 < 2 ^ 2 ^ (5 - c) := Nat.pow_pos (by decide)
    have : u < 2 ^ j := Nat.lt_of_lt_of_le (show u < 2 ^ 2 ^ (5 - c) by unfold fullC at hu2; omega) (Nat.pow_le_pow_right (by decide) hle)
    rw [Nat.testBit_lt_two_pow this] at hj; cases hj
  have hp : 0 < 2 ^ (c + 1) := Nat.pow_pos (by decide)
  have ho : j * 2 ^ (c + 1) < 64 := by
    rcases c6 hc with rfl | rfl | rfl | rfl | rfl | rfl <;> simp at hjq ⊢ <;> omega
  have h1 : roomN A1 (t * 64 + j * 2 ^ (c + 1)) = 2 ^ (c + 1) := by
    unfold roomN
    rw [show (t * 64 + j * 2 ^ (c + 1)) / 64 = t by omega, show (t * 64 + j * 2 ^ (c + 1)) % 64 = j * 2 ^ (c + 1) by omega, e]
    simp only [roomK]
    rw [Nat.mul_mod_left, Nat.mul_div_cancel _ hp, hj, if_pos ⟨rfl, rfl⟩]
  have h2 := hg.room (t * 64 + j * 2 ^ (c + 1))
  rw [h1] at h2
  split at h2
  · unfold roomN at h2
    rw [show (t * 64 + j * 2 ^ (c + 1)) / 64 = t by omega, show (t * 64 + j * 2 ^ (c + 1)) % 64 = j * 2 ^ (c + 1) by omega] at h2
    have h64 := room_le hc
    cases eA : A t with
    | free => rw [eA] at h2; simp only [roomK] at h2; omega
    | tail => rw [eA] at h2; simp only [roomK] at h2; omega
    | cls d v =>
      rw [eA] at h2
      simp only [roomK] at h2
      split at h2
      · exact ⟨v, by rw [pow_inj hc (hI.cls t d v eA).1 h2]⟩
      · omega
    | head k =>
      rw [eA] at h2
      simp only [roomK] at h2
      have := (hI.head t k eA).1
      split at h2 <;> omega
  · omega
theorem gc_head (hI1 : Inv n A1) (hI : Inv n A) (hg : Gc n A wd held rb A1) {t k : Nat} (e : A1 t = .head k) : A t = .head k := by
  have hk := (hI1.head t k e).1
  have h1 : roomN A1 (t * 64) = 64 * k := by
    unfold roomN
    rw [show t * 64 / 64 = t by omega, show t * 64 % 64 = 0 by omega, e]
    simp [roomK]
  have h2 := hg.room (t * 64)
  rw [h1] at h2
  split at h2
  · unfold roomN at h2
    rw [show t * 64 / 64 = t by omega, show t * 64 % 64 = 0 by omega] at h2
    cases eA : A t with
    | free => rw [eA] at h2; simp only [roomK] at h2; omega
    | tail => rw [eA] at h2; simp only [roomK] at h2; omega
    | cls d v =>
      rw [eA] at h2
      simp only [roomK] at h2
      have := room_le (hI.cls t d v eA).1
      split at h2 <;> omega
    | head j =>
      rw [eA] at h2
      simp only [roomK] at h2
      rw [if_pos trivial] at h2
      rw [show k = j by omega]
  · omega
theorem gc_tail (hI1 : Inv n A1) (hI : Inv n A) (hg : Gc n A wd held rb A1) {t : Nat} (e : A1 t = .tail) : A t = .tail := by
  by_cases h0 : t = 0
  · rw [h0]; exact hI.zero
  · by_cases hn : n ≤ t
    · exact hI.past t hn
    · obtain ⟨h, k, e1, h1, h2⟩ := hI1.tail t (by omega) (by omega) e
      exact (hI.head h k (gc_head hI1 hI hg e1)).2.2.2 t h1 h2
theorem Cn.gc (h : Cn A N0 N2 q) (hI : Inv 64 A) (hg : Gc 64 A wd held rb A1) : Cn A1 N0 N2 q := by
  have hr : ∀ c, rC A1 64 c ≤ rC A 64 c := fun c => cntN_mono fun j _ hj => by
    have : 2 ^ (c + 1) ≠ 0 := Nat.pos_iff_ne_zero.1 (Nat.pow_pos (by decide))
    have hj' := of_decide_eq_true hj
    rw [hg.room j] at hj'
    split at hj'
    · exact decide_eq_true hj'
    · omega
  have hs : ∀ c, sC A1 64 c ≤ sC A 64 c := fun c => cntN_mono fun j _ hj => by
    cases e : A1 j with
    | cls d u =>
      obtain ⟨v, hv⟩ := gc_cls hg.inv hI hg e
      rw [e] at hj
      rw [hv]
      exact hj
    | _ => rw [e] at hj; simp [isC] at hj
  have ho : oC A1 64 ≤ oC A 64 := cntN_mono fun j _ hj => by
    cases e : A1 j with
    | cls d u =>
      obtain ⟨v, hv⟩ := gc_cls hg.inv hI hg e
      rw [e] at hj
      rw [hv]
      exact hj
    | head k => rw [gc_head hg.inv hI hg e]; rfl
    | tail => rw [gc_tail hg.inv hI hg e]; rfl
    | free => rw [e] at hj; simp [otB] at hj
  have h1 := h.s0
  have h2 := h.s2
  have h3 := hs 0
  have h4 := hs 2
  exact ⟨Nat.le_trans (hr 0) h.r0, Nat.le_trans (hr 2) h.r2, by omega, by omega, Nat.le_trans ho h.o⟩
theorem Cn.place (h : Cn A N0 N2 q) (h0 : N0 ≤ 70) (h2 : N2 ≤ 70) (hq : q ≤ 12) (hm : m ≤ 128) : ¬ NoPlace 64 A m := by
  have hU : cntN (fun s => !frK (A s)) 64 ≤ sC A 64 0 + sC A 64 2 + oC A 64 := cntN_or fun j _ hj => by
    cases e : A j with
    | free => rw [e] at hj; simp [frK] at hj
    | tail => exact .inr (.inr rfl)
    | head k => exact .inr (.inr rfl)
    | cls d u =>
      by_cases e0 : d = 0
      · exact .inl (by simp [isC, e0])
      · by_cases e2 : d = 2
        · exact .inr (.inl (by simp [isC, e2]))
        · exact .inr (.inr (by simp [otB, e0, e2]))
  have hs0 := h.s0
  have hs2 := h.s2
  have ho := h.o
  have nf : ∀ t, A t ≠ .free → (!frK (A t)) = true := fun t ht => by
    cases e : A t with
    | free => exact absurd e ht
    | _ => rfl
  rintro (⟨_, _, h3⟩ | ⟨h3, h4⟩)
  · have := (cntN_full (fun s => !frK (A s)) (k := 64)).2 fun j _ => nf j (h3 j)
    omega
  · have hk : (m + 63) / 64 = 2 := by omega
    rw [hk] at h4
    have := cntN_two (U := fun s => !frK (A s)) (n := 64) (fun g hg => by
      obtain ⟨t, t1, t2, t3⟩ := h4 g hg
      exact ⟨t, t1, t2, nf t t3⟩) 32 (by omega)
    rw [show 2 * 32 = 64 from rfl] at this
    omega
end Go.Proofs.YtkclpbbpcicpiaaDoor
