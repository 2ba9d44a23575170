/- The heap, plainly: what each span is; where a block goes; what is freed. -/
import Derived.Test.YtogjblikljggbaaDoorGv4
namespace Go.Proofs.YtogjblikljggbaaDoor
open Go.RowKit Go.Proofs.YtogjblikljggbaaDoor.Hp
/-- A span: free; part of a block that begins further ahead (or none of the heap's); with places of a class, those of u taken; the first of k that are one block. -/
inductive Kd where
  | free
  | tail
  | cls (c u : Nat)
  | head (k : Nat)
def rmK : Kd → Nat | .cls c _ => 2 ^ (c + 1) | .head k => 64 * k | _ => 0
def usK : Kd → Nat | .cls _ u => u | .head _ => 1 | _ => 0
def frK : Kd → Bool | .free => true | _ => false
def fullC (c : Nat) : Nat := 2 ^ 2 ^ (5 - c) - 1
def opK (c : Nat) : Kd → Bool | .cls d u => decide (d = c) && decide (u ≠ fullC d) | _ => false
def hrOf (A : Nat → Kd) (wd : Nat → Int) : HR := ⟨fun s => rmK (A s), fun s => usK (A s), fun s => frK (A s), fun c s => opK c (A s), wd⟩
structure Inv (n : Nat) (A : Nat → Kd) : Prop where
  zero : A 0 = .tail
  past : ∀ s, n ≤ s → A s = .tail
  cls : ∀ s c u, A s = .cls c u → c < 6 ∧ 0 < u ∧ u ≤ fullC c
  head : ∀ s k, A s = .head k → 2 ≤ k ∧ k ≤ 257 ∧ s + k ≤ n ∧ ∀ t, s < t → t < s + k → A t = .tail
  tail : ∀ s, 1 ≤ s → s < n → A s = .tail → ∃ h k, A h = .head k ∧ h < s ∧ s < h + k
theorem c6 {c : Nat} (h : c < 6) : c = 0 ∨ c = 1 ∨ c = 2 ∨ c = 3 ∨ c = 4 ∨ c = 5 := by omega
theorem fullC_lt {c : Nat} (h : c < 6) : fullC c < 4294967296 := by rcases c6 h with rfl | rfl | rfl | rfl | rfl | rfl <;> decide
theorem places {c : Nat} (h : c < 6) : 64 / 2 ^ (c + 1) = 2 ^ (5 - c) := by rcases c6 h with rfl | rfl | rfl | rfl | rfl | rfl <;> rfl
theorem places_le {c : Nat} (h : c < 6) : 2 ^ (5 - c) ≤ 32 := by rcases c6 h with rfl | rfl | rfl | rfl | rfl | rfl <;> decide
theorem room_le {c : Nat} (h : c < 6) : 2 ^ (c + 1) ≤ 64 := by rcases c6 h with rfl | rfl | rfl | rfl | rfl | rfl <;> decide
theorem ones_iff {q v : Nat} (h : v < 2 ^ q) : v = 2 ^ q - 1 ↔ ∀ j, j < q → v.testBit j = true := by
  constructor
  · rintro rfl j hj
    rw [Nat.testBit_two_pow_sub_one, decide_eq_true hj]
  · intro hb
    apply Nat.eq_of_testBit_eq
    intro j
    rw [Nat.testBit_two_pow_sub_one]
    by_cases hj : j < q
    · rw [hb j hj, decide_eq_true hj]
    · rw [Nat.testBit_lt_two_pow (Nat.lt_of_lt_of_le h (Nat.pow_le_pow_right (by decide) (by omega))), decide_eq_false hj]
theorem full_iff {c v : Nat} (hc : c < 6) (hv : v ≤ fullC c) : pop v 32 = 64 / 2 ^ (c + 1) ↔ v = fullC c := by
  have hl : v < 2 ^ 2 ^ (5 - c) := by
    have : 0 < 2 ^ 2 ^ (5 - c) := Nat.pow_pos (by decide)
    unfold fullC at hv; omega
  have hq := places_le hc
  rw [places hc, fullC, ones_iff hl, show 32 = 2 ^ (5 - c) + (32 - 2 ^ (5 - c)) by omega, pop_small _ _ _ hl]
  exact cntN_full _
/-- The lowest place that is free. -/
def lowP (u : Nat) : Nat := Lib.ctz 32 (4294967295 - u)
theorem lowP_spec {u : Nat} (hu : u < 4294967295) : u.testBit (lowP u) = false ∧ (∀ j, j < lowP u → u.testBit j = true) ∧ lowP u < 32 := by
  have h0 : 4294967295 - u ≠ 0 := by omega
  have hl : 4294967295 - u < 2 ^ 32 := by omega
  have hs := ctz_spec h0 hl
  have hlt := ctz_lt h0 hl
  have hb : ∀ j, (4294967295 - u).testBit j = (decide (j < 32) && !u.testBit j) := fun j => by
    rw [show 4294967295 - u = 2 ^ 32 - (u + 1) by omega, Nat.testBit_two_pow_sub_succ (by omega)]
  unfold lowP
  refine ⟨?_, fun j hj => ?_, hlt⟩
  · have := hs.1
    rw [hb, decide_eq_true hlt] at this
    simpa using this
  · have := hs.2 j hj
    rw [hb, decide_eq_true (by omega)] at this
    simpa using this
theorem lowP_lt {c u : Nat} (hc : c < 6) (hu : u ≤ fullC c) (hn : u ≠ fullC c) : u < 4294967295 ∧ lowP u < 2 ^ (5 - c) := by
  have h1 := fullC_lt hc
  have hu1 : u < 4294967295 := by omega
  refine ⟨hu1, Nat.lt_of_not_le fun hle => hn ?_⟩
  have hl : u < 2 ^ 2 ^ (5 - c) := by
    have : 0 < 2 ^ 2 ^ (5 - c) := Nat.pow_pos (by decide)
    unfold fullC at hu; omega
  exact (ones_iff hl).2 fun j hj => (lowP_spec hu1).2.1 j (by omega)
theorem or_le {c u : Nat} (hu : u ≤ fullC c) (hp : lowP u < 2 ^ (5 - c)) : u ||| 2 ^ lowP u ≤ fullC c ∧ 0 < u ||| 2 ^ lowP u := by
  have h0 : 0 < 2 ^ 2 ^ (5 - c) := Nat.pow_pos (by decide)
  have : u ||| 2 ^ lowP u < 2 ^ 2 ^ (5 - c) := Nat.or_lt_two_pow (by unfold fullC at hu; omega) (Nat.pow_lt_pow_right (by decide) hp)
  refine ⟨by unfold fullC; omega, Nat.pos_of_ne_zero fun h => ?_⟩
  have h1 : (u ||| 2 ^ lowP u).testBit (lowP u) = true := by rw [Nat.testBit_or, Nat.testBit_two_pow]; simp
  rw [h] at h1; simp at h1
/-- The room of the block that begins at offset o of a span. -/
def roomK : Kd → Nat → Nat
  | .cls c u, o => if o % 2 ^ (c + 1) = 0 ∧ u.testBit (o / 2 ^ (c + 1)) = true then 2 ^ (c + 1) else 0
  | .head k, o => if o = 0 then 64 * k else 0
  | _, _ => 0
/-- The room of the block at an address. -/
def roomN (A : Nat → Kd) (x : Nat) : Nat := roomK (A (x / 64)) (x % 64)
def roomI (A : Nat → Kd) (a : Int) : Nat := if 0 ≤ a then roomN A a.toNat else 0
theorem roomS_K {n : Nat} {A : Nat → Kd} (h : Inv n A) (s o : Nat) (ho : o < 64) : roomS (rmK (A s)) (usK (A s)) o = roomK (A s) o := by
  cases e : A s with
  | free => rfl
  | tail => rfl
  | cls c u =>
    have : 2 ^ (c + 1) ≠ 0 := Nat.pos_iff_ne_zero.1 (Nat.pow_pos (by decide))
    show roomS (2 ^ (c + 1)) u o = (if o % 2 ^ (c + 1) = 0 ∧ u.testBit (o / 2 ^ (c + 1)) = true then 2 ^ (c + 1) else 0)
    unfold roomS
    rw [if_neg this]
  | head k =>
    have := (h.head s k e).1
    show roomS (64 * k) 1 o = (if o = 0 then 64 * k else 0)
    unfold roomS
    rw [if_neg (by omega)]
    by_cases h0 : o = 0
    · subst h0; simp
    · rw [if_neg (fun x => h0 (by rw [Nat.mod_eq_of_lt (by omega)] at x; exact x.1)), if_neg h0]
theorem roomR_I {n : Nat} {A : Nat → Kd} (wd : Nat → Int) (h : Inv n A) (a : Int) : roomR n (hrOf A wd) a = roomI A a := by
  unfold roomR roomI
  by_cases h0 : 0 ≤ a
  · rw [if_pos h0]
    by_cases h1 : a < 64 * n
    · rw [if_pos ⟨h0, h1⟩]
      exact roomS_K h _ _ (by omega)
    · rw [if_neg (fun x => h1 x.2)]
      unfold roomN
      rw [h.past _ (by omega)]
      rfl
  · rw [if_neg h0, if_neg (fun x => h0 x.1)]
theorem fine_of {n : Nat} {A : Nat → Kd} (wd : Nat → Int) (h : Inv n A) : Fine n (hrOf A wd) := by
  intro s _
  show rmK (A s) ≠ 1 ∧ rmK (A s) ≤ 20000 ∧ usK (A s) < 4294967296
  cases e : A s with
  | free => simp [rmK, usK]
  | tail => simp [rmK, usK]
  | cls c u =>
    obtain ⟨h1, h2, h3⟩ := h.cls s c u e
    have := room_le h1
    have := fullC_lt h1
    have : 2 ^ (c + 1) = 2 * 2 ^ c := by rw [Nat.pow_succ, Nat.mul_comm]
    simp only [rmK, usK]
    omega
  | head k =>
    have := h.head s k e
    simp only [rmK, usK]
    omega
theorem cls_off {c u o : Nat} (hc : c < 6) (ho : o < 64) (h : roomK (.cls c u) o ≠ 0) : o % 2 ^ (c + 1) = 0 ∧ u.testBit (o / 2 ^ (c + 1)) = true ∧ roomK (.cls c u) o = 2 ^ (c + 1) ∧ o + 2 ^ (c + 1) ≤ 64 := by
  simp only [roomK] at h ⊢
  by_cases h1 : o % 2 ^ (c + 1) = 0 ∧ u.testBit (o / 2 ^ (c + 1)) = true
  · rw [if_pos h1]
    refine ⟨h1.1, h1.2, rfl, ?_⟩
    have := h1.1
    clear h h1
    rcases c6 hc with rfl | rfl | rfl | rfl | rfl | rfl <;> simp at this ⊢ <;> omega
  · rw [if_neg h1] at h; exact absurd rfl h
/-- A block's room lies within the heap, behind span 0; even addresses. -/
theorem room_in {n : Nat} {A : Nat → Kd} (h : Inv n A) {x : Nat} (hx : roomN A x ≠ 0) : 64 ≤ x ∧ x + roomN A x ≤ 64 * n ∧ x % 2 = 0 := by
  unfold roomN at *
  have hs : 1 ≤ x / 64 := by
    apply Nat.pos_of_ne_zero
    intro e
    rw [e, h.zero] at hx
    exact hx rfl
  have hn : x / 64 < n := by
    apply Nat.lt_of_not_le
    intro e
    rw [h.past _ e] at hx
    exact hx rfl
  cases e : A (x / 64) with
  | free => rw [e] at hx; exact absurd rfl hx
  | tail => rw [e] at hx; exact absurd rfl hx
  | cls c u =>
    rw [e] at hx
    obtain ⟨h1, _, _⟩ := h.cls _ c u e
    obtain ⟨h2, _, h4, h5⟩ := cls_off h1 (by omega) hx
    rw [h4]
    have h6 : x % 64 % 2 = 0 := by
      rw [Nat.pow_succ] at h2
      have := Nat.mod_mul_left_mod (x % 64) (2 ^ c) 2
      omega
    omega
  | head k =>
    rw [e] at hx
    have h1 := h.head _ k e
    simp only [roomK] at hx ⊢
    by_cases h0 : x % 64 = 0
    · rw [if_pos h0]; omega
    · rw [if_neg h0] at hx; exact absurd rfl hx
theorem fits_of {n : Nat} {A : Nat → Kd} (wd : Nat → Int) (h : Inv n A) : Fits n (hrOf A wd) := by
  intro a ha
  rw [roomR_I wd h] at ha ⊢
  unfold roomI at *
  by_cases h0 : 0 ≤ a
  · rw [if_pos h0] at ha ⊢
    have := room_in h ha
    omega
  · rw [if_neg h0] at ha; exact absurd rfl ha
/-- Two blocks don't overlap. -/
theorem apart {n : Nat} {A : Nat → Kd} (h : Inv n A) {x y : Nat} (hxy : x < y) (hx : roomN A x ≠ 0) (hy : roomN A y ≠ 0) : x + roomN A x ≤ y := by
  unfold roomN at *
  cases e : A (x / 64) with
  | free => rw [e] at hx; exact absurd rfl hx
  | tail => rw [e] at hx; exact absurd rfl hx
  | cls c u =>
    rw [e] at hx
    obtain ⟨h1, _, _⟩ := h.cls _ c u e
    obtain ⟨h2, _, h4, h5⟩ := cls_off h1 (by omega) hx
    rw [h4]
    by_cases hs : y / 64 = x / 64
    · rw [hs, e] at hy
      obtain ⟨g2, _, _, _⟩ := cls_off h1 (by omega) hy
      clear hx hy h4 h5
      rcases c6 h1 with rfl | rfl | rfl | rfl | rfl | rfl <;> simp at h2 g2 ⊢ <;> omega
    · omega
  | head k =>
    rw [e] at hx
    have h1 := h.head _ k e
    simp only [roomK] at hx ⊢
    by_cases h0 : x % 64 = 0
    · rw [if_pos h0]
      by_cases hs : y / 64 = x / 64
      · rw [hs, e] at hy
        simp only [roomK] at hy
        by_cases g0 : y % 64 = 0
        · omega
        · rw [if_neg g0] at hy; exact absurd rfl hy
      · by_cases ht : y / 64 < x / 64 + k
        · rw [h1.2.2.2 _ (by omega) ht] at hy; exact absurd rfl hy
        · omega
    · rw [if_neg h0] at hx; exact absurd rfl hx
/-- Where a block goes. -/
inductive Goes (n : Nat) (A : Nat → Kd) (m : Nat) : Nat → (Nat → Kd) → Prop
  | op (s u : Nat) (hm : m ≤ 64) (hs : s < n) (e : A s = .cls (clOf m) u) (hn : u ≠ fullC (clOf m)) (hl : ∀ t, t < s → opK (clOf m) (A t) = false) : Goes n A m (s * 64 + lowP u * 2 ^ (clOf m + 1)) (upd A s (.cls (clOf m) (u ||| 2 ^ lowP u)))
  | free (s : Nat) (hm : m ≤ 64) (hs : s < n) (e : A s = .free) (hl : ∀ t, t < s → A t ≠ .free) (hn : ∀ t, opK (clOf m) (A t) = false) : Goes n A m (s * 64) (upd A s (.cls (clOf m) 1))
  | row (f k : Nat) (hm : 64 < m) (hk : k = (m + 63) / 64) (hf : f + k ≤ n) (e : ∀ t, f ≤ t → t < f + k → A t = .free) (hl : ∀ g, g < f → ∃ t, g ≤ t ∧ t < g + k ∧ A t ≠ .free) : Goes n A m (f * 64) (fun s => if s = f then .head k else if f < s ∧ s < f + k then .tail else A s)
/-- There is no place. -/
def NoPlace (n : Nat) (A : Nat → Kd) (m : Nat) : Prop :=
  (m ≤ 64 ∧ (∀ t, opK (clOf m) (A t) = false) ∧ ∀ t, A t ≠ .free) ∨ (64 < m ∧ ∀ g, g + (m + 63) / 64 ≤ n → ∃ t, g ≤ t ∧ t < g + (m + 63) / 64 ∧ A t ≠ .free)
def roomOfM (m : Nat) : Nat := if m ≤ 64 then 2 ^ (clOf m + 1) else 64 * ((m + 63) / 64)
theorem roomOfM_ge (m : Nat) : m ≤ roomOfM m := by
  unfold roomOfM
  split
  · rename_i h
    exact Nat.le_of_not_lt fun hh => absurd ((clOf_iff m _ h (clOf_lt m)).1 hh) (by omega)
  · omega
theorem free_pos {n : Nat} {A : Nat → Kd} (h : Inv n A) {s : Nat} (e : A s = .free) : 1 ≤ s ∧ s < n := by
  constructor
  · apply Nat.pos_of_ne_zero
    rintro rfl
    rw [h.zero] at e; cases e
  · apply Nat.lt_of_not_le
    intro hle
    rw [h.past _ hle] at e; cases e
theorem one_le_full {c : Nat} (hc : c < 6) : 1 ≤ fullC c := by rcases c6 hc with rfl | rfl | rfl | rfl | rfl | rfl <;> decide
theorem Inv.cls_upd {n : Nat} {A : Nat → Kd} (h : Inv n A) {s c u : Nat} (e : A s = .free ∨ ∃ d v, A s = .cls d v) (hc : c < 6) (hu : 0 < u) (hu2 : u ≤ fullC c) : Inv n (upd A s (.cls c u)) := by
  have hne : A s ≠ .tail := by rcases e with e | ⟨d, v, e⟩ <;> rw [e] <;> simp
  refine ⟨?_, fun t ht => ?_, fun t d v hd => ?_, fun t k hd => ?_, fun t h1 h2 ht => ?_⟩
  · rw [upd_ne _ _ (fun e0 : 0 = s => hne (e0 ▸ h.zero))]; exact h.zero
  · rw [upd_ne _ _ (fun e0 : t = s => hne (e0 ▸ h.past t ht))]; exact h.past t ht
  · by_cases e0 : t = s
    · subst e0; rw [upd_same] at hd; cases hd; exact ⟨hc, hu, hu2⟩
    · rw [upd_ne _ _ e0] at hd; exact h.cls t d v hd
  · by_cases e0 : t = s
    · subst e0; rw [upd_same] at hd; cases hd
    · rw [upd_ne _ _ e0] at hd
      obtain ⟨a1, a2, a3, a4⟩ := h.head t k hd
      refine ⟨a1, a2, a3, fun x hx1 hx2 => ?_⟩
      rw [upd_ne _ _ (fun e1 : x = s => hne (e1 ▸ a4 x hx1 hx2))]
      exact a4 x hx1 hx2
  · by_cases e0 : t = s
    · subst e0; rw [upd_same] at ht; cases ht
    · rw [upd_ne _ _ e0] at ht
      obtain ⟨x, k, b1, b2, b3⟩ := h.tail t h1 h2 ht
      refine ⟨x, k, ?_, b2, b3⟩
      rw [upd_ne _ _ ?_]
      · exact b1
      · rintro rfl
        rcases e with e | ⟨d, v, e⟩ <;> rw [e] at b1 <;> cases b1
theorem Goes.inv {n : Nat} {A A' : Nat → Kd} {m a : Nat} (h : Inv n A) (hm : m ≤ 16448) (g : Goes n A m a A') : Inv n A' := by
  cases g with
  | op s u hm hs e hn hl =>
    obtain ⟨h1, h2, h3⟩ := h.cls _ _ _ e
    have := or_le h3 (lowP_lt h1 h3 hn).2
    exact h.cls_upd (.inr ⟨_, _, e⟩) h1 this.2 this.1
  | free s hm hs e hl hn => exact h.cls_upd (.inl e) (clOf_lt m) (by omega) (one_le_full (clOf_lt m))
  | row f k hm hk hf e hl =>
    have hf1 := (free_pos h (e f (Nat.le_refl _) (by omega))).1
    refine ⟨?_, fun t ht => ?_, fun t d v hd => ?_, fun t j hd => ?_, fun t h1 h2 ht => ?_⟩
    · rw [if_neg (by omega), if_neg (by omega)]; exact h.zero
    · rw [if_neg (by omega), if_neg (by omega)]; exact h.past t ht
    · by_cases e0 : t = f
      · rw [if_pos e0] at hd; cases hd
      · rw [if_neg e0] at hd
        by_cases e1 : f < t ∧ t < f + k
        · rw [if_pos e1] at hd; cases hd
        · rw [if_neg e1] at hd; exact h.cls t d v hd
    · by_cases e0 : t = f
      · rw [if_pos e0] at hd; cases hd; subst e0
        refine ⟨by omega, by omega, hf, fun x hx1 hx2 => ?_⟩
        rw [if_neg (by omega), if_pos ⟨hx1, hx2⟩]
      · rw [if_neg e0] at hd
        by_cases e1 : f < t ∧ t < f + k
        · rw [if_pos e1] at hd; cases hd
        · rw [if_neg e1] at hd
          obtain ⟨a1, a2, a3, a4⟩ := h.head t j hd
          refine ⟨a1, a2, a3, fun x hx1 hx2 => ?_⟩
          have hxt := a4 x hx1 hx2
          have : ¬ (f ≤ x ∧ x < f + k) := fun y => by rw [e x y.1 y.2] at hxt; cases hxt
          rw [if_neg (by omega), if_neg (by omega)]; exact hxt
    · by_cases e0 : t = f
      · rw [if_pos e0] at ht; cases ht
      · rw [if_neg e0] at ht
        by_cases e1 : f < t ∧ t < f + k
        · exact ⟨f, k, if_pos rfl, e1.1, e1.2⟩
        · rw [if_neg e1] at ht
          obtain ⟨x, j, b1, b2, b3⟩ := h.tail t h1 h2 ht
          have : ¬ (f ≤ x ∧ x < f + k) := fun y => by rw [e x y.1 y.2] at b1; cases b1
          refine ⟨x, j, ?_, b2, b3⟩
          show (if x = f then Kd.head k else if f < x ∧ x < f + k then Kd.tail else A x) = _
          rw [if_neg (by omega), if_neg (by omega)]; exact b1
end Go.Proofs.YtogjblikljggbaaDoor
