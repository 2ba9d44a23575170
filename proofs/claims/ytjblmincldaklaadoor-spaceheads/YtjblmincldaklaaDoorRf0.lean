/- The document's heap: a list of blocks; how it stands to the spans. -/
import Derived.Test.YtjblmincldaklaaDoorWd1
import Derived.Deep.AppendLies
namespace Go.Proofs.YtjblmincldaklaaDoor
open Go.RowKit Go.Proofs.YtjblmincldaklaaDoor.Hp
/-- A block of the list: where it begins, its room, the memory block of its words. -/
structure Rb where
  at_ : Nat
  room : Nat
  gw : Nat
def rbCells (b : Rb) : List Value := [.int .i64 b.at_, .int .i64 b.room, .slice (some ⟨b.gw, 0, none⟩) b.room b.room]
def rbAll (L : List Rb) : List Value := L.flatMap rbCells
theorem rbAll_len (L : List Rb) : (rbAll L).length = L.length * 3 := by
  induction L with
  | nil => rfl
  | cons b L ih => simp [rbAll, rbCells] at ih ⊢; omega
theorem rbAll_get : ∀ (L : List Rb) (i j : Nat) (b : Rb), L[i]? = some b → j < 3 → (rbAll L)[i * 3 + j]? = (rbCells b)[j]?
  | [], i, j, b, h, _ => by simp at h
  | c :: L, 0, j, b, h, hj => by
    simp at h; subst h
    show (rbCells c ++ rbAll L)[0 * 3 + j]? = _
    rw [Nat.zero_mul, Nat.zero_add, List.getElem?_append_left (by simp [rbCells]; omega)]
  | c :: L, i + 1, j, b, h, hj => by
    have ih := rbAll_get L i j b (by simpa using h) hj
    show (rbCells c ++ rbAll L)[(i + 1) * 3 + j]? = _
    rw [List.getElem?_append_right (by simp [rbCells]; omega)]
    have : (i + 1) * 3 + j - (rbCells c).length = i * 3 + j := by simp [rbCells]; omega
    rw [this]; exact ih
/-- The list has the blocks of the spans, rising. -/
structure Match (A : Nat → Kd) (L : List Rb) : Prop where
  sorted : L.Pairwise (fun a b => a.at_ < b.at_)
  room : ∀ b ∈ L, roomN A b.at_ = b.room ∧ b.room ≠ 0
  all : ∀ x, roomN A x ≠ 0 → ∃ b ∈ L, b.at_ = x
def hits (b : Rb) (s : Nat) : Prop := b.at_ < 64 * s + 64 ∧ 64 * s < b.at_ + b.room
instance (b : Rb) (s : Nat) : Decidable (hits b s) := inferInstanceAs (Decidable (_ ∧ _))
def cK : Kd → Int | .free => 0 | .cls c _ => ((2 ^ (c + 1) : Nat) : Int) | _ => -1
/-- Of a block that meets a span. -/
theorem hits_span {N : Nat} {A : Nat → Kd} (h : Inv N A) {x s : Nat} (hx : roomN A x ≠ 0) (h1 : x < 64 * s + 64) (h2 : 64 * s < x + roomN A x) : x / 64 = s ∨ (x / 64 < s ∧ A s = .tail ∧ 64 < roomN A x) := by
  rcases Nat.lt_trichotomy (x / 64) s with e | e | e
  · right
    unfold roomN at hx h2 ⊢
    cases ek : A (x / 64) with
    | free => rw [ek] at hx; exact absurd rfl hx
    | tail => rw [ek] at hx; exact absurd rfl hx
    | cls c u =>
      rw [ek] at hx h2
      obtain ⟨g1, g2, g3, g4⟩ := cls_off (h.cls _ _ _ ek).1 (by omega) hx
      rw [g3] at h2
      omega
    | head k =>
      obtain ⟨k1, k2, k3, k4⟩ := h.head _ _ ek
      rw [ek] at hx h2
      by_cases e0 : x % 64 = 0
      · simp only [roomK, if_pos e0] at h2 ⊢
        exact ⟨e, k4 s e (by omega), by omega⟩
      · simp only [roomK, if_neg e0] at hx
        exact absurd rfl hx
  · exact .inl e
  · omega
theorem class_hit {N : Nat} {A : Nat → Kd} {L : List Rb} (h : Inv N A) (m : Match A L) {b : Rb} (hb : b ∈ L) {s : Nat} (hh : hits b s) : cK (A s) = if 64 < b.room then -1 else (b.room : Int) := by
  obtain ⟨hr, h0⟩ := m.room b hb
  have hx : roomN A b.at_ ≠ 0 := by rw [hr]; exact h0
  rcases hits_span h hx hh.1 (by rw [hr]; exact hh.2) with e | ⟨_, e, e2⟩
  · unfold roomN at hr hx
    rw [e] at hr hx
    cases ek : A s with
    | free => rw [ek] at hx; exact absurd rfl hx
    | tail => rw [ek] at hx; exact absurd rfl hx
    | cls c u =>
      rw [ek] at hx hr
      obtain ⟨g1, g2, g3, g4⟩ := cls_off (h.cls _ _ _ ek).1 (by omega) hx
      rw [g3] at hr
      rw [← hr, if_neg (by omega)]
      rfl
    | head k =>
      obtain ⟨k1, _⟩ := h.head _ _ ek
      rw [ek] at hx hr
      by_cases e0 : b.at_ % 64 = 0
      · simp only [roomK, if_pos e0] at hr
        rw [if_pos (by omega)]
        rfl
      · simp only [roomK, if_neg e0] at hx
        exact absurd rfl hx
  · rw [e, if_pos (by rw [← hr]; exact e2)]
    rfl
theorem class_none {N : Nat} {A : Nat → Kd} {L : List Rb} (h : Inv N A) (m : Match A L) {s : Nat} (h1 : 1 ≤ s) (h2 : s < N) (hn : ∀ b ∈ L, ¬ hits b s) : A s = .free := by
  have key : ∀ x, roomN A x ≠ 0 → ¬ (x < 64 * s + 64 ∧ 64 * s < x + roomN A x) := fun x hx hc => by
    obtain ⟨b, hb, e⟩ := m.all x hx
    obtain ⟨hr, _⟩ := m.room b hb
    refine hn b hb ⟨by rw [e]; exact hc.1, ?_⟩
    rw [← hr, e]; exact hc.2
  have headK : ∀ t k, A t = .head k → roomN A (t * 64) = 64 * k := fun t k e => by
    unfold roomN
    rw [show t * 64 / 64 = t by omega, show t * 64 % 64 = 0 by omega, e]
    simp [roomK]
  cases ek : A s with
  | free => rfl
  | tail =>
    obtain ⟨t, k, e, a, b⟩ := h.tail s h1 h2 ek
    have := headK t k e
    have hk := (h.head t k e).1
    exact absurd ⟨by omega, by omega⟩ (key (t * 64) (by omega))
  | head k =>
    have := headK s k ek
    have hk := (h.head s k ek).1
    exact absurd ⟨by omega, by omega⟩ (key (s * 64) (by omega))
  | cls c u =>
    obtain ⟨hc, hu, hu2⟩ := h.cls s c u ek
    obtain ⟨j, hj⟩ := Nat.exists_testBit_of_ne_zero (Nat.pos_iff_ne_zero.1 hu)
    have hjq : j < 2 ^ (5 - c) := by
      apply Nat.lt_of_not_le
      intro hle
      have h0 : 0 < 2 ^ 2 ^ (5 - c) := Nat.pow_pos (by decide)
      have : u < 2 ^ j := Nat.lt_of_lt_of_le (show u < 2 ^ 2 ^ (5 - c) by unfold fullC at hu2; omega) (Nat.pow_le_pow_right (by decide) hle)
      rw [Nat.testBit_lt_two_pow this] at hj; cases hj
    have hp : 0 < 2 ^ (c + 1) := Nat.pow_pos (by decide)
    have ho : j * 2 ^ (c + 1) < 64 := by
      rcases c6 hc with rfl | rfl | rfl | rfl | rfl | rfl <;> simp at hjq ⊢ <;> omega
    have hr : roomN A (s * 64 + j * 2 ^ (c + 1)) = 2 ^ (c + 1) := by
      unfold roomN
      rw [show (s * 64 + j * 2 ^ (c + 1)) / 64 = s by omega, show (s * 64 + j * 2 ^ (c + 1)) % 64 = j * 2 ^ (c + 1) by omega, ek]
      simp only [roomK]
      rw [Nat.mul_mod_left, Nat.mul_div_cancel _ hp, hj, if_pos ⟨rfl, rfl⟩]
    exact absurd ⟨by omega, by rw [hr]; omega⟩ (key _ (by rw [hr]; omega))
theorem cK_zero {A : Nat → Kd} (s : Nat) : cK (A s) = 0 ↔ A s = .free := by
  cases e : A s with
  | free => simp [cK]
  | tail => simp [cK]
  | head k => simp [cK]
  | cls c u =>
    have hp : 0 < 2 ^ (c + 1) := Nat.pow_pos (by decide)
    simp only [cK]
    constructor
    · intro h; omega
    · intro h; cases h
end Go.Proofs.YtjblmincldaklaaDoor
