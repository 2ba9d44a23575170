/- What HeapReuses asks, plainly. -/
import Derived.Test.YtogjblikljggbaaDoorAn
namespace Go.Proofs.YtogjblikljggbaaDoor
open Go.RowKit Go.Proofs.YtogjblikljggbaaDoor.Hp
theorem fill_empty (n c : Nat) : fillA n c 0 = emptyA n := by
  funext s
  unfold fillA emptyA
  split
  · rw [if_pos (by simp [takenQ])]
  · rfl
theorem fill_inv {n m : Nat} (hm : m ≤ 64) : ∀ k, k ≤ 2 ^ (5 - clOf m) * (n - 1) → Inv n (fillA n (clOf m) k)
  | 0, _ => by rw [fill_empty]; exact emptyA_inv n
  | k + 1, hk => (fill_goes (n := n) hm (by omega)).inv (fill_inv hm k (by omega)) (by omega)
theorem fill_rooms {n m : Nat} (hm : m ≤ 64) : ∀ k, k ≤ 2 ^ (5 - clOf m) * (n - 1) → (∀ j, j < k → roomN (fillA n (clOf m) k) (64 + j * 2 ^ (clOf m + 1)) = 2 ^ (clOf m + 1)) ∧ ∀ x, roomN (fillA n (clOf m) k) x ≠ 0 → ∃ j, j < k ∧ x = 64 + j * 2 ^ (clOf m + 1)
  | 0, _ => by
    refine ⟨fun j hj => by omega, fun x hx => absurd ?_ hx⟩
    rw [fill_empty]
    unfold roomN emptyA
    split <;> rfl
  | k + 1, hk => by
    obtain ⟨h1, h2⟩ := fill_rooms (n := n) hm k (by omega)
    have hr := (room_goes (fill_inv (n := n) hm k (by omega)) (fill_goes (n := n) hm (by omega : k < 2 ^ (5 - clOf m) * (n - 1)))).2
    have hR : roomOfM m = 2 ^ (clOf m + 1) := by unfold roomOfM; rw [if_pos hm]
    rw [hR] at hr
    have hp : 0 < 2 ^ (clOf m + 1) := Nat.pow_pos (by decide)
    refine ⟨fun j hj => ?_, fun x hx => ?_⟩
    · rw [hr]
      by_cases e : j = k
      · subst e; rw [if_pos rfl]
      · rw [if_neg, h1 j (by omega)]
        intro h
        have := Nat.eq_of_mul_eq_mul_right hp (by omega : j * 2 ^ (clOf m + 1) = k * 2 ^ (clOf m + 1))
        exact e this
    · rw [hr] at hx
      by_cases e : x = 64 + k * 2 ^ (clOf m + 1)
      · exact ⟨k, by omega, e⟩
      · rw [if_neg e] at hx
        obtain ⟨j, hj, e⟩ := h2 x hx
        exact ⟨j, by omega, e⟩
/-- Where no block is, every span is free. -/
theorem all_free {n : Nat} {A : Nat → Kd} (h : Inv n A) (hz : ∀ x, roomN A x = 0) : ∀ t, 1 ≤ t → t < n → A t = .free := by
  have hh : ∀ s k, A s ≠ .head k := fun s k e => by
    have h1 := hz (s * 64)
    have h2 := (h.head s k e).1
    unfold roomN at h1
    rw [show s * 64 / 64 = s by omega, show s * 64 % 64 = 0 by omega, e] at h1
    simp [roomK] at h1
    omega
  intro t h1 h2
  cases e : A t with
  | free => rfl
  | tail =>
    obtain ⟨x, k, e1, _⟩ := h.tail t h1 h2 e
    exact absurd e1 (hh x k)
  | head k => exact absurd e (hh t k)
  | cls c u =>
    obtain ⟨hc, hu, hu2⟩ := h.cls t c u e
    obtain ⟨j, hj⟩ := Nat.exists_testBit_of_ne_zero (Nat.pos_iff_ne_zero.1 hu)
    have hjq : j < 2 ^ (5 - c) := by
      apply Nat.lt_of_not_le
      intro hle
      have h0 : 0 < 2 ^ 2 ^ (5 - c) := Nat.pow_pos (by decide)
      have : u < 2 ^ j := Nat.lt_of_lt_of_le (show u < 2 ^ 2 ^ (5 - c) by unfold fullC at hu2; omega) (Nat.pow_le_pow_right (by decide) hle)
      rw [Nat.testBit_lt_two_pow this] at hj; cases hj
    have hp : 0 < 2 ^ (c + 1) := Nat.pow_pos (by decide)
    have ho : j * 2 ^ (c + 1) < 64 := by
      rcases c6 hc with rfl | rfl | rfl | rfl | rfl | rfl <;> simp at hjq ⊢ <;> omega
    have h3 := hz (t * 64 + j * 2 ^ (c + 1))
    unfold roomN at h3
    rw [show (t * 64 + j * 2 ^ (c + 1)) / 64 = t by omega, show (t * 64 + j * 2 ^ (c + 1)) % 64 = j * 2 ^ (c + 1) by omega, e] at h3
    simp only [roomK] at h3
    rw [Nat.mul_mod_left, Nat.mul_div_cancel _ hp, hj, if_pos ⟨rfl, rfl⟩] at h3
    omega
theorem free_stays {A : Nat → Kd} {x t : Nat} (h : A t = .free) : freeA A x t = .free := by
  cases e : A (x / 64) with
  | free => unfold freeA; rw [e]; exact h
  | tail => unfold freeA; rw [e]; exact h
  | cls c u =>
    rw [freeA_cls e]
    split
    · unfold upd; split <;> first | rfl | exact h
    · rw [upd_ne _ _ (fun e1 => by subst e1; rw [e] at h; cases h)]; exact h
  | head k =>
    rw [freeA_head e]
    dsimp only
    split <;> first | rfl | exact h
/-- Of the first n places those of gone are free again. -/
structure Reu (n r : Nat) (ad : Nat → Nat) (gone : Nat → Bool) (A : Nat → Kd) : Prop where
  inv : Inv 256 A
  at_ : ∀ j, j < n → roomN A (ad j) = if gone j then 0 else r
  only : ∀ x, roomN A x ≠ 0 → ∃ j, j < n ∧ x = ad j
  sp : A 201 = .free
theorem Reu.step {n r : Nat} {ad : Nat → Nat} {gone : Nat → Bool} {A : Nat → Kd} (h : Reu n r ad gone A) (hinj : ∀ i j, ad i = ad j → i = j) {k : Nat} (hk : k < n) (hr : 0 < r) (hg : gone k = false) : roomN A (ad k) ≠ 0 ∧ Reu n r ad (upd gone k true) (freeA A (ad k)) := by
  have hz : roomN A (ad k) ≠ 0 := by rw [h.at_ k hk, hg]; simp; omega
  have hrf := room_freed h.inv hz
  refine ⟨hz, h.inv.freed hz, fun j hj => ?_, fun x hx => ?_, free_stays h.sp⟩
  · rw [hrf]
    by_cases e : j = k
    · subst e; rw [if_pos rfl, upd_same]; rfl
    · rw [if_neg (fun e1 => e (hinj _ _ e1)), upd_ne _ _ e]; exact h.at_ j hj
  · rw [hrf] at hx
    by_cases e : x = ad k
    · exact ⟨k, hk, e⟩
    · rw [if_neg e] at hx; exact h.only x hx
/-- A place is always found; if all is gone, it is the first one. -/
theorem Reu.place {n r : Nat} {ad : Nat → Nat} {gone : Nat → Bool} {A : Nat → Kd} (h : Reu n r ad gone A) {m : Nat} (hm : m ≤ 64) : ¬ NoPlace 256 A m := by
  rintro (⟨_, _, h2⟩ | ⟨h1, _⟩)
  · exact h2 201 h.sp
  · omega
theorem Reu.all {n r : Nat} {ad : Nat → Nat} {gone : Nat → Bool} {A A' : Nat → Kd} (h : Reu n r ad gone A) (hg : ∀ j, j < n → gone j = true) {m a : Nat} (hm : m ≤ 64) (g : Goes 256 A m a A') : a = 64 := by
  have hz : ∀ x, roomN A x = 0 := fun x => by
    by_cases hx : roomN A x = 0
    · exact hx
    · obtain ⟨j, hj, e⟩ := h.only x hx
      rw [e, h.at_ j hj, hg j hj] at hx
      exact absurd rfl hx
  have hf := all_free h.inv hz
  cases g with
  | op s u hm hs e hn hl =>
    by_cases h0 : s = 0
    · subst h0; rw [h.inv.zero] at e; cases e
    · rw [hf s (by omega) hs] at e; cases e
  | free s hm hs e hl hn =>
    by_cases h1 : s = 1
    · rw [h1]
    · have : s ≠ 0 := by rintro rfl; rw [h.inv.zero] at e; cases e
      exact absurd (hf 1 (by omega) (by omega)) (hl 1 (by omega))
  | row f k hm hk hf e hl => omega
theorem Reu.last {n r : Nat} {ad : Nat → Nat} {gone : Nat → Bool} {A A' : Nat → Kd} (h : Reu n r ad gone A) {m a l : Nat} (g : Goes 256 A m a A') (hl : l < n) (hg : gone l = true) : a = ad l ∨ roomN A' (ad l) = 0 := by
  by_cases e : ad l = a
  · exact .inl e.symm
  · right
    rw [(room_goes h.inv g).2, if_neg e, h.at_ l hl, hg]; rfl
theorem Reu.start {m n : Nat} {ad : Nat → Nat} (hm : m ≤ 64) (hn : n ≤ 200) (had : ∀ j, ad j = 64 + j * 2 ^ (clOf m + 1)) : Reu n (2 ^ (clOf m + 1)) ad (fun _ => false) (fillA 256 (clOf m) n) := by
  have hq : 1 ≤ 2 ^ (5 - clOf m) := Nat.pow_pos (by decide)
  have hk : n ≤ 2 ^ (5 - clOf m) * (256 - 1) := by
    have : 1 * (256 - 1) ≤ 2 ^ (5 - clOf m) * (256 - 1) := Nat.mul_le_mul_right _ hq
    omega
  obtain ⟨h1, h2⟩ := fill_rooms (n := 256) hm n hk
  refine ⟨fill_inv hm n hk, fun j hj => by rw [had, h1 j hj]; rfl, fun x hx => ?_, fill_free (by omega) (by omega)⟩
  obtain ⟨j, hj, e⟩ := h2 x hx
  exact ⟨j, hj, by rw [had]; exact e⟩
end Go.Proofs.YtogjblikljggbaaDoor
