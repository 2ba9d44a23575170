/- What HeapFills asks, plainly. -/
import Derived.Test.YtkhegceikdegbaaDoorBl
namespace Go.Proofs.YtkhegceikdegbaaDoor
open Go.RowKit Go.Proofs.YtkhegceikdegbaaDoor.Hp
/-- Of n places those of gone are free again. -/
structure Rg (N n r : Nat) (ad : Nat → Nat) (gone : Nat → Bool) (A : Nat → Kd) : Prop where
  inv : Inv N A
  at_ : ∀ j, j < n → roomN A (ad j) = if gone j then 0 else r
  only : ∀ x, roomN A x ≠ 0 → ∃ j, j < n ∧ x = ad j
theorem Rg.step {N n r : Nat} {ad : Nat → Nat} {gone : Nat → Bool} {A : Nat → Kd} (h : Rg N n r ad gone A) (hinj : ∀ i j, i < n → j < n → ad i = ad j → i = j) {k : Nat} (hk : k < n) (hr : 0 < r) (hg : gone k = false) : roomN A (ad k) ≠ 0 ∧ Rg N n r ad (upd gone k true) (freeA A (ad k)) := by
  have hz : roomN A (ad k) ≠ 0 := by rw [h.at_ k hk, hg]; simp; omega
  have hrf := room_freed h.inv hz
  refine ⟨hz, h.inv.freed hz, fun j hj => ?_, fun x hx => ?_⟩
  · rw [hrf]
    by_cases e : j = k
    · subst e; rw [if_pos rfl, upd_same]; rfl
    · rw [if_neg (fun e1 => e (hinj _ _ hj hk e1)), upd_ne _ _ e]; exact h.at_ j hj
  · rw [hrf] at hx
    by_cases e : x = ad k
    · exact ⟨k, hk, e⟩
    · rw [if_neg e] at hx; exact h.only x hx
theorem Rg.done {N n r : Nat} {ad : Nat → Nat} {gone : Nat → Bool} {A : Nat → Kd} (h : Rg N n r ad gone A) (hg : ∀ j, j < n → gone j = true) : A = emptyA N := by
  refine empty_of h.inv fun x => ?_
  by_cases hx : roomN A x = 0
  · exact hx
  · obtain ⟨j, hj, e⟩ := h.only x hx
    rw [e, h.at_ j hj, hg j hj] at hx
    exact absurd rfl hx
/-- A chain of new blocks of one size, until there is no place. -/
structure Chain (N m M : Nat) (ad : Nat → Nat) (F : Nat → Nat → Kd) : Prop where
  zero : F 0 = emptyA N
  go : ∀ k, k < M → Goes N (F k) m (ad k) (F (k + 1))
  no : NoPlace N (F M) m
theorem Chain.inv {N m M : Nat} {ad : Nat → Nat} {F : Nat → Nat → Kd} (h : Chain N m M ad F) (hm : m ≤ 16448) : ∀ k, k ≤ M → Inv N (F k)
  | 0, _ => by rw [h.zero]; exact emptyA_inv N
  | k + 1, hk => (h.go k (by omega)).inv (h.inv hm k (by omega)) hm
theorem Chain.rooms {N m M : Nat} {ad : Nat → Nat} {F : Nat → Nat → Kd} (h : Chain N m M ad F) (hm : m ≤ 16448) : ∀ k, k ≤ M → (∀ j, j < k → roomN (F k) (ad j) = roomOfM m) ∧ ∀ x, roomN (F k) x ≠ 0 → ∃ j, j < k ∧ x = ad j
  | 0, _ => by
    refine ⟨fun j hj => by omega, fun x hx => absurd ?_ hx⟩
    rw [h.zero]
    unfold roomN emptyA
    split <;> rfl
  | k + 1, hk => by
    obtain ⟨h1, h2⟩ := h.rooms hm k (by omega)
    obtain ⟨h0, hr⟩ := room_goes (h.inv hm k (by omega)) (h.go k (by omega))
    have hp := roomOfM_pos m
    refine ⟨fun j hj => ?_, fun x hx => ?_⟩
    · rw [hr]
      by_cases e : ad j = ad k
      · rw [if_pos e]
      · rw [if_neg e]
        by_cases e2 : j = k
        · exact absurd (by rw [e2]) e
        · exact h1 j (by omega)
    · rw [hr] at hx
      by_cases e : x = ad k
      · exact ⟨k, by omega, e⟩
      · rw [if_neg e] at hx
        obtain ⟨j, hj, e⟩ := h2 x hx
        exact ⟨j, by omega, e⟩
theorem Chain.inj {N m M : Nat} {ad : Nat → Nat} {F : Nat → Nat → Kd} (h : Chain N m M ad F) (hm : m ≤ 16448) : ∀ i j, i < M → j < M → ad i = ad j → i = j := by
  have key : ∀ i j, i < j → j < M → ad i ≠ ad j := fun i j hij hj e => by
    have h1 := (h.rooms hm j (by omega)).1 i hij
    have h2 := (room_goes (h.inv hm j (by omega)) (h.go j hj)).1
    rw [e, h2] at h1
    have := roomOfM_pos m
    omega
  intro i j hi hj e
  rcases Nat.lt_trichotomy i j with h | h | h
  · exact absurd e (key i j h hj)
  · exact h
  · exact absurd e.symm (key j i h hi)
theorem Chain.lt {N m M : Nat} {ad : Nat → Nat} {F : Nat → Nat → Kd} (h : Chain N m M ad F) (hm : m ≤ 16448) {k : Nat} (hk : k < M) : ad k < 64 * N := by
  have hr := (room_goes (h.inv hm k (by omega)) (h.go k hk)).2 (ad k)
  rw [if_pos rfl] at hr
  have hp := roomOfM_pos m
  have := room_in (h.inv hm (k + 1) (by omega)) (x := ad k) (by omega)
  omega
theorem Chain.rg {N m M : Nat} {ad : Nat → Nat} {F : Nat → Nat → Kd} (h : Chain N m M ad F) (hm : m ≤ 16448) : Rg N M (roomOfM m) ad (fun _ => false) (F M) :=
  ⟨h.inv hm M (Nat.le_refl _), fun j hj => by rw [(h.rooms hm M (Nat.le_refl _)).1 j hj]; rfl, (h.rooms hm M (Nat.le_refl _)).2⟩
/-- Blocks of a class. -/
theorem chain_cls {P m : Nat} (hm : m ≤ 64) : Chain (P + 1) m (2 ^ (5 - clOf m) * P) (fun j => 64 + j * 2 ^ (clOf m + 1)) (fillA (P + 1) (clOf m)) := by
  refine ⟨fill_empty _ _, fun k hk => fill_goes hm (by simpa using hk), .inl ⟨hm, fun t => ?_, fun t => ?_⟩⟩
  · unfold fillA
    by_cases h : 1 ≤ t ∧ t < P + 1
    · have hq : 2 ^ (5 - clOf m) ≠ 0 := Nat.pos_iff_ne_zero.1 (Nat.pow_pos (by decide))
      have e : takenQ (2 ^ (5 - clOf m)) (2 ^ (5 - clOf m) * P) t = 2 ^ (5 - clOf m) := by
        have := tq_low (q := 2 ^ (5 - clOf m)) (d := P) (e := 0) h.1 (by omega)
        simpa using this
      rw [if_pos h, e, if_neg hq]
      simp [opK, fullC]
    · rw [if_neg h]; rfl
  · unfold fillA
    by_cases h : 1 ≤ t ∧ t < P + 1
    · have hq : 2 ^ (5 - clOf m) ≠ 0 := Nat.pos_iff_ne_zero.1 (Nat.pow_pos (by decide))
      have e : takenQ (2 ^ (5 - clOf m)) (2 ^ (5 - clOf m) * P) t = 2 ^ (5 - clOf m) := by
        have := tq_low (q := 2 ^ (5 - clOf m)) (d := P) (e := 0) h.1 (by omega)
        simpa using this
      rw [if_pos h, e, if_neg hq]
      simp
    · rw [if_neg h]; simp
/-- Blocks of k spans. -/
def rowA (N k j : Nat) : Nat → Kd := fun s => if 1 ≤ s ∧ s < N then (if s ≤ j * k then (if (s - 1) % k = 0 then .head k else .tail) else .free) else .tail
theorem chain_row {P m k M : Nat} (hm : 64 < m) (hk : k = (m + 63) / 64) (h1 : M * k ≤ P) (h2 : P < M * k + k) : Chain (P + 1) m M (fun j => (1 + j * k) * 64) (rowA (P + 1) k) := by
  have hk2 : 2 ≤ k := by omega
  refine ⟨?_, fun j hj => ?_, .inr ⟨hm, fun g hg => ?_⟩⟩
  · funext s
    unfold rowA emptyA
    by_cases h : 1 ≤ s ∧ s < P + 1
    · rw [if_pos h, if_pos h, if_neg (by omega)]
    · rw [if_neg h, if_neg h]
  · have hjk : j * k + k ≤ P := by
      have : (j + 1) * k ≤ M * k := Nat.mul_le_mul_right k hj
      rw [Nat.succ_mul] at this
      omega
    have e : rowA (P + 1) k (j + 1) = fun s => if s = 1 + j * k then .head k else if 1 + j * k < s ∧ s < 1 + j * k + k then .tail else rowA (P + 1) k j s := by
      funext s
      unfold rowA
      rw [Nat.succ_mul]
      by_cases h : 1 ≤ s ∧ s < P + 1
      · rw [if_pos h, if_pos h]
        by_cases e1 : s = 1 + j * k
        · rw [if_pos e1, if_pos (by omega), if_pos (by rw [e1, Nat.add_sub_cancel_left, Nat.mul_mod_left])]
        · rw [if_neg e1]
          by_cases e2 : 1 + j * k < s ∧ s < 1 + j * k + k
          · rw [if_pos e2, if_pos (by omega), if_neg]
            intro e3
            obtain ⟨i, hi⟩ : ∃ i, s - 1 = j * k + i := ⟨s - 1 - j * k, by omega⟩
            rw [hi, Nat.mul_comm, Nat.mul_add_mod, Nat.mod_eq_of_lt (by omega)] at e3
            omega
          · rw [if_neg e2]
            by_cases e3 : s ≤ j * k
            · rw [if_pos e3, if_pos (by omega)]
            · rw [if_neg e3, if_neg (by omega)]
      · rw [if_neg h, if_neg h, if_neg (by omega), if_neg (by omega)]
    rw [e]
    refine Goes.row (1 + j * k) k hm hk (by omega) (fun t a b => ?_) (fun g hg => ?_)
    · unfold rowA
      rw [if_pos (by omega), if_neg (by omega)]
    · refine ⟨g, Nat.le_refl _, by omega, ?_⟩
      unfold rowA
      by_cases h : 1 ≤ g ∧ g < P + 1
      · rw [if_pos h, if_pos (by omega)]
        split <;> simp
      · rw [if_neg h]; simp
  · rw [← hk] at hg ⊢
    refine ⟨g, Nat.le_refl _, by omega, ?_⟩
    unfold rowA
    by_cases h : 1 ≤ g ∧ g < P + 1
    · rw [if_pos h, if_pos (by omega)]
      split <;> simp
    · rw [if_neg h]; simp
/-- Which are freed behind k steps. -/
def gd (odd : Bool) (M k : Nat) : Nat → Bool := fun j => if odd then decide (M ≤ j + k) else decide (j < k)
def gx (odd : Bool) (M k : Nat) : Nat := if odd then M - 1 - k else k
theorem gd_step (odd : Bool) {M k : Nat} (h : k < M) : gd odd M k (gx odd M k) = false ∧ upd (gd odd M k) (gx odd M k) true = gd odd M (k + 1) ∧ gx odd M k < M := by
  cases odd with
  | true =>
    refine ⟨by simp [gd, gx]; omega, ?_, by simp [gx]; omega⟩
    funext j
    unfold upd gd gx
    simp
    by_cases e : j = M - 1 - k
    · simp [e]; omega
    · simp [e]; omega
  | false =>
    refine ⟨by simp [gd, gx], ?_, by simp [gx]; omega⟩
    funext j
    unfold upd gd gx
    simp
    by_cases e : j = k
    · simp [e]
    · simp [e]; omega
theorem gd_all (odd : Bool) (M : Nat) : ∀ j, j < M → gd odd M M j = true := by
  intro j hj
  cases odd <;> simp [gd] <;> omega
theorem gd_none (odd : Bool) (M : Nat) : (∀ j, j < M → gd odd M 0 j = false) := by
  intro j hj
  cases odd <;> simp [gd] <;> omega
end Go.Proofs.YtkhegceikdegbaaDoor
