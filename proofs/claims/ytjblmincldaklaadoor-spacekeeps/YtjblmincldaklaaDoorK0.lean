/- SpaceKeeps, plainly. -/
import Derived.Test.YtjblmincldaklaaDoorD0
namespace Go.Proofs.YtjblmincldaklaaDoor
open Go.RowKit Go.Proofs.YtjblmincldaklaaDoor.Hp
/-- The words of a chain of c blocks. -/
structure Chn (c : Nat) (A : Nat → Kd) (wd : Nat → Int) : Prop where
  room : ∀ j, j < c → roomN A (64 + 4 * j) = 4
  hd : ∀ j, j < c → wd (64 + 4 * j) = hdr 4 3 2
  w0 : ∀ j, j < c → wd (64 + 4 * j + 1) = j
  w1 : ∀ j, j < c → wd (64 + 4 * j + 2) = if j = 0 then 0 else ((64 + 4 * (j - 1) : Nat) : Int)
  w2 : ∀ j, j < c → wd (64 + 4 * j + 3) = 64
/-- A chain's words stay where a block is made elsewhere. -/
theorem Chn.goes {n c m a : Nat} {A A' : Nat → Kd} {wd : Nat → Int} {h : Int} (k : Chn c A wd) (hI : Inv n A) (hI' : Inv n A') (hm : 1 ≤ m) (g : Goes n A m a A') : Chn c A' (newW wd a m h) := by
  have hg := room_goes hI g
  have hge := roomOfM_ge m
  have key : ∀ j, j < c → roomN A' (64 + 4 * j) = 4 ∧ ∀ i, i < 4 → newW wd a m h (64 + 4 * j + i) = wd (64 + 4 * j + i) := by
    intro j hj
    have hr := k.room j hj
    have hne : 64 + 4 * j ≠ a := fun e => by rw [e, hg.1] at hr; omega
    have hr' : roomN A' (64 + 4 * j) = 4 := by rw [hg.2, if_neg hne, hr]
    have ha : roomN A' a = roomOfM m := by rw [hg.2, if_pos rfl]
    refine ⟨hr', fun i hi => ?_⟩
    have hap : 64 + 4 * j + 4 ≤ a ∨ a + roomOfM m ≤ 64 + 4 * j := by
      by_cases hl : 64 + 4 * j < a
      · have := apart hI' hl (by omega) (by omega); omega
      · have := apart hI' (show a < 64 + 4 * j by omega) (by omega) (by omega); omega
    unfold newW
    rw [upd_ne _ _ (by omega), clear_out (by omega)]
  refine ⟨fun j hj => (key j hj).1, fun j hj => ?_, fun j hj => ?_, fun j hj => ?_, fun j hj => ?_⟩
  · have := (key j hj).2 0 (by omega); rw [Nat.add_zero] at this; rw [this]; exact k.hd j hj
  · rw [(key j hj).2 1 (by omega)]; exact k.w0 j hj
  · rw [(key j hj).2 2 (by omega)]; exact k.w1 j hj
  · rw [(key j hj).2 3 (by omega)]; exact k.w2 j hj
/-- What a block of a chain leads to. -/
theorem chn_kids {n c : Nat} {A : Nat → Kd} {wd : Nat → Int} (hI : Inv n A) (k : Chn c A wd) {j : Nat} (hj : j < c) (y : Int) : y ∈ kids A wd ((64 + 4 * j : Nat) : Int) ↔ 0 < j ∧ y = ((64 + 4 * (j - 1) : Nat) : Int) := by
  have hr : roomI A ((64 + 4 * j : Nat) : Int) = 4 := by
    unfold roomI; rw [if_pos (by omega), Int.toNat_natCast]; exact k.room j hj
  have hh := hdr_open (show Right 4 3 2 by decide)
  unfold kids
  rw [if_pos ⟨by omega, by rw [Int.toNat_natCast, k.hd j hj]; exact hh.1⟩, hr, Int.toNat_natCast, k.hd j hj, hh.2.2.1, show min (3 : Int).toNat (4 - 1) = 3 by decide]
  have t0 : tellsB 4 2 0 = false := by decide
  have t1 : tellsB 4 2 1 = true := by decide
  have t2 : tellsB 4 2 2 = false := by decide
  simp only [kidsTo, k.hd j hj, hh.2.1, hh.2.2.2, t0, t1, t2, Bool.false_and, Bool.true_and]
  rw [show 64 + 4 * j + (1 + 1) = 64 + 4 * j + 2 by omega, k.w1 j hj]
  by_cases h0 : j = 0
  · subst h0
    have hz : refB A 0 = false := by
      cases hb : refB A 0 with
      | false => rfl
      | true =>
        obtain ⟨y, e, _, h3, _⟩ := ref_nat hI hb
        omega
    simp [hz]
  · rw [if_neg h0]
    have hz : refB A ((64 + 4 * (j - 1) : Nat) : Int) = true := ref_cast.2 (by rw [k.room (j - 1) (by omega)]; omega)
    rw [hz]
    simp
    omega
/-- What is reached from a chain's last block is the chain. -/
theorem chn_reach {n c : Nat} {A : Nat → Kd} {wd : Nat → Int} (hI : Inv n A) (k : Chn c A wd) (hc : 1 ≤ c) (x : Nat) : Reach (refB A) (kids A wd) [((64 + 4 * (c - 1) : Nat) : Int)] (x : Int) ↔ ∃ j, j < c ∧ x = 64 + 4 * j := by
  constructor
  · intro hr
    generalize hy : (x : Int) = y at hr
    induction hr generalizing x with
    | root z h1 h2 =>
      have : z = ((64 + 4 * (c - 1) : Nat) : Int) := by simpa using h1
      exact ⟨c - 1, by omega, by omega⟩
    | kid z y h1 h2 h3 ih =>
      obtain ⟨u, rfl, _⟩ := ref_nat hI h1.ref
      obtain ⟨j, hj, e⟩ := ih u rfl
      subst e
      obtain ⟨h4, h5⟩ := (chn_kids hI k hj y).1 h2
      exact ⟨j - 1, by omega, by omega⟩
  · rintro ⟨j, hj, rfl⟩
    have hrf : ∀ j, j < c → refB A ((64 + 4 * j : Nat) : Int) = true := fun j hj => ref_cast.2 (by rw [k.room j hj]; omega)
    have key : ∀ d, d < c → Reach (refB A) (kids A wd) [((64 + 4 * (c - 1) : Nat) : Int)] ((64 + 4 * (c - 1 - d) : Nat) : Int) := by
      intro d
      induction d with
      | zero => intro _; exact .root _ (by simp) (hrf _ (by omega))
      | succ d ih =>
        intro hd
        refine .kid _ _ (ih (by omega)) ((chn_kids hI k (j := c - 1 - d) (by omega) _).2 ⟨by omega, ?_⟩) (hrf _ (by omega))
        rw [show c - 1 - (d + 1) = c - 1 - d - 1 by omega]
    have := key (c - 1 - j) (by omega)
    rw [show c - 1 - (c - 1 - j) = j by omega] at this
    exact this
/-- Behind a collection the chain alone is there. -/
theorem Chn.gc {n c : Nat} {A A1 : Nat → Kd} {wd : Nat → Int} {rb : Nat → Bool} (hI : Inv n A) (k : Chn c A wd) (hc : 1 ≤ c) (hg : Gc n A wd [((64 + 4 * (c - 1) : Nat) : Int)] rb A1) : Chn c A1 wd ∧ Live A1 4 c := by
  have hrb : ∀ x, rb x = true ↔ ∃ j, j < c ∧ x = 64 + 4 * j := fun x => (hg.rch x).trans (chn_reach hI k hc x)
  have hr : ∀ j, j < c → roomN A1 (64 + 4 * j) = 4 := fun j hj => by rw [hg.room, if_pos ((hrb _).2 ⟨j, hj, rfl⟩)]; exact k.room j hj
  refine ⟨⟨hr, k.hd, k.w0, k.w1, k.w2⟩, fun x => ⟨fun hx => ?_, ?_⟩⟩
  · by_cases hb : rb x = true
    · exact (hrb x).1 hb
    · rw [hg.room, if_neg hb] at hx; exact absurd rfl hx
  · rintro ⟨j, hj, rfl⟩
    rw [hr j hj]; omega
theorem chn_free {c : Nat} {A : Nat → Kd} {wd : Nat → Int} (hI : Inv 64 A) (k : Chn c A wd) (hL : Live A 4 c) (hc : c ≤ 20) : ∀ t, 3 ≤ t → t < 64 → A t = .free := by
  have hx : ∀ x, roomN A x ≠ 0 → x < 144 ∧ roomN A x = 4 := fun x hx => by
    obtain ⟨j, hj, rfl⟩ := (hL x).1 hx
    exact ⟨by omega, k.room j hj⟩
  have hh : ∀ s q, A s ≠ .head q := fun s q e => by
    have h2 := (hI.head s q e).1
    have h1 : roomN A (s * 64) = 64 * q := by
      unfold roomN
      rw [show s * 64 / 64 = s by omega, show s * 64 % 64 = 0 by omega, e]
      simp [roomK]
    have := (hx (s * 64) (by omega)).2
    omega
  intro t h1 h2
  cases e : A t with
  | free => rfl
  | tail =>
    obtain ⟨x, q, e1, _⟩ := hI.tail t (by omega) h2 e
    exact absurd e1 (hh x q)
  | head q => exact absurd e (hh t q)
  | cls c u =>
    obtain ⟨hc, hu, hu2⟩ := hI.cls t c u e
    obtain ⟨j, hj⟩ := Nat.exists_testBit_of_ne_zero (Nat.pos_iff_ne_zero.1 hu)
    have hjq : j < 2 ^ (5 - c) := by
      apply Nat.lt_of_not_le
      intro hle
      have h0 : 0 < 2 ^ 2 ^ (5 - c) := Nat.pow_pos (by decide)
      have : u < 2 ^ j := Nat.lt_of_lt_of_le (show u < 2 ^ 2 ^ (5 - c) by unfold fullC at hu2; omega) (Nat.pow_le_pow_right (by decide) hle)
      rw [Nat.testBit_lt_two_pow this] at hj; cases hj
    have hp : 0 < 2 ^ (c + 1) := Nat.pow_pos (by decide)
    have ho : j * 2 ^ (c + 1) < 64 := by
      rcases c6 hc with rfl | rfl | rfl | rfl | rfl | rfl <;> simp at hjq ⊢ <;> omega
    have h3 := hx (t * 64 + j * 2 ^ (c + 1)) (by
      unfold roomN
      rw [show (t * 64 + j * 2 ^ (c + 1)) / 64 = t by omega, show (t * 64 + j * 2 ^ (c + 1)) % 64 = j * 2 ^ (c + 1) by omega, e]
      simp only [roomK]
      rw [Nat.mul_mod_left, Nat.mul_div_cancel _ hp, hj, if_pos ⟨rfl, rfl⟩]
      omega)
    omega
theorem chn_place {A : Nat → Kd} (hf : ∀ t, 3 ≤ t → t < 64 → A t = .free) {m : Nat} (hm : m ≤ 640) : ¬ NoPlace 64 A m := by
  rintro (⟨_, _, h3⟩ | ⟨h1, h2⟩)
  · exact h3 3 (hf 3 (by omega) (by omega))
  · obtain ⟨t, h3, h4, h5⟩ := h2 3 (by omega)
    exact h5 (hf t h3 (by omega))
end Go.Proofs.YtjblmincldaklaaDoor
