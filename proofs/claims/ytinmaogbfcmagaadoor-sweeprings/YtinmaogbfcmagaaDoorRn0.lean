/- A ring of blocks, plainly. -/
import Derived.Test.YtinmaogbfcmagaaDoorMk4
namespace Go.Proofs.YtinmaogbfcmagaaDoor
open Go.RowKit Go.Proofs.YtinmaogbfcmagaaDoor.Hp
def rA (k : Nat) : Nat → Kd := fillA 64 1 k
def rAt (k : Nat) : Nat := 64 + k * 4
theorem c16 : 2 ^ (5 - clOf 4) = 16 := by decide
theorem r_goes {k : Nat} (hk : k < 60) : Goes 64 (rA k) 4 (rAt k) (rA (k + 1)) := fill_goes (n := 64) (m := 4) (k := k) (by decide) (by rw [c16]; omega)
theorem r_inv {k : Nat} (hk : k ≤ 60) : Inv 64 (rA k) := fill_inv (n := 64) (m := 4) (by decide) k (by rw [c16]; omega)
theorem r_room {k : Nat} (hk : k ≤ 60) : (∀ j, j < k → roomN (rA k) (rAt j) = 4) ∧ ∀ x, roomN (rA k) x ≠ 0 → ∃ j, j < k ∧ x = rAt j := fill_rooms (n := 64) (m := 4) (by decide) k (by rw [c16]; omega)
structure RgW (n place : Nat) (hd : Int) (k : Nat) (wd : Nat → Int) : Prop where
  h0 : ∀ j, j < n → wd (rAt j) = if j < k then hd else 0
  h1 : ∀ j, j < n → ∀ p, 1 ≤ p → p ≤ 2 → wd (rAt j + p) = if j < k ∧ p = place then (rAt ((j + 1) % n) : Int) else 0
theorem RgW.zero (n place : Nat) (hd : Int) : RgW n place hd 0 (fun _ => 0) := ⟨fun j _ => by simp, fun j _ p _ _ => by simp⟩
theorem RgW.put {n place : Nat} {hd : Int} {k : Nat} {wd : Nat → Int} (h : RgW n place hd k wd) (hp : 1 ≤ place ∧ place ≤ 2) : RgW n place hd (k + 1) (upd (upd wd (rAt k + 0) hd) (rAt k + place) (rAt ((k + 1) % n) : Int)) := by
  refine ⟨fun j hj => ?_, fun j hj p hp1 hp2 => ?_⟩
  · rw [upd_ne _ _ (by unfold rAt; omega)]
    by_cases e : j = k
    · subst e; rw [if_pos (by omega)]; exact upd_same _ _ _
    · rw [upd_ne _ _ (by unfold rAt; omega), h.h0 j hj]
      by_cases e2 : j < k
      · rw [if_pos e2, if_pos (by omega)]
      · rw [if_neg e2, if_neg (by omega)]
  · by_cases e : j = k
    · subst e
      by_cases e2 : p = place
      · subst e2; rw [upd_same, if_pos ⟨by omega, rfl⟩]
      · rw [upd_ne _ _ (by omega), upd_ne _ _ (by omega), h.h1 j hj p hp1 hp2, if_neg (fun x => e2 x.2), if_neg (fun x => e2 x.2)]
    · rw [upd_ne _ _ (by unfold rAt; omega), upd_ne _ _ (by unfold rAt; omega), h.h1 j hj p hp1 hp2]
      by_cases e2 : j < k ∧ p = place
      · rw [if_pos e2, if_pos ⟨by omega, e2.2⟩]
      · rw [if_neg e2, if_neg (fun x => e2 ⟨by omega, x.2⟩)]
theorem r_ref {n : Nat} (hn : n ≤ 60) (x : Int) : refB (rA n) x = true ↔ ∃ j : Nat, j < n ∧ x = (rAt j : Int) := by
  constructor
  · intro h
    obtain ⟨y, rfl, h1, _⟩ := ref_nat (r_inv hn) h
    obtain ⟨j, hj, e⟩ := (r_room hn).2 y h1
    exact ⟨j, hj, by rw [e]⟩
  · rintro ⟨j, hj, rfl⟩
    rw [ref_cast, (r_room hn).1 j hj]
    decide
def rMk (kd : Int) : Int := if kd = 2 then 0 else 1
def rPl (kd : Int) : Nat := if kd = 3 then 2 else 1
def rHd (kd : Int) : Int := hdr kd 2 (rMk kd)
theorem r_kids {n : Nat} (hn : n ≤ 60) {kd : Int} (hk : kd = 2 ∨ kd = 3 ∨ kd = 4) {wd : Nat → Int} (h : RgW n (rPl kd) (rHd kd) n wd) {j : Nat} (hj : j < n) : kids (rA n) wd (rAt j : Int) = [(rAt ((j + 1) % n) : Int)] := by
  have hr := (r_room hn).1 j hj
  have hI : roomI (rA n) (rAt j : Int) = 4 := by unfold roomI; rw [if_pos (by omega), Int.toNat_natCast, hr]
  have e0 := h.h0 j hj
  rw [if_pos hj] at e0
  have e1 := h.h1 j hj 1 (by omega) (by omega)
  have e2 := h.h1 j hj 2 (by omega) (by omega)
  have hz : refB (rA n) 0 = false := by
    cases hb : refB (rA n) 0 with
    | false => rfl
    | true =>
      obtain ⟨i, _, e⟩ := (r_ref hn 0).1 hb
      unfold rAt at e; omega
  have hx : refB (rA n) (rAt ((j + 1) % n) : Int) = true := (r_ref hn _).2 ⟨(j + 1) % n, Nat.mod_lt _ (by omega), rfl⟩
  have hkk : (rHd kd = 4294967298 ∧ rPl kd = 1 ∧ kd = 2) ∨ (rHd kd = 6442483714 ∧ rPl kd = 2 ∧ kd = 3) ∨ (rHd kd = 8589967362 ∧ rPl kd = 1 ∧ kd = 4) := by
    rcases hk with rfl | rfl | rfl
    · exact .inl (by decide)
    · exact .inr (.inl (by decide))
    · exact .inr (.inr (by decide))
  unfold kids
  rw [Int.toNat_natCast, e0, hI]
  rcases hkk with ⟨k1, k2, _⟩ | ⟨k1, k2, _⟩ | ⟨k1, k2, _⟩
  · rw [k1] at e0 ⊢
    rw [k2] at e1 e2
    rw [if_pos ⟨hj, rfl⟩] at e1
    rw [if_neg (by omega)] at e2
    rw [if_pos ⟨by decide, by decide⟩, show min (hS 4294967298).toNat (4 - 1) = 2 by decide]
    simp only [kidsTo, Nat.zero_add, Nat.reduceAdd, e0, e1, e2, hx, hz]
    rw [show tellsB (hK 4294967298) (hM 4294967298) 0 = true by decide]
    simp
  · rw [k1] at e0 ⊢
    rw [k2] at e1 e2
    rw [if_neg (by omega)] at e1
    rw [if_pos ⟨hj, rfl⟩] at e2
    rw [if_pos ⟨by decide, by decide⟩, show min (hS 6442483714).toNat (4 - 1) = 2 by decide]
    simp only [kidsTo, Nat.zero_add, Nat.reduceAdd, e0, e1, e2, hx, hz]
    rw [show tellsB (hK 6442483714) (hM 6442483714) 1 = true by decide]
    simp
  · rw [k1] at e0 ⊢
    rw [k2] at e1 e2
    rw [if_pos ⟨hj, rfl⟩] at e1
    rw [if_neg (by omega)] at e2
    rw [if_pos ⟨by decide, by decide⟩, show min (hS 8589967362).toNat (4 - 1) = 2 by decide]
    simp only [kidsTo, Nat.zero_add, Nat.reduceAdd, e0, e1, e2, hx, hz]
    rw [show tellsB (hK 8589967362) (hM 8589967362) 0 = true by decide]
    simp
theorem r_reach {n f : Nat} (hf : f < n) (hn : n ≤ 60) {kd : Int} (hk : kd = 2 ∨ kd = 3 ∨ kd = 4) {wd : Nat → Int} (h : RgW n (rPl kd) (rHd kd) n wd) (x : Int) : Reach (refB (rA n)) (kids (rA n) wd) [(rAt f : Int)] x ↔ ∃ j : Nat, j < n ∧ x = (rAt j : Int) := by
  constructor
  · intro hr
    exact (r_ref hn x).1 hr.ref
  · rintro ⟨j, hj, rfl⟩
    have key : ∀ d, Reach (refB (rA n)) (kids (rA n) wd) [(rAt f : Int)] (rAt ((f + d) % n) : Int) := by
      intro d
      induction d with
      | zero =>
        rw [Nat.add_zero, Nat.mod_eq_of_lt hf]
        exact .root _ (by simp) ((r_ref hn _).2 ⟨f, hf, rfl⟩)
      | succ d ih =>
        have hm : (f + d) % n < n := Nat.mod_lt _ (by omega)
        refine .kid _ _ ih ?_ ((r_ref hn _).2 ⟨(f + (d + 1)) % n, Nat.mod_lt _ (by omega), rfl⟩)
        rw [r_kids hn hk h hm, show f + (d + 1) = f + d + 1 by omega, Nat.mod_add_mod]
        simp
    have := key (j + n - f)
    rw [show f + (j + n - f) = j + n by omega, Nat.add_mod_right, Nat.mod_eq_of_lt hj] at this
    exact this
def rL (n : Nat) : List Nat := (List.range n).map rAt
theorem rL_sorted (n : Nat) : (rL n).Pairwise (· < ·) := by
  unfold rL
  rw [List.pairwise_map]
  exact List.pairwise_lt_range.imp fun h => by unfold rAt; omega
theorem rL_mem {n x : Nat} : x ∈ rL n ↔ ∃ j, j < n ∧ x = rAt j := by
  unfold rL
  rw [List.mem_map]
  constructor
  · rintro ⟨j, hj, rfl⟩; exact ⟨j, by simpa using hj, rfl⟩
  · rintro ⟨j, hj, rfl⟩; exact ⟨j, by simpa using hj, rfl⟩
theorem r_blk {n : Nat} (hn : n ≤ 60) {A : Nat → Kd} (hI : Inv 64 A) (hA : ∀ y, roomN A y = roomN (rA n) y) : blkL A 64 = rL n := by
  refine sorted_eq _ _ (blkL_sorted hI 64) (rL_sorted n) fun x => ?_
  rw [blkL_mem hI x 64, rL_mem, hA x]
  constructor
  · rintro ⟨_, hx⟩
    obtain ⟨j, hj, e⟩ := (r_room hn).2 x hx
    exact ⟨j, hj, e⟩
  · rintro ⟨j, hj, rfl⟩
    have := (r_room hn).1 j hj
    exact ⟨by unfold rAt; omega, by omega⟩
/-- From an odd word nothing is reached. -/
theorem odd_reach {n : Nat} {A : Nat → Kd} (hI : Inv n A) {K : Int → List Int} {z : Int} (hz : z % 2 = 1) (x : Int) : ¬ Reach (refB A) K [z] x := by
  intro hr
  induction hr with
  | root x hx hr =>
    obtain ⟨y, rfl, _, _, _, h2⟩ := ref_nat hI hr
    have e : (y : Int) = z := by simpa using hx
    omega
  | kid _ _ _ _ _ ih => exact ih
theorem notB_all {rb : Nat → Bool} {L : List Nat} (h : ∀ x ∈ L, rb x = true) : notB rb L = 0 := by
  unfold notB
  rw [List.countP_eq_zero]
  intro x hx
  simp [h x hx]
theorem notB_none {rb : Nat → Bool} {L : List Nat} (h : ∀ x ∈ L, rb x = false) : notB rb L = L.length := by
  unfold notB
  rw [List.countP_eq_length]
  intro x hx
  simp [h x hx]
end Go.Proofs.YtinmaogbfcmagaaDoor
