/- SpaceDrops, plainly. -/
import Derived.Test.YtogjblikljggbaaDoorS6
namespace Go.Proofs.YtogjblikljggbaaDoor
open Go.RowKit Go.Proofs.YtogjblikljggbaaDoor.Hp
theorem perm_len {l m : List Nat} (hl : l.Nodup) (hm : m.Nodup) (h : ∀ x, x ∈ l ↔ x ∈ m) : l.length = m.length := by
  have sub : ∀ (l m : List Nat), l.Nodup → (∀ x, x ∈ l → x ∈ m) → l.length ≤ m.length := by
    intro l
    induction l with
    | nil => intro m _ _; simp
    | cons a l ih =>
      intro m hn hs
      rw [List.nodup_cons] at hn
      have ha := hs a (by simp)
      have := ih (m.erase a) hn.2 fun x hx => by
        have hne : x ≠ a := fun e => hn.1 (e ▸ hx)
        exact (List.mem_erase_of_ne hne).2 (hs x (by simp [hx]))
      have h2 := List.length_erase_of_mem ha
      have h3 := List.length_pos_of_mem ha
      simp only [List.length_cons]
      omega
  exact Nat.le_antisymm (sub l m hl fun x => (h x).1) (sub m l hm fun x => (h x).2)
/-- The blocks are the first c places of a row. -/
def Live (A : Nat → Kd) (r c : Nat) : Prop := ∀ x, roomN A x ≠ 0 ↔ ∃ j, j < c ∧ x = 64 + r * j
theorem live_len {n : Nat} {A : Nat → Kd} {r c : Nat} (hI : Inv n A) (h : Live A r c) (hr : 0 < r) : (blkL A n).length = c := by
  have h1 : (blkL A n).Nodup := (blkL_sorted hI n).imp fun h => by omega
  have h2 : ((List.range c).map fun j => 64 + r * j).Nodup := by
    rw [List.Nodup, List.pairwise_map]
    refine List.pairwise_lt_range.imp ?_
    intro a b hab e
    have := Nat.mul_lt_mul_of_pos_left hab hr
    omega
  have := perm_len h1 h2 fun x => by
    rw [blkL_mem hI x n, h x, List.mem_map]
    constructor
    · rintro ⟨_, j, hj, e⟩
      exact ⟨j, by simpa using hj, e.symm⟩
    · rintro ⟨j, hj, e⟩
      have hj' : j < c := by simpa using hj
      have hx : roomN A x ≠ 0 := (h x).2 ⟨j, hj', e.symm⟩
      have := room_in hI hx
      exact ⟨by omega, j, hj', e.symm⟩
  rw [this]; simp
theorem fill_live {n m : Nat} (hm : m ≤ 64) (k : Nat) (hk : k ≤ 2 ^ (5 - clOf m) * (n - 1)) : Live (fillA n (clOf m) k) (2 ^ (clOf m + 1)) k := by
  obtain ⟨h1, h2⟩ := fill_rooms (n := n) hm k hk
  intro x
  constructor
  · intro hx
    obtain ⟨j, hj, e⟩ := h2 x hx
    exact ⟨j, hj, by rw [e, Nat.mul_comm]⟩
  · rintro ⟨j, hj, rfl⟩
    rw [Nat.mul_comm, h1 j hj]
    exact Nat.pos_iff_ne_zero.1 (Nat.pow_pos (by decide))
/-- What is held: each block twice. -/
def heldN (k : Nat) : List Int := (List.range (2 * k)).map fun j => ((64 + 2 * (j / 2) : Nat) : Int)
theorem heldN_len (k : Nat) : (heldN k).length = 2 * k := by simp [heldN]
theorem heldN_succ (k : Nat) : heldN k ++ [((64 + 2 * k : Nat) : Int)] ++ [((64 + 2 * k : Nat) : Int)] = heldN (k + 1) := by
  unfold heldN
  rw [show 2 * (k + 1) = 2 * k + 1 + 1 by omega, List.range_succ, List.range_succ]
  simp only [List.map_append, List.map_cons, List.map_nil]
  rw [show 2 * k / 2 = k by omega, show (2 * k + 1) / 2 = k by omega]
theorem heldN_mem {n l : Nat} (hl : l ≤ 2 * n) (x : Nat) : ((x : Nat) : Int) ∈ (heldN n).take l ↔ ∃ j, j < (l + 1) / 2 ∧ x = 64 + 2 * j := by
  unfold heldN
  rw [← List.map_take, List.take_range, Nat.min_eq_left hl, List.mem_map]
  constructor
  · rintro ⟨i, hi, e⟩
    have hi' : i < l := by simpa using hi
    exact ⟨i / 2, by omega, by omega⟩
  · rintro ⟨j, hj, rfl⟩
    exact ⟨2 * j, by simp; omega, by omega⟩
/-- Data leads to nothing. -/
theorem kidsTo_data {A : Nat → Kd} {wd : Nat → Int} {x : Nat} (h : hK (wd x) = 1) : ∀ k, kidsTo A wd x k = []
  | 0 => rfl
  | k + 1 => by
    rw [kidsTo, kidsTo_data h k]
    have : tellsB (hK (wd x)) (hM (wd x)) k = false := by rw [h]; simp [tellsB]
    rw [this]
    simp
theorem reach_data {A : Nat → Kd} {wd : Nat → Int} {roots : List Int} (h : ∀ x, roomN A x ≠ 0 → hK (wd x) = 1) (x : Nat) : Reach (refB A) (kids A wd) roots (x : Int) ↔ (x : Int) ∈ roots ∧ roomN A x ≠ 0 := by
  constructor
  · intro hr
    generalize hy : (x : Int) = y at hr
    cases hr with
    | root _ h1 h2 => subst hy; exact ⟨h1, ref_cast.1 h2⟩
    | kid z _ h1 h2 h3 =>
      have hz := refB_iff.1 h1.ref
      obtain ⟨u, rfl, hu⟩ := room_nat hz
      unfold kids at h2
      split at h2
      · rw [Int.toNat_natCast, kidsTo_data (h u hu)] at h2
        simp at h2
      · simp at h2
  · rintro ⟨h1, h2⟩
    exact .root _ h1 (ref_cast.2 h2)
/-- Where the drops stand. -/
structure Drp (n : Nat) (A : Nat → Kd) (wd : Nat → Int) (left : Nat) : Prop where
  le : left ≤ 2 * n
  live : Live A 2 ((left + 1) / 2)
  hd : ∀ j, j < n → wd (64 + 2 * j) = hdr 1 1 0
theorem Drp.gc {n l2 left : Nat} {A A1 : Nat → Kd} {wd : Nat → Int} {rb : Nat → Bool} (h : Drp n A wd left) (hl : l2 ≤ left) (hg : Gc 64 A wd ((heldN n).take l2) rb A1) : Drp n A1 wd l2 := by
  have hle := h.le
  refine ⟨by omega, fun x => ?_, h.hd⟩
  have hrb := hg.rch x
  rw [reach_data (fun y hy => by
    obtain ⟨j, hj, rfl⟩ := (h.live y).1 hy
    rw [h.hd j (by omega)]; decide), heldN_mem (by omega)] at hrb
  rw [hg.room x]
  constructor
  · intro hx
    by_cases hb : rb x = true
    · exact (hrb.1 hb).1
    · rw [if_neg hb] at hx; exact absurd rfl hx
  · rintro ⟨j, hj, rfl⟩
    have hx : roomN A (64 + 2 * j) ≠ 0 := (h.live _).2 ⟨j, by omega, rfl⟩
    rw [if_pos (hrb.2 ⟨⟨j, hj, rfl⟩, hx⟩)]
    exact hx
theorem take_left {n l : Nat} (hl : l ≤ 2 * n) (z : Int) : ((heldN n).take l).take (leftN ((heldN n).take l).length z) = (heldN n).take (leftN l z) := by
  rw [List.length_take, heldN_len, Nat.min_eq_left hl, List.take_take, Nat.min_eq_left]
  unfold leftN; omega
theorem newW_low {wd : Nat → Int} {a m x : Nat} {h : Int} (hx : x < a) : newW wd a m h x = wd x := by
  unfold newW
  rw [upd_ne _ _ (by omega), clear_out (.inl hx)]
theorem newW_at {wd : Nat → Int} {a m : Nat} {h : Int} : newW wd a m h a = h := by unfold newW; rw [upd_same]
end Go.Proofs.YtogjblikljggbaaDoor
