/- A chain of blocks, plainly. -/
import Derived.Test.YtinmaogbfcmagaaDoorMk4
namespace Go.Proofs.YtinmaogbfcmagaaDoor
open Go.RowKit Go.Proofs.YtinmaogbfcmagaaDoor.Hp
def dA (k : Nat) : Nat → Kd := fillA 512 0 k
def dAt (k : Nat) : Nat := 64 + k * 2
def dPrev (k : Nat) : Int := if k = 0 then 0 else (dAt (k - 1) : Int)
def dLink (cut : Int) (k : Nat) : Int := if (k : Int) = cut then dPrev k + 1 else dPrev k
structure DpW (cut : Int) (k : Nat) (wd : Nat → Int) : Prop where
  hd : ∀ j, j < k → wd (dAt j) = 4294967297
  ln : ∀ j, j < k → wd (dAt j + 1) = dLink cut j
theorem c32 : 2 ^ (5 - clOf 2) = 32 := by decide
theorem d_goes {k : Nat} (hk : k < 3000) : Goes 512 (dA k) 2 (dAt k) (dA (k + 1)) := fill_goes (n := 512) (m := 2) (k := k) (by decide) (by rw [c32]; omega)
theorem d_inv {k : Nat} (hk : k ≤ 3000) : Inv 512 (dA k) := fill_inv (n := 512) (m := 2) (by decide) k (by rw [c32]; omega)
theorem d_room {k : Nat} (hk : k ≤ 3000) : (∀ j, j < k → roomN (dA k) (dAt j) = 2) ∧ ∀ x, roomN (dA k) x ≠ 0 → ∃ j, j < k ∧ x = dAt j := fill_rooms (n := 512) (m := 2) (by decide) k (by rw [c32]; omega)
theorem DpW.alloc {cut : Int} {k : Nat} {wd : Nat → Int} (h : DpW cut k wd) : DpW cut k (clearW wd (dAt k) (roomOfM 2)) := by
  have e : roomOfM 2 = 2 := by decide
  rw [e]
  refine ⟨fun j hj => ?_, fun j hj => ?_⟩
  · unfold clearW
    rw [if_neg (by unfold dAt; omega)]; exact h.hd j hj
  · unfold clearW
    rw [if_neg (by unfold dAt; omega)]; exact h.ln j hj
theorem DpW.put {cut : Int} {k : Nat} {wd : Nat → Int} (h : DpW cut k wd) : DpW cut (k + 1) (upd (upd wd (dAt k + 0) 4294967297) (dAt k + 1) (dLink cut k)) := by
  refine ⟨fun j hj => ?_, fun j hj => ?_⟩
  · rw [upd_ne _ _ (by unfold dAt; omega)]
    by_cases e : j = k
    · subst e; exact upd_same _ _ _
    · rw [upd_ne _ _ (by unfold dAt; omega)]; exact h.hd j (by omega)
  · by_cases e : j = k
    · subst e; exact upd_same _ _ _
    · rw [upd_ne _ _ (by unfold dAt; omega), upd_ne _ _ (by unfold dAt; omega)]; exact h.ln j (by omega)
theorem d_ref {n : Nat} (hn : n ≤ 3000) (x : Int) : refB (dA n) x = true ↔ ∃ j : Nat, j < n ∧ x = (dAt j : Int) := by
  constructor
  · intro h
    obtain ⟨y, rfl, h1, _⟩ := ref_nat (d_inv hn) h
    obtain ⟨j, hj, e⟩ := (d_room hn).2 y h1
    exact ⟨j, hj, by rw [e]⟩
  · rintro ⟨j, hj, rfl⟩
    rw [ref_cast, (d_room hn).1 j hj]
    decide
/-- What a block leads to. -/
theorem d_kids {n : Nat} (hn : n ≤ 3000) {cut : Int} {wd : Nat → Int} (h : DpW cut n wd) {j : Nat} (hj : j < n) : kids (dA n) wd (dAt j : Int) = if j = 0 ∨ (j : Int) = cut then [] else [(dAt (j - 1) : Int)] := by
  have hr := (d_room hn).1 j hj
  have hI : roomI (dA n) (dAt j : Int) = 2 := by unfold roomI; rw [if_pos (by omega), Int.toNat_natCast, hr]
  unfold kids
  rw [Int.toNat_natCast, h.hd j hj, hI, if_pos ⟨by decide, by decide⟩, show min (hS 4294967297).toNat (2 - 1) = 1 by decide]
  simp only [kidsTo, h.hd j hj, Nat.zero_add, h.ln j hj, List.nil_append]
  rw [show tellsB (hK 4294967297) (hM 4294967297) 0 = true by decide, Bool.true_and]
  have hiff : refB (dA n) (dLink cut j) = true ↔ ¬ (j = 0 ∨ (j : Int) = cut) := by
    rw [d_ref hn]
    unfold dLink dPrev
    constructor
    · rintro ⟨i, hi, e⟩ (h0 | h0)
      · subst h0
        by_cases hc : ((0 : Nat) : Int) = cut
        · rw [if_pos hc] at e; simp at e; unfold dAt at e; omega
        · rw [if_neg hc] at e; simp at e; unfold dAt at e; omega
      · rw [if_pos h0] at e
        by_cases h1 : j = 0
        · rw [if_pos h1] at e; unfold dAt at e; omega
        · rw [if_neg h1] at e; unfold dAt at e; omega
    · intro hc
      have h1 : j ≠ 0 := fun e => hc (.inl e)
      have h2 : ¬ (j : Int) = cut := fun e => hc (.inr e)
      exact ⟨j - 1, by omega, by rw [if_neg h2, if_neg h1]⟩
  by_cases hc : j = 0 ∨ (j : Int) = cut
  · rw [if_pos hc]
    have : refB (dA n) (dLink cut j) = false := by
      cases hb : refB (dA n) (dLink cut j) with
      | false => rfl
      | true => exact absurd hc (hiff.1 hb)
    rw [this]; rfl
  · rw [if_neg hc, hiff.2 hc, if_pos rfl]
    have h1 : j ≠ 0 := fun e => hc (.inl e)
    have h2 : ¬ (j : Int) = cut := fun e => hc (.inr e)
    unfold dLink dPrev
    rw [if_neg h2, if_neg h1]
def dLo (n : Nat) (cut : Int) : Nat := if cut < n then cut.toNat else 0
theorem d_reach {n : Nat} (h1 : 1 ≤ n) (hn : n ≤ 3000) {cut : Int} (hc : 0 ≤ cut) {wd : Nat → Int} (h : DpW cut n wd) (x : Int) : Reach (refB (dA n)) (kids (dA n) wd) [(dAt (n - 1) : Int)] x ↔ ∃ j : Nat, dLo n cut ≤ j ∧ j < n ∧ x = (dAt j : Int) := by
  have hlo : dLo n cut < n := by unfold dLo; split <;> omega
  constructor
  · intro hr
    induction hr with
    | root x hx _ => exact ⟨n - 1, by omega, by omega, by simpa using hx⟩
    | kid x y _ hy _ ih =>
      obtain ⟨j, hj1, hj2, rfl⟩ := ih
      rw [d_kids hn h hj2] at hy
      split at hy
      · simp at hy
      · rename_i hcc
        have e : y = (dAt (j - 1) : Int) := by simpa using hy
        refine ⟨j - 1, ?_, by omega, e⟩
        have h2 : j ≠ 0 := fun e => hcc (.inl e)
        have h3 : ¬ (j : Int) = cut := fun e => hcc (.inr e)
        unfold dLo at *
        split at hj1
        · rename_i hl; rw [if_pos hl]; omega
        · rename_i hl; rw [if_neg hl]; omega
  · rintro ⟨j, hj1, hj2, rfl⟩
    obtain ⟨d, hd⟩ : ∃ d, n - 1 = j + d := ⟨n - 1 - j, by omega⟩
    have key : ∀ d i, n - 1 = i + d → dLo n cut ≤ i → Reach (refB (dA n)) (kids (dA n) wd) [(dAt (n - 1) : Int)] (dAt i : Int) := by
      intro d
      induction d with
      | zero =>
        intro i hi hi2
        have : i = n - 1 := by omega
        rw [this]
        exact .root _ (by simp) ((d_ref hn _).2 ⟨n - 1, by omega, rfl⟩)
      | succ d ih =>
        intro i hi hi2
        have := ih (i + 1) (by omega) (by omega)
        refine .kid _ _ this ?_ ((d_ref hn _).2 ⟨i, by omega, rfl⟩)
        rw [d_kids hn h (by omega), if_neg ?_]
        · simp
        · rintro (e | e)
          · omega
          · unfold dLo at hi2
            split at hi2 <;> omega
    exact key d j hd hj1
def dL (lo n : Nat) : List Nat := (List.range (n - lo)).map fun j => dAt (lo + j)
theorem dL_sorted (lo n : Nat) : (dL lo n).Pairwise (· < ·) := by
  unfold dL
  rw [List.pairwise_map]
  exact List.pairwise_lt_range.imp fun h => by unfold dAt; omega
theorem dL_mem {lo n x : Nat} : x ∈ dL lo n ↔ ∃ j, lo ≤ j ∧ j < n ∧ x = dAt j := by
  unfold dL
  rw [List.mem_map]
  constructor
  · rintro ⟨j, hj, rfl⟩
    rw [List.mem_range] at hj
    exact ⟨lo + j, by omega, by omega, rfl⟩
  · rintro ⟨j, h1, h2, rfl⟩
    exact ⟨j - lo, by rw [List.mem_range]; omega, by rw [show lo + (j - lo) = j by omega]⟩
theorem d_blk {n : Nat} (hn : n ≤ 3000) : blkL (dA n) 512 = dL 0 n := by
  refine sorted_eq _ _ (blkL_sorted (d_inv hn) 512) (dL_sorted 0 n) fun x => ?_
  rw [blkL_mem (d_inv hn) x 512, dL_mem]
  constructor
  · rintro ⟨_, hx⟩
    obtain ⟨j, hj, e⟩ := (d_room hn).2 x hx
    exact ⟨j, by omega, hj, e⟩
  · rintro ⟨j, _, hj, rfl⟩
    have := (d_room hn).1 j hj
    exact ⟨by unfold dAt; omega, by omega⟩
theorem d_not {lo : Nat} {rb : Nat → Bool} : ∀ n, (∀ j, j < n → (rb (dAt j) = true ↔ lo ≤ j)) → notB rb (dL 0 n) = min lo n
  | 0, _ => by simp [notB, dL]
  | n + 1, h => by
    have ih := d_not (lo := lo) (rb := rb) n fun j hj => h j (by omega)
    have e : dL 0 (n + 1) = dL 0 n ++ [dAt n] := by simp [dL, List.range_succ]
    rw [e]
    unfold notB at *
    rw [List.countP_append, ih]
    have hn := h n (by omega)
    by_cases hl : lo ≤ n
    · rw [show [dAt n].countP (fun x => !rb x) = 0 by simp [hn.2 hl]]; omega
    · have : rb (dAt n) = false := by
        cases hb : rb (dAt n) with
        | false => rfl
        | true => exact absurd (hn.1 hb) hl
      rw [show [dAt n].countP (fun x => !rb x) = 1 by simp [this]]; omega
end Go.Proofs.YtinmaogbfcmagaaDoor
