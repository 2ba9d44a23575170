/- What slices and arrays lead to; what a collection leaves of them. -/
import Derived.Test.YtkclpbbpcicpiaaDoorLa
namespace Go.Proofs.YtkclpbbpcicpiaaDoor
open Go.RowKit Go.Proofs.YtkclpbbpcicpiaaDoor.Hp
variable {w0 w w' w1 w2 : World} {B : HB} {n p m d q : Nat} {A A' A1 A2 : Nat → Kd} {wd wd' wd1 wd2 : Nat → Int} {hv hv1 hv2 : Value} {held : List Int} {cnt cnt' : Nat} {a b lo N c k x : Nat} {f : Nat → Int} {z y : Int} {rb : Nat → Bool}
theorem kidsTo_mem : ∀ k : Nat, y ∈ kidsTo A wd x k ↔ ∃ j, j < k ∧ tellsB (hK (wd x)) (hM (wd x)) j = true ∧ refB A (wd (x + 1 + j)) = true ∧ y = wd (x + 1 + j)
  | 0 => by simp [kidsTo]
  | k + 1 => by
    rw [kidsTo, List.mem_append, kidsTo_mem k]
    constructor
    · rintro (⟨j, hj, h⟩ | h)
      · exact ⟨j, by omega, h⟩
      · split at h
        · rename_i hc
          rw [Bool.and_eq_true] at hc
          have hy : y = wd (x + (k + 1)) := by simpa using h
          rw [show x + (k + 1) = x + 1 + k by omega] at hy hc
          exact ⟨k, by omega, hc.1, hc.2, hy⟩
        · simp at h
    · rintro ⟨j, hj, h1, h2, h3⟩
      by_cases e : j = k
      · subst e
        refine .inr ?_
        rw [show x + (j + 1) = x + 1 + j by omega, h1, h2]
        simp [h3]
      · exact .inl ⟨j, by omega, h1, h2, h3⟩
theorem kids_mem (hx : roomN A x ≠ 0) (hH : IsH (wd x)) (hs : hS (wd x) < roomN A x) : y ∈ kids A wd (x : Int) ↔ ∃ j : Nat, (j : Int) < hS (wd x) ∧ tellsB (hK (wd x)) (hM (wd x)) j = true ∧ refB A (wd (x + 1 + j)) = true ∧ y = wd (x + 1 + j) := by
  have hr : roomI A (x : Int) = roomN A x := by unfold roomI; rw [if_pos (by omega), Int.toNat_natCast]
  unfold kids
  rw [Int.toNat_natCast, hr, if_pos ⟨hx, hH⟩, kidsTo_mem]
  constructor
  · rintro ⟨j, hj, h⟩
    exact ⟨j, by omega, h⟩
  · rintro ⟨j, hj, h⟩
    exact ⟨j, by omega, h⟩
theorem SlAt.kids (h : SlAt A wd a b lo N c) : y ∈ kids A wd (a : Int) ↔ roomN A b ≠ 0 ∧ y = b := by
  have hh := sl_hdr
  rw [kids_mem h.room (by rw [h.hd]; exact hh.1) (by rw [h.sz]; have := h.big; omega), h.hd, hh.2.1, hh.2.2.1, hh.2.2.2]
  constructor
  · rintro ⟨j, hj, h1, h2, h3⟩
    rcases (show j = 0 ∨ j = 1 ∨ j = 2 ∨ j = 3 by omega) with rfl | rfl | rfl | rfl
    · rw [Nat.add_zero, h.w0] at h2 h3
      exact ⟨ref_cast.1 h2, h3⟩
    · exact absurd h1 (by decide)
    · exact absurd h1 (by decide)
    · exact absurd h1 (by decide)
  · rintro ⟨h1, rfl⟩
    exact ⟨0, by omega, by decide, by rw [Nat.add_zero, h.w0]; exact ref_cast.2 h1, by rw [Nat.add_zero, h.w0]⟩
theorem ArAt.kids (h : ArAt A wd b k c f) : y ∈ kids A wd (b : Int) ↔ k = 2 ∧ ∃ j, j < c ∧ refB A (f j) = true ∧ y = f j := by
  have hh := ar_hdr h.kin h.le
  have hbig := h.big
  rw [kids_mem h.room (by rw [h.hd]; exact hh.1) (by rw [h.sz]; omega), h.hd, hh.2.1, hh.2.2.1, hh.2.2.2]
  constructor
  · rintro ⟨j, hj, h1, h2, h3⟩
    rw [h.it j (by omega)] at h2 h3
    refine ⟨?_, j, by omega, h2, h3⟩
    rcases h.kin with e | e
    · subst e; simp [tellsB] at h1
    · exact e
  · rintro ⟨rfl, j, hj, h2, h3⟩
    rw [← h.it j hj] at h2 h3
    exact ⟨j, by omega, by simp [tellsB], h2, h3⟩
theorem SlAt.gc (h : SlAt A wd a b lo N c) (hg : Gc n A wd held rb A1) (hr : rb a = true) : SlAt A1 wd a b lo N c := by
  have := hg.room a
  rw [if_pos hr] at this
  exact ⟨by rw [this]; exact h.room, by rw [this]; exact h.big, h.hd, h.w0, h.w1, h.w2, h.w3⟩
theorem ArAt.gc (h : ArAt A wd b k c f) (hg : Gc n A wd held rb A1) (hr : rb b = true) : ArAt A1 wd b k c f := by
  have := hg.room b
  rw [if_pos hr] at this
  exact ⟨by rw [this]; exact h.room, by rw [this]; exact h.big, h.kin, h.le, h.hd, h.it⟩
theorem SlAt.reach (h : SlAt A wd a b lo N c) (hm : (a : Int) ∈ held) : Reach (refB A) (Go.Proofs.YtkclpbbpcicpiaaDoor.kids A wd) held (a : Int) := .root _ hm (ref_cast.2 h.room)
theorem SlAt.reach_ar (h : SlAt A wd a b lo N c) (ha : ArAt A wd b k q f) (hm : (a : Int) ∈ held) : Reach (refB A) (Go.Proofs.YtkclpbbpcicpiaaDoor.kids A wd) held (b : Int) := .kid _ _ (h.reach hm) (h.kids.2 ⟨ha.room, rfl⟩) (ref_cast.2 ha.room)
/-- A slice that is held, and its array. -/
structure Kf (A : Nat → Kd) (wd : Nat → Int) (a b lo N c k C : Nat) (f : Nat → Int) : Prop where
  sl : SlAt A wd a b lo N c
  ar : ArAt A wd b k C f
theorem Kf.keep {C : Nat} (h : Kf A wd a b lo N c k C f) (ho : Olds (fun _ => False) A wd A' wd') : Kf A' wd' a b lo N c k C f := ⟨h.sl.keep ho id, h.ar.keep ho id⟩
theorem Kf.gc {C : Nat} (h : Kf A wd a b lo N c k C f) (hg : Gc n A wd held rb A1) (hm : (a : Int) ∈ held) : Kf A1 wd a b lo N c k C f :=
  ⟨h.sl.gc hg ((hg.rch a).2 (h.sl.reach hm)), h.ar.gc hg ((hg.rch b).2 (h.sl.reach_ar h.ar hm))⟩
theorem Kf.made {C : Nat} {kk s mm : Int} {v : Value} (h : Kf A wd a b lo N c k C f) (hM : MkS n A wd held cnt kk s mm v A' wd' cnt') (hI : Inv n A) (hI' : Inv n A') (hm : (a : Int) ∈ held) : Kf A' wd' a b lo N c k C f := by
  cases hM with
  | no _ => exact h
  | at_ _ x _ g => exact h.keep (Olds.new _ hI hI' g (by omega) _)
  | gc _ _ rb A1 hg x _ g => exact (h.gc hg hm).keep (Olds.new _ hg.inv hI' g (by omega) _)
  | full _ _ rb _ hg _ => exact h.gc hg hm
end Go.Proofs.YtkclpbbpcicpiaaDoor
