/- The document's example, plainly. -/
import Derived.Test.YtinmaogbfcmagaaDoorMd1
namespace Go.Proofs.YtinmaogbfcmagaaDoor
open Go.RowKit Go.Proofs.YtinmaogbfcmagaaDoor.Hp
theorem Mch.nilInv {A : Nat → Kd} {l : List (Nat × Rw)} (h : Mch [] A l) : A = emptyA 128 ∧ l = [] := by
  generalize hx : ([] : List Rw) = x at h
  cases h with
  | nil => exact ⟨rfl, rfl⟩
  | put => exact absurd hx (by simp)
  | no => exact absurd hx (by simp)
theorem Mch.snoc {rs : List Rw} {r : Rw} {A' : Nat → Kd} {l' : List (Nat × Rw)} (h : Mch (rs ++ [r]) A' l') : (∃ A l a, Mch rs A l ∧ Goes 128 A (r.W.length + 1) a A' ∧ l' = l ++ [(a, r)]) ∨ (Mch rs A' l' ∧ NoPlace 128 A' (r.W.length + 1)) := by
  generalize hx : rs ++ [r] = x at h
  cases h with
  | nil => exact absurd hx (by simp)
  | put rs2 A A2 l r2 a h1 g =>
    obtain ⟨e1, e2⟩ := List.append_inj' hx rfl
    cases e1; cases e2
    exact .inl ⟨A, l, a, h1, g, rfl⟩
  | no rs2 A l r2 h1 hn =>
    obtain ⟨e1, e2⟩ := List.append_inj' hx rfl
    cases e1; cases e2
    exact .inr ⟨h1, hn⟩
def acA1 : Nat → Kd := upd (emptyA 128) 1 (.cls 1 1)
def acA2 : Nat → Kd := upd acA1 2 (.cls 0 1)
def acA3 : Nat → Kd := upd acA2 2 (.cls 0 3)
theorem ac1 : Goes 128 (emptyA 128) 3 64 acA1 := Goes.free 1 (by decide) (by decide) rfl (fun t ht => by
    obtain rfl : t = 0 := by omega
    simp [emptyA]) (fun t => by unfold emptyA; split <;> rfl)
theorem ac2 : Goes 128 acA1 2 128 acA2 := Goes.free 2 (by decide) (by decide) rfl (fun t ht => by
    rcases (show t = 0 ∨ t = 1 by omega) with rfl | rfl <;> simp [acA1, upd, emptyA]) (fun t => by
    by_cases h : t = 1
    · subst h; rfl
    · have : acA1 t = .free ∨ acA1 t = .tail := by
        unfold acA1 emptyA
        rw [upd_ne _ _ h]
        split
        · exact .inl rfl
        · exact .inr rfl
      rcases this with e | e <;> rw [e] <;> rfl)
theorem ac3 : Goes 128 acA2 2 130 acA3 := by
  have := Goes.op (n := 128) (A := acA2) (m := 2) 2 1 (by decide) (by decide) rfl (by decide) (fun t ht => by
    rcases (show t = 0 ∨ t = 1 by omega) with rfl | rfl <;> rfl)
  rw [show lowP 1 = 1 by decide] at this
  exact this
theorem ac_all {r1 r2 r3 : Rw} (h1 : r1.W.length = 2) (h2 : r2.W.length = 1) (h3 : r3.W.length = 1) {A : Nat → Kd} {l : List (Nat × Rw)} (h : Mch [r1, r2, r3] A l) : A = acA3 ∧ l = [(64, r1), (128, r2), (130, r3)] := by
  have h' : Mch ([r1, r2] ++ [r3]) A l := h
  have n1 : Mch [r1] acA1 [(64, r1)] := .put [] _ _ [] r1 64 .nil (by rw [h1]; exact ac1)
  have key1 : ∀ A l, Mch [r1] A l → A = acA1 ∧ l = [(64, r1)] := fun A l h => by
    rcases Mch.snoc (rs := []) h with ⟨A0, l0, a, h0, g, e⟩ | ⟨h0, hn⟩
    · obtain ⟨rfl, rfl⟩ := h0.nilInv
      rw [h1] at g
      obtain ⟨rfl, rfl⟩ := ac1.det g
      exact ⟨rfl, e⟩
    · obtain ⟨rfl, rfl⟩ := h0.nilInv
      rw [h1] at hn
      exact (ac1.not hn).elim
  have key2 : ∀ A l, Mch [r1, r2] A l → A = acA2 ∧ l = [(64, r1), (128, r2)] := fun A l h => by
    rcases Mch.snoc (rs := [r1]) h with ⟨A0, l0, a, h0, g, e⟩ | ⟨h0, hn⟩
    · obtain ⟨rfl, rfl⟩ := key1 _ _ h0
      rw [h2] at g
      obtain ⟨rfl, rfl⟩ := ac2.det g
      exact ⟨rfl, e⟩
    · obtain ⟨rfl, rfl⟩ := key1 _ _ h0
      rw [h2] at hn
      exact (ac2.not hn).elim
  rcases Mch.snoc h' with ⟨A0, l0, a, h0, g, e⟩ | ⟨h0, hn⟩
  · obtain ⟨rfl, rfl⟩ := key2 _ _ h0
    rw [h3] at g
    obtain ⟨rfl, rfl⟩ := ac3.det g
    exact ⟨rfl, e⟩
  · obtain ⟨rfl, rfl⟩ := key2 _ _ h0
    rw [h3] at hn
    exact (ac3.not hn).elim
theorem ac_inv : Inv 128 acA3 := ac3.inv (ac2.inv (ac1.inv (emptyA_inv 128) (by decide)) (by decide)) (by decide)
theorem ac_room : roomN acA3 64 = 4 ∧ roomN acA3 128 = 2 ∧ roomN acA3 130 = 2 := by decide
/-- The words of the example. -/
structure AcW (wd : Nat → Int) : Prop where
  a0 : wd 64 = 4294967298
  a1 : wd 65 = 128
  a2 : wd 66 = 7
  b0 : wd 128 = 2147483649
theorem ac_words {r1 r2 r3 : Rw} (e1 : r1.kd = 2 ∧ r1.sz = 2 ∧ r1.ms = 0 ∧ r1.W = [-2, 7]) (e2 : r2.kd = 1 ∧ r2.sz = 1 ∧ r2.ms = 0) {wd : Nat → Int} (h : Wds acA3 [(64, r1), (128, r2), (130, r3)] wd (Gto [(64, r1), (128, r2), (130, r3)] 3 0)) : AcW wd := by
  obtain ⟨kd1, sz1, ms1, wa1, wc1, W1⟩ := r1
  obtain ⟨kd2, sz2, ms2, wa2, wc2, W2⟩ := r2
  obtain ⟨rfl, rfl, rfl, rfl⟩ := e1
  obtain ⟨rfl, rfl, rfl⟩ := e2
  obtain ⟨q1, q2, q3⟩ := ac_room
  generalize hl : [(64, (⟨2, 2, 0, wa1, wc1, [-2, 7]⟩ : Rw)), (128, (⟨1, 1, 0, wa2, wc2, W2⟩ : Rw)), (130, r3)] = l at h
  have g := fun j q (hj : j < l.length) (hq : q < roomN acA3 (adO l j)) => h j hj q hq
  subst hl
  exact ⟨g 0 0 (by simp) (by show 0 < roomN acA3 64; rw [q1]; decide), g 0 1 (by simp) (by show 1 < roomN acA3 64; rw [q1]; decide), g 0 2 (by simp) (by show 2 < roomN acA3 64; rw [q1]; decide), g 1 0 (by simp) (by show 0 < roomN acA3 128; rw [q2]; decide)⟩
theorem ac_refs : refB acA3 64 = true ∧ refB acA3 128 = true ∧ refB acA3 7 = false := by decide
theorem ac_kids {wd : Nat → Int} (h : AcW wd) : kids acA3 wd 64 = [128] ∧ kids acA3 wd 128 = [] := by
  obtain ⟨r1, r2, r3⟩ := ac_refs
  constructor
  · unfold kids
    rw [show (64 : Int).toNat = 64 from rfl, h.a0, if_pos ⟨by decide, by decide⟩, show min (hS 4294967298).toNat (roomI acA3 64 - 1) = 2 by decide]
    simp only [kidsTo, h.a0, h.a1, h.a2, Nat.reduceAdd, r2, r3]
    decide
  · unfold kids
    rw [show (128 : Int).toNat = 128 from rfl, h.b0, if_pos ⟨by decide, by decide⟩, show min (hS 2147483649).toNat (roomI acA3 128 - 1) = 1 by decide]
    simp only [kidsTo, h.b0]
    rw [show tellsB (hK 2147483649) (hM 2147483649) 0 = false by decide]
    rfl
theorem ac_reach {wd : Nat → Int} (h : AcW wd) (x : Int) : Reach (refB acA3) (kids acA3 wd) [64] x ↔ x = 64 ∨ x = 128 := by
  obtain ⟨k1, k2⟩ := ac_kids h
  obtain ⟨r1, r2, _⟩ := ac_refs
  constructor
  · intro hr
    induction hr with
    | root x hx _ => exact .inl (by simpa using hx)
    | kid x y _ hy _ ih =>
      rcases ih with rfl | rfl
      · rw [k1] at hy; exact .inr (by simpa using hy)
      · rw [k2] at hy; simp at hy
  · rintro (rfl | rfl)
    · exact .root _ (by simp) r1
    · exact .kid 64 _ (.root _ (by simp) r1) (by rw [k1]; simp) r2
theorem ac_blk : blkL acA3 128 = [64, 128, 130] := by
  refine sorted_eq _ _ (blkL_sorted ac_inv 128) (by decide) fun x => ?_
  rw [blkL_mem ac_inv x 128]
  have e0 : ∀ y, roomN (emptyA 128) y = 0 := fun y => by unfold roomN emptyA; split <;> rfl
  have i1 := ac1.inv (emptyA_inv 128) (by decide)
  have i2 := ac2.inv i1 (by decide)
  have hr : ∀ y, roomN acA3 y = if y = 130 then roomOfM 2 else if y = 128 then roomOfM 2 else if y = 64 then roomOfM 3 else 0 := fun y => by
    rw [(room_goes i2 ac3).2, (room_goes i1 ac2).2, (room_goes (emptyA_inv 128) ac1).2, e0]
  rw [hr x]
  constructor
  · rintro ⟨_, hx⟩
    by_cases h1 : x = 130
    · simp [h1]
    · by_cases h2 : x = 128
      · simp [h2]
      · by_cases h3 : x = 64
        · simp [h3]
        · simp [h1, h2, h3] at hx
  · intro hx
    simp at hx
    rcases hx with rfl | rfl | rfl <;> decide
end Go.Proofs.YtinmaogbfcmagaaDoor
