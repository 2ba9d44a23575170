import Derived.Test.YtgckmkiiheaeaaaGreatDoorSpec2
namespace Go.Proofs.YtgckmkiiheaeaaaGreatDoor.Lx
def numV (t : List UInt8) : Int := t.foldl (fun v c => v * 10 + ((c.toNat : Int) - 48)) 0
def p10 : Nat → Int
 | 0 => 1
 | n + 1 => 10 * p10 n
theorem numV_snoc (t : List UInt8) (c : UInt8) : numV (t ++ [c]) = numV t * 10 + ((c.toNat : Int) - 48) := by simp [numV]
theorem isDig_bd (c : UInt8) (h : isDig c = true) : 48 ≤ (c.toNat : Int) ∧ (c.toNat : Int) ≤ 57 := by
 simp [isDig, digZ] at h
 omega
theorem numV_lt : ∀ (n : Nat) (t : List UInt8), t.length = n → (∀ c ∈ t, isDig c = true) → 0 ≤ numV t ∧ numV t < p10 n
 | 0, t, h, _ => by
   have : t = [] := List.eq_nil_of_length_eq_zero h
   subst this
   simp [numV, p10]
 | n + 1, t, h, hd => by
   rcases List.eq_nil_or_concat t with rfl | ⟨r, c, rfl⟩
   ·simp at h
   ·rw [List.concat_eq_append] at *
    have ih := numV_lt n r (by simpa using h) (fun c hc => hd c (by simp [hc]))
    have hb := isDig_bd c (hd c (by simp))
    rw [numV_snoc, p10]
    omega
theorem p10_mono (a b : Nat) (h : a ≤ b) : p10 a ≤ p10 b := by
 induction b with
 | zero => have : a = 0 := by omega
           subst this; exact Int.le_refl _
 | succ b ih =>
   rcases Nat.lt_or_ge a (b + 1) with h1 | h1
   ·have := ih (by omega)
    have hp : ∀ n, 0 < p10 n := fun n => by
     induction n with
     | zero => simp [p10]
     | succ n ih => simp [p10]; omega
    have := hp b
    simp only [p10]
    omega
   ·have : a = b + 1 := by omega
    subst this; exact Int.le_refl _
theorem numV_le17 (t : List UInt8) (h : t.length ≤ 17) (hd : ∀ c ∈ t, isDig c = true) : 0 ≤ numV t ∧ numV t ≤ 99999999999999999 := by
 have h1 := numV_lt t.length t rfl hd
 have h2 := p10_mono t.length 17 h
 have h3 : p10 17 = 100000000000000000 := by decide
 omega
theorem take_tw (p : UInt8 → Bool) : ∀ t : List UInt8, t.take (t.takeWhile p).length = t.takeWhile p
 | [] => rfl
 | c :: r => by
   by_cases h : p c = true
   ·simp [h, take_tw p r]
   ·simp [h]
theorem tw_all (p : UInt8 → Bool) : ∀ t : List UInt8, ∀ c ∈ t.takeWhile p, p c = true
 | [], c, h => by simp at h
 | d :: r, c, h => by
   by_cases hd : p d = true
   ·rw [List.takeWhile_cons_of_pos hd] at h
    rcases List.mem_cons.1 h with rfl | h
    ·exact hd
    ·exact tw_all p r c h
   ·rw [List.takeWhile_cons_of_neg hd] at h
    simp at h
theorem sub_run (p : UInt8 → Bool) (l : List UInt8) (k : Nat) : sub l k (runEnd p l k) = (l.drop k).takeWhile p := by
 unfold sub runEnd
 rw [Nat.add_sub_cancel_left]
 exact take_tw p _
theorem run_sub_all (p : UInt8 → Bool) (l : List UInt8) (k : Nat) : ∀ c ∈ sub l k (runEnd p l k), p c = true := by
 rw [sub_run]; exact tw_all p _
theorem toL_take (x : ByteArray) (j : Nat) (h : j < x.size) : x.toList.take (j + 1) = x.toList.take j ++ [x[j]] := by
 have h1 := toL_get x j h
 rw [List.take_add_one, h1]; rfl
end Go.Proofs.YtgckmkiiheaeaaaGreatDoor.Lx
