import Derived.Test.YtheknbfbneghgaaGreatDoorSpec2
set_option maxRecDepth 100000
namespace Go.Proofs.YtheknbfbneghgaaGreatDoor.Lx
def numV (t : List UInt8) : Int := t.foldl (fun v c => v * 10 + ((c.toNat : Int) - 48)) 0
def p10 : Nat → Int
 | 0 => 1
 | n + 1 => 10 * p10 n
theorem numV_snoc (t : List UInt8) (c : UInt8) : numV (t ++ [c]) = numV t * 10 + ((c.toNat : Int) - 48) := by simp [numV]
theorem isDig_bd (c : UInt8) (h : isDig c = true) : 48 ≤ (c.toNat : Int) ∧ (c.toNat : Int) ≤ 57 := by
 simp [isDig, digZ] at h
 omega
theorem numV_lt : ∀ (n : Nat) (t : List UInt8), t.length = n → (∀ c ∈ t, isDig c = true) → 0 ≤ numV t ∧ numV t < p10 n
 | 0, t, h, _ => by
   have : t = [] := List.eq_nil_of_length_eq_zero h
   subst this
   simp [numV, p10]
 | n + 1, t, h, hd => by
   rcases List.eq_nil_or_concat t with rfl | ⟨r, c, rfl⟩
   ·simp at h
   ·rw [List.concat_eq_append] at *
    have ih := numV_lt n r (by simpa using h) (fun c hc => hd c (by simp [hc]))
    have hb := isDig_bd c (hd c zK)
    rw [numV_snoc, p10]
    omega
theorem p10_mono (a b : Nat) (h : a ≤ b) : p10 a ≤ p10 b := by
 induction b with
 | zero => have : a = 0 := om
           subst this; exact Int.le_refl _
 | succ b ih =>
   rcases Nat.lt_or_ge a (b + 1) with h1 | h1
   ·have := ih om
    have hp : ∀ n, 0 < p10 n := fun n => by
     induction n with
     | zero => simp [p10]
     | succ n ih => simp [p10]; omega
    have := hp b
    simp only [p10]
    omega
   ·have : a = b + 1 := om
    subst this; exact Int.le_refl _
theorem numV_le17 (t : List UInt8) (h : t.length ≤ 17) (hd : ∀ c ∈ t, isDig c = true) : 0 ≤ numV t ∧ numV t ≤ 99999999999999999 := by
 have h1 := numV_lt t.length t rfl hd
 have h2 := p10_mono t.length 17 h
 have h3 : p10 17 = 100000000000000000 := by decide
 omega
theorem take_tw (p : UInt8 → Bool) : ∀ t : List UInt8, t.take (t.takeWhile p).length = t.takeWhile p
 | [] => rfl
 | c :: r => by
   by_cases h : p c = true
   ·simp [h, take_tw p r]
   ·simp [h]
theorem tw_all (p : UInt8 → Bool) : ∀ t : List UInt8, ∀ c ∈ t.takeWhile p, p c = true
 | [], c, h => by simp at h
 | d :: r, c, h => by
   by_cases hd : p d = true
   ·rw [List.takeWhile_cons_of_pos hd] at h
    rcases List.mem_cons.1 h with rfl | h
    ·exact hd
    ·exact tw_all p r c h
   ·rw [List.takeWhile_cons_of_neg hd] at h
    simp at h
theorem sub_run (p : UInt8 → Bool) (l : List UInt8) (k : Nat) : sub l k (yL p l k) = (l.drop k).takeWhile p := by
 unfold sub yL
 rw [Nat.add_sub_cancel_left]
 exact take_tw p _
theorem run_sub_all (p : UInt8 → Bool) (l : List UInt8) (k : Nat) : ∀ c ∈ sub l k (yL p l k), p c = true := by
 rw [sub_run]; exact tw_all p _
theorem toL_take (x : ByteArray) (j : Nat) (h : j < x.size) : x.toList.take (j + 1) = x.toList.take j ++ [x[j]] := by
 have h1 := toL_get x j h
 rw [List.take_add_one, h1]; rfl
def escC (d : UInt8) : Option UInt8 := if d = 110 then some 10 else if d = 34 then some 34 else if d = 92 then some 92 else none
def txt : List UInt8 → Option (List UInt8) × Nat
 | [] => (none, 0)
 | c :: r =>
   if c = 34 then (some [], 1)
   else if c = 92 then
    match r with
    | [] => (none, 0)
    | d :: r' =>
      match escC d with
      | none => (none, 0)
      | some x => ((txt r').1.map (x :: ·), (txt r').2 + 2)
   else if isPln c then ((txt r).1.map (c :: ·), (txt r).2 + 1)
   else (none, 0)
theorem txt_quote (r : List UInt8) : txt (34 :: r) = (some [], 1) := by rw [txt.eq_def]; simp
theorem txt_plain (c : UInt8) (r : List UInt8) (h : isPln c = true) : txt (c :: r) = ((txt r).1.map (c :: ·), (txt r).2 + 1) := by
 have h1 : c ≠ 34 := by rintro rfl; revert h; decide
 have h2 : c ≠ 92 := by rintro rfl; revert h; decide
 rw [txt.eq_def]; simp [h1, h2, h]
theorem txt_esc (d x : UInt8) (r : List UInt8) (h : escC d = some x) : txt (92 :: d :: r) = ((txt r).1.map (x :: ·), (txt r).2 + 2) := by
 rw [txt.eq_def]; simp [h]
theorem txt_stop (c : UInt8) (r : List UInt8) (h1 : isPln c = false) (h2 : c ≠ 34) (h3 : c ≠ 92) : txt (c :: r) = (none, 0) := by
 rw [txt.eq_def]; simp [h1, h2, h3]
theorem txt_bad (r : List UInt8) (h : ∀ d r', r = d :: r' → escC d = none) : txt (92 :: r) = (none, 0) := by
 cases r with
 | nil => rw [txt.eq_def]; simp
 | cons d r' => rw [txt.eq_def]; simp [h d r' rfl]
theorem txt_run : ∀ (t : List UInt8), txt t = ((txt (t.dropWhile isPln)).1.map ((t.takeWhile isPln) ++ ·), (txt (t.dropWhile isPln)).2 + (t.takeWhile isPln).length)
 | [] => by simp [txt]
 | c :: r => by
   by_cases h : isPln c = true
   ·rw [txt_plain c r h, List.dropWhile_cons_of_pos h, List.takeWhile_cons_of_pos h, txt_run r]
    simp only [Option.map_map, List.length_cons]
    refine Prod.ext ?_ ?_
    ·simp only
     congr 1
    ·simp only; omega
   ·rw [List.dropWhile_cons_of_neg h, List.takeWhile_cons_of_neg h]
    simp
theorem drop_run (p : UInt8 → Bool) (l : List UInt8) (j : Nat) : l.drop (yL p l j) = (l.drop j).dropWhile p := by
 unfold yL
 rw [← List.drop_drop]
 have : ∀ t : List UInt8, t.drop (t.takeWhile p).length = t.dropWhile p := fun t => by
  induction t with
  | nil => rfl
  | cons c r ih =>
    by_cases h : p c = true
    ·simp [h, ih]
    ·simp [h]
 exact this _
def TxtAt (l : List UInt8) (a j : Nat) (xs : List UInt8) : Prop := a ≤ j ∧ txt (l.drop a) = ((txt (l.drop j)).1.map (xs ++ ·), (txt (l.drop j)).2 + (j - a))
theorem TxtAt.start (l : List UInt8) (a : Nat) : TxtAt l a a [] := ⟨Nat.le_refl _, by simp⟩
theorem TxtAt.run {l : List UInt8} {a j : Nat} {xs : List UInt8} (h : TxtAt l a j xs) : TxtAt l a (yL isPln l j) (xs ++ sub l j (yL isPln l j)) := by
 have hg := re_ge isPln l j
 refine ⟨Nat.le_trans h.1 hg, ?_⟩
 have e : (l.drop j).takeWhile isPln = sub l j (yL isPln l j) := (sub_run isPln l j).symm
 have el : ((l.drop j).takeWhile isPln).length = yL isPln l j - j := by unfold yL; omega
 rw [h.2, txt_run (l.drop j), ← drop_run]
 have ha := h.1
 refine Prod.ext ?_ ?_
 ·simp only [Option.map_map, e]
  congr 1
  funext z
  simp
 ·simp only [el]; omega
theorem TxtAt.esc {l : List UInt8} {a j : Nat} {xs : List UInt8} {x : UInt8} (h : TxtAt l a j xs) (he : escF l j = some x) : TxtAt l a (j + 2) (xs ++ [x]) := by
 unfold escF at he
 split at he
 ·rename_i h1
  have h2 : ∃ d, l[j + 1]? = some d ∧ escC d = some x := by
   cases hd : l[j + 1]? with
   | none => rw [hd] at he; simp at he
   | some d => rw [hd] at he; exact ⟨d, rfl, by simpa [escC] using he⟩
  obtain ⟨d, hd, hx⟩ := h2
  refine ⟨by have := h.1; omega, ?_⟩
  rw [h.2, drop_cons_of l j 92 h1, drop_cons_of l (j + 1) d hd, txt_esc d x _ hx, show j + 1 + 1 = j + 2 from rfl]
  have ha := h.1
  refine Prod.ext ?_ ?_
  ·simp only [Option.map_map]
   congr 1
   funext z
   simp
  ·simp only; omega
 ·simp at he
theorem TxtAt.close {l : List UInt8} {a j : Nat} {xs : List UInt8} (h : TxtAt l a j xs) (hq : l[j]? = some 34) : txt (l.drop a) = (some xs, j + 1 - a) := by
 rw [h.2, drop_cons_of l j 34 hq, txt_quote]
 have ha := h.1
 simp; omega
theorem TxtAt.out {l : List UInt8} {a j : Nat} {xs : List UInt8} (h : TxtAt l a j xs) (hq : l.length ≤ j) : txt (l.drop a) = (none, j - a) := by
 rw [h.2, List.drop_eq_nil_of_le hq, txt]; simp
theorem TxtAt.bad {l : List UInt8} {a j : Nat} {xs : List UInt8} {c : UInt8} (h : TxtAt l a j xs) (hc : l[j]? = some c) (hp : isPln c = false) (hq : c ≠ 34) (he : escF l j = none) : txt (l.drop a) = (none, j - a) := by
 have e : txt (l.drop j) = (none, 0) := by
  rw [drop_cons_of l j c hc]
  by_cases h9 : c = 92
  ·subst h9
   refine txt_bad _ fun d r' hr => ?_
   have hd : l[j + 1]? = some d := by
    have := congrArg List.head? hr
    rw [List.head?_drop] at this
    simpa using this
   unfold escF at he
   rw [if_pos hc, hd] at he
   simpa [escC] using he
  ·exact txt_stop c _ hp hq h9
 rw [h.2, e]; simp
theorem run_stop (p : UInt8 → Bool) (l : List UInt8) (j : Nat) (c : UInt8) (h : l[yL p l j]? = some c) : p c = false := by
 have e := drop_run p l j
 rw [drop_cons_of l _ c h] at e
 cases hp : p c with
 | false => rfl
 | true =>
   have : ∀ t : List UInt8, ∀ r, t.dropWhile p = c :: r → False := fun t => by
    induction t with
    | nil => intro r h; simp at h
    | cons d q ih =>
      intro r h
      by_cases hd : p d = true
      ·rw [List.dropWhile_cons_of_pos hd] at h; exact ih r h
      ·rw [List.dropWhile_cons_of_neg hd] at h
       have := (List.cons.inj h).1
       rw [this] at hd; exact hd hp
   exact (this _ _ e.symm).elim
end Go.Proofs.YtheknbfbneghgaaGreatDoor.Lx
