/- What is met, what is reached: plainly. -/
import Derived.Test.YtogjblikljggbaaDoorHd
import Derived.Test.YtogjblikljggbaaDoorAb2
namespace Go.Proofs.YtogjblikljggbaaDoor
open Go.RowKit Go.Proofs.YtogjblikljggbaaDoor.Hp

def stepM (R : Int → Bool) (s : List Int × List Int) (z : Int) : List Int × List Int := if s.1.contains z || !R z then s else (s.1 ++ [z], s.2 ++ [z])
def meetM (R : Int → Bool) (s : List Int × List Int) (zs : List Int) : List Int × List Int := zs.foldl (stepM R) s
theorem meetM_nil (R : Int → Bool) (s : List Int × List Int) : meetM R s [] = s := rfl
theorem meetM_snoc (R : Int → Bool) (s : List Int × List Int) (zs : List Int) (z : Int) : meetM R s (zs ++ [z]) = stepM R (meetM R s zs) z := by simp [meetM, List.foldl_append]
/-- What meeting words does. -/
structure Met (R : Int → Bool) (s : List Int × List Int) (zs : List Int) (t : List Int × List Int) : Prop where
  mem : ∀ x, x ∈ t.1 ↔ x ∈ s.1 ∨ (x ∈ zs ∧ R x = true)
  nd : s.1.Nodup → t.1.Nodup
  len : t.1.length + s.2.length = s.1.length + t.2.length
  le : s.1.length ≤ t.1.length
  old : ∀ x, x ∈ s.2 → x ∈ t.2
  new : ∀ x, x ∈ t.1 → x ∈ s.1 ∨ x ∈ t.2
  sub : ∀ x, x ∈ t.2 → x ∈ s.2 ∨ x ∈ t.1
theorem meetM_met (R : Int → Bool) (s : List Int × List Int) : ∀ zs : List Int, ∀ t, Met R s zs t → ∀ z, Met R s (zs ++ [z]) (stepM R t z) := by
  intro zs t h z
  unfold stepM
  by_cases e : (t.1.contains z || !R z) = true
  · rw [if_pos e]
    refine ⟨fun x => ?_, h.nd, h.len, h.le, h.old, h.new, h.sub⟩
    rw [h.mem x]
    constructor
    · rintro (a | ⟨a, b⟩)
      · exact .inl a
      · exact .inr ⟨by simp [a], b⟩
    · rintro (a | ⟨a, b⟩)
      · exact .inl a
      · rcases List.mem_append.1 a with a | a
        · exact .inr ⟨a, b⟩
        · obtain rfl : x = z := by simpa using a
          rw [b] at e
          have : x ∈ t.1 := by simpa using e
          exact (h.mem x).1 this
  · rw [if_neg e]
    have hz : z ∉ t.1 ∧ R z = true := by
      cases hr : R z <;> simp [hr] at e
      exact ⟨e, rfl⟩
    refine ⟨fun x => ?_, fun hs => ?_, ?_, ?_, fun x hx => ?_, fun x hx => ?_, fun x hx => ?_⟩
    · show x ∈ t.1 ++ [z] ↔ _
      rw [List.mem_append, h.mem x]
      constructor
      · rintro ((a | ⟨a, b⟩) | a)
        · exact .inl a
        · exact .inr ⟨by simp [a], b⟩
        · obtain rfl : x = z := by simpa using a
          exact .inr ⟨by simp, hz.2⟩
      · rintro (a | ⟨a, b⟩)
        · exact .inl (.inl a)
        · rcases List.mem_append.1 a with a | a
          · exact .inl (.inr ⟨a, b⟩)
          · exact .inr a
    · show (t.1 ++ [z]).Nodup
      rw [List.nodup_append]
      refine ⟨h.nd hs, by simp, fun a ha b hb => ?_⟩
      rintro rfl
      obtain rfl : a = z := by simpa using hb
      exact hz.1 ha
    · show (t.1 ++ [z]).length + s.2.length = s.1.length + (t.2 ++ [z]).length
      have := h.len
      simp; omega
    · show s.1.length ≤ (t.1 ++ [z]).length
      have := h.le
      simp; omega
    · show x ∈ t.2 ++ [z]
      exact List.mem_append.2 (.inl (h.old x hx))
    · rcases List.mem_append.1 hx with a | a
      · rcases h.new x a with b | b
        · exact .inl b
        · exact .inr (List.mem_append.2 (.inl b))
      · exact .inr (List.mem_append.2 (.inr a))
    · rcases List.mem_append.1 hx with a | a
      · rcases h.sub x a with b | b
        · exact .inl b
        · exact .inr (List.mem_append.2 (.inl b))
      · exact .inr (List.mem_append.2 (.inr a))
theorem met_all (R : Int → Bool) (s : List Int × List Int) : ∀ (k : Nat) (zs : List Int), k ≤ zs.length → Met R s (zs.take k) (meetM R s (zs.take k))
  | 0, zs, _ => by
    rw [List.take_zero, meetM_nil]
    exact ⟨fun x => by simp, id, rfl |> fun _ => by omega, Nat.le_refl _, fun _ h => h, fun _ h => .inl h, fun _ h => .inl h⟩
  | k + 1, zs, hk => by
    have ih := met_all R s k zs (by omega)
    rw [List.take_succ_eq_append_getElem (by omega), meetM_snoc]
    exact meetM_met R s _ _ ih _
theorem met_full (R : Int → Bool) (s : List Int × List Int) (zs : List Int) : Met R s zs (meetM R s zs) := by
  have := met_all R s zs.length zs (Nat.le_refl _)
  rwa [List.take_length] at this
theorem meetM_len (R : Int → Bool) (s : List Int × List Int) (zs : List Int) : (meetM R s zs).1.length ≤ s.1.length + zs.length ∧ (meetM R s zs).2.length ≤ s.2.length + zs.length := by
  induction zs generalizing s with
  | nil => simp [meetM]
  | cons z zs ih =>
    have := ih (stepM R s z)
    have e : meetM R s (z :: zs) = meetM R (stepM R s z) zs := rfl
    rw [e]
    have h1 : (stepM R s z).1.length ≤ s.1.length + 1 ∧ (stepM R s z).2.length ≤ s.2.length + 1 := by
      unfold stepM
      split
      · omega
      · simp
    simp only [List.length_cons]
    omega
theorem meet_take {R : Int → Bool} {s : List Int × List Int} {zs : List Int} {k : Nat} (hk : k < zs.length) : meetM R s (zs.take (k + 1)) = stepM R (meetM R s (zs.take k)) (zs.getD k 0) := by
  rw [List.take_succ_eq_append_getElem hk, meetM_snoc]
  simp [List.getD, List.getElem?_eq_getElem hk]

/-- What is reached from words. -/
inductive Reach (R : Int → Bool) (K : Int → List Int) (roots : List Int) : Int → Prop
  | root (x : Int) : x ∈ roots → R x = true → Reach R K roots x
  | kid (x y : Int) : Reach R K roots x → y ∈ K x → R y = true → Reach R K roots y
theorem Reach.ref {R : Int → Bool} {K : Int → List Int} {roots : List Int} {x : Int} (h : Reach R K roots x) : R x = true := by cases h <;> assumption
theorem Reach.mono {R : Int → Bool} {K : Int → List Int} {r1 r2 : List Int} (hs : ∀ x ∈ r1, x ∈ r2) {x : Int} (h : Reach R K r1 x) : Reach R K r2 x := by
  induction h with
  | root x h1 h2 => exact .root x (hs x h1) h2
  | kid x y _ h2 h3 ih => exact .kid x y ih h2 h3
structure MkI (R : Int → Bool) (K : Int → List Int) (roots ks wt : List Int) : Prop where
  nd : ks.Nodup
  sound : ∀ x ∈ ks, Reach R K roots x
  rts : ∀ x ∈ roots, R x = true → x ∈ ks
  sub : ∀ x ∈ wt, x ∈ ks
  cl : ∀ x ∈ ks, x ∈ wt ∨ ∀ y ∈ K x, R y = true → y ∈ ks
theorem MkI.start (R : Int → Bool) (K : Int → List Int) (roots : List Int) : MkI R K roots (meetM R ([], []) roots).1 (meetM R ([], []) roots).2 := by
  have h := met_full R ([], []) roots
  generalize meetM R ([], []) roots = t at h
  refine ⟨h.nd List.Pairwise.nil, fun x hx => ?_, fun x hx hr => (h.mem x).2 (.inr ⟨hx, hr⟩), fun x hx => ?_, fun x hx => ?_⟩
  · rcases (h.mem x).1 hx with a | ⟨a, b⟩
    · simp at a
    · exact .root x a b
  · rcases h.sub x hx with a | a
    · simp at a
    · exact a
  · rcases h.new x hx with a | a
    · simp at a
    · exact .inl a
theorem MkI.step {R : Int → Bool} {K : Int → List Int} {roots ks wt : List Int} {a : Int} (h : MkI R K roots ks (wt ++ [a])) : MkI R K roots (meetM R (ks, wt) (K a)).1 (meetM R (ks, wt) (K a)).2 ∧ (meetM R (ks, wt) (K a)).1.length + wt.length = ks.length + (meetM R (ks, wt) (K a)).2.length := by
  have m := met_full R (ks, wt) (K a)
  generalize meetM R (ks, wt) (K a) = t at m
  have ha : a ∈ ks := h.sub a (by simp)
  refine ⟨⟨m.nd h.nd, fun x hx => ?_, fun x hx hr => (m.mem x).2 (.inl (h.rts x hx hr)), fun x hx => ?_, fun x hx => ?_⟩, m.len⟩
  · rcases (m.mem x).1 hx with b | ⟨b, c⟩
    · exact h.sound x b
    · exact .kid a x (h.sound a ha) b c
  · rcases m.sub x hx with b | b
    · exact (m.mem x).2 (.inl (h.sub x (List.mem_append.2 (.inl b))))
    · exact b
  · rcases m.new x hx with b | b
    · rcases h.cl x b with c | c
      · rcases List.mem_append.1 c with d | d
        · exact .inl (m.old x d)
        · obtain rfl : x = a := by simpa using d
          exact .inr fun y hy hr => (m.mem y).2 (.inr ⟨hy, hr⟩)
      · exact .inr fun y hy hr => (m.mem y).2 (.inl (c y hy hr))
    · exact .inl b
theorem MkI.done {R : Int → Bool} {K : Int → List Int} {roots ks : List Int} (h : MkI R K roots ks []) (x : Int) : x ∈ ks ↔ Reach R K roots x := by
  constructor
  · exact h.sound x
  · intro hr
    induction hr with
    | root x h1 h2 => exact h.rts x h1 h2
    | kid x y _ h2 h3 ih =>
      rcases h.cl x ih with c | c
      · simp at c
      · exact c y h2 h3
theorem nd_le : ∀ (N : Nat) (l : List Int), l.Nodup → (∀ x ∈ l, 0 ≤ x ∧ x < N) → l.length ≤ N
  | 0, l, _, h => by
    cases l with
    | nil => simp
    | cons a l => have := h a (by simp); omega
  | N + 1, l, hn, h => by
    have h1 := nd_le N (l.erase (N : Int)) (hn.erase _) fun x hx => by
      have hx' := (hn.mem_erase_iff).1 hx
      have := h x hx'.2
      have := hx'.1
      omega
    have h2 := List.length_erase (a := (N : Int)) (l := l)
    split at h2 <;> omega
/-- Whether a word is a reference. -/
def refB (A : Nat → Kd) (x : Int) : Bool := decide (roomI A x ≠ 0)
theorem refB_iff {A : Nat → Kd} {x : Int} : refB A x = true ↔ roomI A x ≠ 0 := by simp [refB]
theorem ref_nat {n : Nat} {A : Nat → Kd} (hI : Inv n A) {x : Int} (h : refB A x = true) : ∃ y : Nat, x = y ∧ roomN A y ≠ 0 ∧ 64 ≤ y ∧ y + roomN A y ≤ 64 * n ∧ y % 2 = 0 := by
  rw [refB_iff] at h
  unfold roomI at h
  by_cases h0 : 0 ≤ x
  · rw [if_pos h0] at h
    obtain ⟨y, rfl⟩ := Int.eq_ofNat_of_zero_le h0
    rw [Int.toNat_natCast] at h
    have := room_in hI h
    exact ⟨y, rfl, h, this.1, this.2.1, this.2.2⟩
  · rw [if_neg h0] at h; exact absurd rfl h
theorem ref_cast {A : Nat → Kd} {x : Nat} : refB A (x : Int) = true ↔ roomN A x ≠ 0 := by
  rw [refB_iff]; unfold roomI; rw [if_pos (by omega), Int.toNat_natCast]
/-- The references among the first k words behind the header of the block at x. -/
def kidsTo (A : Nat → Kd) (wd : Nat → Int) (x : Nat) : Nat → List Int
  | 0 => []
  | k + 1 => kidsTo A wd x k ++ (if tellsB (hK (wd x)) (hM (wd x)) k && refB A (wd (x + (k + 1))) then [wd (x + (k + 1))] else [])
def kids (A : Nat → Kd) (wd : Nat → Int) (z : Int) : List Int :=
  if roomI A z ≠ 0 ∧ IsH (wd z.toNat) then kidsTo A wd z.toNat (min (hS (wd z.toNat)).toNat (roomI A z - 1)) else []
theorem kidsTo_ref {A : Nat → Kd} {wd : Nat → Int} {x : Nat} {y : Int} : ∀ {k : Nat}, y ∈ kidsTo A wd x k → refB A y = true
  | 0, h => by simp [kidsTo] at h
  | k + 1, h => by
    rcases List.mem_append.1 h with h | h
    · exact kidsTo_ref h
    · split at h
      · rename_i hc
        simp only [Bool.and_eq_true] at hc
        obtain rfl : y = _ := by simpa using h
        exact hc.2
      · simp at h
theorem kids_ref {A : Nat → Kd} {wd : Nat → Int} {z y : Int} (h : y ∈ kids A wd z) : refB A y = true := by
  unfold kids at h
  split at h
  · exact kidsTo_ref h
  · simp at h
theorem kidsTo_len (A : Nat → Kd) (wd : Nat → Int) (x : Nat) : ∀ k, (kidsTo A wd x k).length ≤ k
  | 0 => by simp [kidsTo]
  | k + 1 => by
    have := kidsTo_len A wd x k
    unfold kidsTo
    rw [List.length_append]
    split <;> simp <;> omega
end Go.Proofs.YtogjblikljggbaaDoor
