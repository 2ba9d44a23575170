/- Two queues of the program's side by side; orders that are permuted. -/
import Derived.Test.YtidacjkpioenhaaL2
namespace Go.Proofs.Ytidacjkpioenhaa
open Go.RowKit
def Two (w0 w : World) (p q : Nat) (S I T J : List Int) : Prop := ∃ B C : Qb, B.p = p ∧ C.p = q ∧ QAt w B S I ∧ QAt w C T J ∧ (∀ k, B.all k → w0.heap.size ≤ k) ∧ (∀ k, C.all k → w0.heap.size ≤ k) ∧ (∀ k, B.all k → ¬ C.all k) ∧ Fr (fun _ => False) w0 w
theorem Two.stepA {w0 w w' : World} {B B' C : Qb} {S I T J : List Int} (hr : QAt w C T J) (hb : ∀ k, B.all k → w0.heap.size ≤ k) (hc : ∀ k, C.all k → w0.heap.size ≤ k) (hs : ∀ k, B.all k → ¬ C.all k) (hf : Fr (fun _ => False) w0 w) (hm : Moved w B B') (hq : QAt w' B' S I) (hF : Fr B.own w w') : Two w0 w' B.p C.p S I T J := by
  have hsz := hf.size
  refine ⟨B', C, hm.p, rfl, hq, hr.fr hF fun j hj hk => hs j (all_of_own hk) hj, fun k hk => ?_, hc, fun k hk hc' => ?_, hf.up hF fun k hk => hb k (all_of_own hk)⟩
  · rcases hm.all k hk with h | h
    · exact hb k h
    · omega
  · rcases hm.all k hk with h | h
    · exact hs k h hc'
    · have := hr.lt k hc'; omega
theorem Two.swap {w0 w : World} {p q : Nat} {S I T J : List Int} (h : Two w0 w p q S I T J) : Two w0 w q p T J S I := by
  obtain ⟨B, C, rfl, rfl, hq, hr, hb, hc, hs, hf⟩ := h
  exact ⟨C, B, rfl, rfl, hr, hq, hc, hb, fun k hk hc' => hs k hc' hk, hf⟩
theorem Two.far {w0 w : World} {p q : Nat} {S I T J : List Int} (h : Two w0 w p q S I T J) : Fr (fun _ => False) w0 w := by
  obtain ⟨B, C, rfl, rfl, hq, hr, hb, hc, hs, hf⟩ := h
  exact hf
theorem Two.push {w0 w : World} {p q : Nat} {S I T J : List Int} (h : Two w0 w p q S I T J) (x : Int) (hl : I.length < 1000000) : Calls Try.prog 10 #[.pointer (some ⟨p, 0, none⟩), .int .i64 x] w fun e w' => e = .returned (.tuple #[]) ∧ Two w0 w' p q S (I ++ [x]) T J := by
  obtain ⟨B, C, rfl, rfl, hq, hr, hb, hc, hs, hf⟩ := h
  exact (Push_q w B S I x hq hl).mono fun e w' ⟨he, B', hm, hq', hF⟩ => ⟨he, Two.stepA hr hb hc hs hf hm hq' hF⟩
theorem Two.yield {w0 w : World} {p q : Nat} {S I T J : List Int} (h : Two w0 w p q S I T J) (x : Int) (hl : I.length < 1000000) : Calls Try.prog 11 #[.pointer (some ⟨p, 0, none⟩), .int .i64 x] w fun e w' => e = .returned (.int .i64 (yldV S I x)) ∧ Two w0 w' p q S.tail (yldI S I x) T J := by
  obtain ⟨B, C, rfl, rfl, hq, hr, hb, hc, hs, hf⟩ := h
  exact (Yield_q w B S I x hq hl).mono fun e w' ⟨he, B', hm, hq', hF⟩ => ⟨he, Two.stepA hr hb hc hs hf hm hq' hF⟩
theorem Two.len {w0 w : World} {p q : Nat} {S I T J : List Int} (h : Two w0 w p q S I T J) : Calls Try.prog 12 #[.pointer (some ⟨p, 0, none⟩)] w fun e w' => e = .returned (.int .i64 (I.length : Nat)) ∧ w = w' := by
  obtain ⟨B, C, rfl, rfl, hq, hr, hb, hc, hs, hf⟩ := h
  exact Len_q w B S I hq
theorem Two.quiet {w0 w w' : World} {p q : Nat} {S I T J : List Int} (h : Two w0 w p q S I T J) (k : Fr (fun _ => False) w w') : Two w0 w' p q S I T J := by
  obtain ⟨B, C, rfl, rfl, hq, hr, hb, hc, hs, hf⟩ := h
  exact ⟨B, C, rfl, rfl, hq.quiet k, hr.quiet k, hb, hc, hs, hf.trans k⟩
theorem Two.list {w0 w : World} {p q : Nat} {S I T J : List Int} (h : Two w0 w p q S I T J) (hl : I.length ≤ 1000000) : Calls Try.prog 13 #[.pointer (some ⟨p, 0, none⟩)] w (CloneP w I) := by
  obtain ⟨B, C, rfl, rfl, hq, hr, hb, hc, hs, hf⟩ := h
  exact List_q w B S I hq hl
theorem Two.right {w0 w : World} {p q : Nat} {S I T J : List Int} (h : Two w0 w p q S I T J) : Run w0 w q T J := by
  obtain ⟨B, C, rfl, rfl, hq, hr, hb, hc, hs, hf⟩ := h
  exact ⟨C, rfl, hr, hc, hf⟩
theorem Two.new {w0 w1 w2 : World} {B C : Qb} {S : List Int} (hf : Fr (fun _ => False) w0 w1) (hq : QAt w1 B S []) (hb : ∀ k, B.all k → w0.heap.size ≤ k) (hr : QAt w2 C [] []) (hc : ∀ k, C.all k → w1.heap.size ≤ k) (hF : Fr (fun _ => False) w1 w2) : Two w0 w2 B.p C.p S [] [] [] :=
  ⟨B, C, rfl, rfl, hq.quiet hF, hr, hb, fun k hk => by have := hc k hk; have := hf.size; omega, fun k hk hk' => by have := hq.lt k hk; have := hc k hk'; omega, hf.trans hF⟩
theorem perm_front : ∀ (X : List Int) (j : Nat) (h : j < X.length), (X[j] :: X.eraseIdx j).Perm X
  | a :: X, 0, _ => List.Perm.refl _
  | a :: X, j + 1, h => by
    have := perm_front X j (by simpa using h)
    simp only [List.getElem_cons_succ, List.eraseIdx_cons_succ]
    exact (List.Perm.swap _ _ _).trans (this.cons a)
theorem perm_erase (X : List Int) (pl : Nat) (h : pl < X.length) : (X.eraseIdx pl ++ [X.getD pl 0]).Perm X := by
  have e : X.getD pl 0 = X[pl] := by simp [List.getD, h]
  rw [e]
  exact (List.perm_append_singleton _ _).trans (perm_front X pl h)
theorem yld_perm (S I : List Int) (x : Int) : (yldI S I x ++ [yldV S I x]).Perm (I ++ [x]) := by
  unfold yldI yldV
  split
  · exact List.Perm.refl _
  · exact perm_erase (I ++ [x]) _ (by simp; exact Nat.mod_lt _ (by omega))
theorem yld_same (S I : List Int) (x : Int) : (yldI S I x).length = I.length := by
  have := (yld_perm S I x).length_eq
  simpa using this
theorem yld_none (J : List Int) (x : Int) : yldV [] J x = x ∧ yldI [] J x = J := by
  have : stays [] J = true := by unfold stays; simp [numN]
  unfold yldV yldI
  rw [if_pos this, if_pos this]
  exact ⟨rfl, rfl⟩
theorem perm_out {X R : List Int} {d : Int} {j : Nat} (h : X.Perm (d :: R)) (hj : j < X.length) (he : X.getD j 0 = d) : (X.eraseIdx j).Perm R := by
  have e : X.getD j 0 = X[j] := by simp [List.getD, hj]
  have h1 := (perm_front X j hj).trans h
  rw [← e, he] at h1
  exact h1.cons_inv
theorem nxt_first (J : List Int) (d : Int) : nxtV [] (d :: J) = d ∧ nxtI [] (d :: J) = J ∧ nxtB (d :: J) = true := by
  unfold nxtV nxtI nxtB
  simp [numN]
end Go.Proofs.Ytidacjkpioenhaa
