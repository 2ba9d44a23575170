/- Those who wait: one more, one out. -/
import Derived.Test.YtidacjkpioenhaaM2
import Derived.Deep.RegionLaw
namespace Go.Proofs.Ytidacjkpioenhaa
open Go.RowKit
/-- The queue's blocks behind a call: those ahead of it, or a new one for those who wait. -/
structure Moved (w : World) (B B' : Qb) : Prop where
  p : B'.p = B.p
  sb : B'.sb = B.sb
  ib : B'.ib = B.ib ∨ ∃ g, B'.ib = some g ∧ w.heap.size ≤ g
theorem Moved.refl (w : World) (B : Qb) : Moved w B B := ⟨rfl, rfl, .inl rfl⟩
theorem Moved.trans {w w' : World} {A B C : Qb} (h : Moved w A B) (hw : w.heap.size ≤ w'.heap.size) (k : Moved w' B C) : Moved w A C := by
  refine ⟨k.p.trans h.p, k.sb.trans h.sb, ?_⟩
  rcases k.ib with e | ⟨g, e, hg⟩
  · rw [e]; exact h.ib
  · exact .inr ⟨g, e, by omega⟩
theorem Moved.own {w : World} {B B' : Qb} (h : Moved w B B') (k : Nat) (hk : B'.own k) : B.own k ∨ w.heap.size ≤ k := by
  rcases hk with e | e
  · exact .inl (.inl (by rw [e, h.p]))
  · rcases h.ib with e' | ⟨g, e', hg⟩
    · exact .inl (.inr (by rw [← e', e]))
    · rw [e'] at e; cases e; exact .inr hg
theorem Moved.all {w : World} {B B' : Qb} (h : Moved w B B') (k : Nat) (hk : B'.all k) : B.all k ∨ w.heap.size ≤ k := by
  rcases hk with e | e | e
  · exact .inl (.inl (by rw [e, h.p]))
  · rcases h.ib with e' | ⟨g, e', hg⟩
    · exact .inl (.inr (.inl (by rw [← e', e])))
    · rw [e'] at e; cases e; exact .inr hg
  · exact .inl (.inr (.inr (by rw [← h.sb, e])))
/-- Two calls on one queue, one behind the other. -/
theorem Fr.two {w w1 w2 : World} {B B1 : Qb} (h : Fr B.own w w1) (m : Moved w B B1) (k : Fr B1.own w1 w2) : Fr B.own w w2 :=
  ⟨k.os.trans h.os, k.tape.trans h.tape, k.output.trans h.output, Nat.le_trans h.size k.size, fun i hi hn => (k.block i (Nat.lt_of_lt_of_le hi h.size) (fun x => by
    rcases m.own i x with y | y
    · exact hn y
    · omega)).trans (h.block i hi hn)⟩
def PushP (w : World) (B : Qb) (S I : List Int) (e : Ending) (w' : World) : Prop := e = .returned (.tuple #[]) ∧ ∃ B', Moved w B B' ∧ QAt w' B' S I ∧ Fr B.own w w'
set_option maxHeartbeats 1000000 in
theorem Push_q (w : World) (B : Qb) (S I : List Int) (x : Int) (h : QAt w B S I) (hl : I.length < 1000000) :
    Calls Try.prog 10 #[.pointer (some ⟨B.p, 0, none⟩), .int .i64 x] w (PushP w B S (I ++ [x])) := by
  obtain ⟨v, c1, o1⟩ := h.vi
  have f1 := h.f1
  obtain ⟨ao, cap, rfl, hle, _⟩ := o1.form
  have hpl := h.plt
  obtain ⟨w1, hw1⟩ : ∃ w1, w1 = w.alloc (.cells #[.int .i64 x] 3) := ⟨_, rfl⟩
  have F1 : Fr (fun _ => False) w w1 := by rw [hw1]; exact (Fr.refl _ w).alloc _
  have HO : Hid (Own w1 (.slice ao I.length cap) B.ib I) := hide (o1.fr F1 fun _ _ => id)
  have HY : Hid (IntsAt w1 (some ⟨w.heap.size, 0, none⟩) [x]) := hide fun j hj => ⟨w.heap.size, 0, rfl, by rw [hw1]; simp, by
    obtain rfl : j = 0 := by simpa using hj
    rw [hw1]; simp⟩
  have HE : Hid (∀ ao' c' ib' w2, Own w2 (.slice ao' (I.length + 1) c') ib' (I ++ [x]) → Grew w1 w2 B.ib ib' → w2.cell? ⟨B.p, 1, none⟩ = some (.slice ao I.length cap) ∧ w2.frozen? ⟨B.p, 1, none⟩ = false ∧ PushP w B S (I ++ [x]) (.returned (.tuple #[])) (w2.setCell ⟨B.p, 1, none⟩ (.slice ao' (I.length + 1) c'))) := hide fun ao' c' ib' w2 ho hg => by
    have hnp : ¬ (B.ib = some B.p) := h.pi
    have F2 : Fr B.own w w2 := (F1.mono fun _ x => x.elim).trans (hg.fr.mono fun k hk => .inr hk)
    have hib : ib' = B.ib ∨ ∃ g, ib' = some g ∧ w.heap.size ≤ g := by
      rcases hg.at_ with e | e
      · exact .inl e
      · exact .inr ⟨_, e, by rw [hw1]; simp⟩
    refine ⟨(hg.fr.cell (F1.cell c1 id) hnp), hg.fr.free (by have := F1.size; omega) (F1.free hpl f1 id) hnp, rfl, ⟨B.p, B.sb, ib'⟩, ⟨rfl, rfl, hib⟩, ?_, F2.setCell (p := ⟨B.p, 1, none⟩) (.inl rfl) _⟩
    obtain ⟨vs, c0, o0⟩ := h.vs
    have hsz := F1.size
    refine QAt.mkI (hg.fr.cell (F1.cell c0 id) hnp) ((o0.fr F1 fun _ _ => id).fr hg.fr fun g e e2 => h.si g e e2) (hg.fr.cell (F1.cell c1 id) hnp) (hg.fr.free (by omega) (F1.free hpl h.f0 id) hnp) (hg.fr.free (by omega) (F1.free hpl f1 id) hnp) h.ps h.rg h.le ho ?_ ?_
    · rcases hib with e | ⟨g, e, hg⟩
      · rw [e]; exact h.pi
      · intro e'; rw [e] at e'; cases e'; omega
    · intro k hk
      rcases hib with e | ⟨g, e, hg⟩
      · rw [e]; exact h.si k hk
      · intro e'; rw [e] at e'; cases e'; have := o0.lt k hk; omega
  clear h o1
  obtain ⟨n, hn⟩ : ∃ n, n = I.length := ⟨_, rfl⟩
  have HIl : Hid (n = I.length) := hide hn
  rw [← hn] at c1 HO HE hl hle
  clear hn F1
  go_enter Try.func10, Try.ntmps10
  go_wp2_with (at_builtin; rw [← hw1]; refine wpList_app rfl _ _ rfl (.slice ao n cap) B.ib I rfl (unhide HO) (some ⟨w.heap.size, 0, none⟩) 1 1 [x] rfl rfl (unhide HY) (by have := unhide HIl; simp; omega) ?_; intro ao' c' ib' w2 ho hg; rw [← unhide HIl] at ho ⊢; obtain ⟨c12, f12, hP⟩ := unhide HE ao' c' ib' w2 ho hg; have HP := hide hP; clear hP ho hg)
  go_end0
  exact unhide HP
end Go.Proofs.Ytidacjkpioenhaa
