/- SweepHeads, walked. -/
import Derived.Test.YtinmaogbfcmagaaDoorEq1
import Derived.BigQuiet
namespace Go.Proofs.YtinmaogbfcmagaaDoor
open Go.RowKit Go.Proofs.YtinmaogbfcmagaaDoor.Hp
theorem hdr_inj {a0 a1 a2 b0 b1 b2 : Int} (h : Right a0 a1 a2) : hdr a0 a1 a2 = hdr b0 b1 b2 ↔ (a0 = b0 ∧ a1 = b1 ∧ a2 = b2) := by
  constructor
  · intro e
    have hb : Right b0 b1 b2 := Classical.byContradiction fun hn => by
      have := hdr_zero.2 hn
      rw [this] at e
      exact (hdr_zero.1 e) h
    obtain ⟨_, x1, x2, x3⟩ := hdr_open h
    obtain ⟨_, y1, y2, y3⟩ := hdr_open hb
    rw [e] at x1 x2 x3
    exact ⟨x1.symm.trans y1, x2.symm.trans y2, x3.symm.trans y3⟩
  · rintro ⟨rfl, rfl, rfl⟩; rfl
set_option maxRecDepth 100000 in
set_option maxHeartbeats 1000000 in
theorem heads_right (a0 a1 a2 b0 b1 b2 x : Int) (w : World) (hV : Vars w) (ha : (Lit.int .i64 a0).wf = true ∧ (Lit.int .i64 a1).wf = true ∧ (Lit.int .i64 a2).wf = true) (hb : (Lit.int .i64 b0).wf = true ∧ (Lit.int .i64 b1).wf = true ∧ (Lit.int .i64 b2).wf = true) (hR : Right a0 a1 a2) : Calls Tryd.prog 3 #[.agg #[.int .i64 a0, .int .i64 a1, .int .i64 a2], .agg #[.int .i64 b0, .int .i64 b1, .int .i64 b2], .int .i64 x] w fun e w' => e = .returned (.bool true) ∧ Below w.heap.size w w' := by
  have q0 : Fr (fun _ => False) w ((w.alloc (.cells #[.int .i64 a0, .int .i64 a1, .int .i64 a2] 22)).alloc (.cells #[.int .i64 b0, .int .i64 b1, .int .i64 b2] 22)) := ((Fr.refl _ w).alloc _).alloc _
  have HA := hide (anchor_any _ (hV.fr q0 id id))
  have HQ := hide q0
  have HW : Hid (∀ j, ((w.alloc (.cells #[.int .i64 a0, .int .i64 a1, .int .i64 a2] 22)).alloc (.cells #[.int .i64 b0, .int .i64 b1, .int .i64 b2] 22)).cell? ⟨w.heap.size, j, none⟩ = (#[.int .i64 a0, .int .i64 a1, .int .i64 a2] : Array Value)[j]? ∧ ((w.alloc (.cells #[.int .i64 a0, .int .i64 a1, .int .i64 a2] 22)).alloc (.cells #[.int .i64 b0, .int .i64 b1, .int .i64 b2] 22)).cell? ⟨w.heap.size + 1, j, none⟩ = (#[.int .i64 b0, .int .i64 b1, .int .i64 b2] : Array Value)[j]?) := hide fun j => by
    constructor
    · rw [World.cell?_of_block (w := w.alloc (.cells #[.int .i64 a0, .int .i64 a1, .int .i64 a2] 22)) (a := ⟨w.heap.size, j, none⟩) (((Fr.refl (fun _ => False) _).alloc _).block w.heap.size (by simp) id), World.cell?_alloc_at _ _ _ _ rfl]
    · rw [World.cell?_alloc_at _ _ _ _ (by simp)]
  clear hV q0
  go_enter Tryd.func3, Tryd.ntmps3
  go_wp2_with fail
  generalize ((w.alloc (.cells #[.int .i64 a0, .int .i64 a1, .int .i64 a2] 22)).alloc (.cells #[.int .i64 b0, .int .i64 b1, .int .i64 b2] 22)) = w0 at *
  refine (unhide HA).mono ?_
  rintro e w1 ⟨rfl, hF1, _⟩
  have hl0 : w.heap.size < w0.heap.size := World.block_lt_of_cell? w0 ⟨w.heap.size, 0, none⟩ (unhide HW 0).1
  have hl1 : w.heap.size + 1 < w0.heap.size := World.block_lt_of_cell? w0 ⟨w.heap.size + 1, 0, none⟩ (unhide HW 0).2
  have ca0 : w1.cell? ⟨w.heap.size, 0, none⟩ = some (.int .i64 a0) := cell_far hF1 hl0 (unhide HW 0).1
  have ca1 : w1.cell? ⟨w.heap.size, 1, none⟩ = some (.int .i64 a1) := cell_far hF1 hl0 (unhide HW 1).1
  have ca2 : w1.cell? ⟨w.heap.size, 2, none⟩ = some (.int .i64 a2) := cell_far hF1 hl0 (unhide HW 2).1
  have cb0 : w1.cell? ⟨w.heap.size + 1, 0, none⟩ = some (.int .i64 b0) := cell_far hF1 hl1 (unhide HW 0).2
  have cb1 : w1.cell? ⟨w.heap.size + 1, 1, none⟩ = some (.int .i64 b1) := cell_far hF1 hl1 (unhide HW 1).2
  have cb2 : w1.cell? ⟨w.heap.size + 1, 2, none⟩ = some (.int .i64 b2) := cell_far hF1 hl1 (unhide HW 2).2
  have HB := hide ((unhide HQ).trans hF1)
  clear hF1 hl0 hl1 HA HW HQ
  obtain ⟨s, hs⟩ : ∃ s, s = w.heap.size := ⟨_, rfl⟩
  rw [← hs] at ca0 ca1 ca2 cb0 cb1 cb2 ⊢
  clear hs
  have HOa : Hid (∀ w', Calls Tryd.prog 10 #[.int .i64 (hdr a0 a1 a2)] w' fun e w'' => e = .returned (.tuple #[.int .i64 a0, .int .i64 a1, .int .i64 a2, .bool true]) ∧ w'' = w') := hide fun w' => by
    obtain ⟨x1, x2, x3, x4⟩ := hdr_open hR
    have := Open_yes _ w' x1
    have e1 : hdr a0 a1 a2 / 2147483648 = a0 := x2
    have e2 : hdr a0 a1 a2 % 32768 = a1 := x3
    have e3 : hdr a0 a1 a2 / 32768 % 65536 = a2 := x4
    rw [e1, e2, e3] at this
    exact this
  have hne : hdr a0 a1 a2 ≠ 0 := fun e => (hdr_zero.1 e) hR
  have hneb : (hdr a0 a1 a2 != 0) = true := by simpa using hne
  have heq := fun w' => eq_arr ha hb w'
  have hin : (hdr a0 a1 a2 == hdr b0 b1 b2) = decide (a0 = b0 ∧ a1 = b1 ∧ a2 = b2) := by
    rw [Bool.eq_iff_iff]
    simp only [beq_iff_eq, decide_eq_true_eq]
    exact hdr_inj hR
  clear ha hb
  obtain ⟨r1, r2, r3, r4, r5, r6⟩ := hR
  have r7 : a2 < 65536 := by omega
  go_wp2
  go_quiet (first | (go_at_call 9; exact Calls.quiet_of_same (Header_any _ _ _ _)))
  generalize hdr a0 a1 a2 = Ha at *
  generalize hdr b0 b1 b2 = Hb at *
  obtain ⟨eqb, heqb⟩ : ∃ eqb : Bool, eqb = decide (a0 = b0 ∧ a1 = b1 ∧ a2 = b2) := ⟨_, rfl⟩
  rw [← heqb] at hin
  simp only [← heqb] at heq
  clear heqb
  by_cases hx : IsH x
  · have HOx : Hid (∀ w', Calls Tryd.prog 10 #[.int .i64 x] w' fun e w'' => e = .returned (.tuple #[.int .i64 (hK x), .int .i64 (hS x), .int .i64 (hM x), .bool true]) ∧ w'' = w') := hide fun w' => Open_yes x w' hx
    have HHx : Hid (∀ w', Calls Tryd.prog 9 #[.int .i64 (hK x), .int .i64 (hS x), .int .i64 (hM x)] w' fun e w'' => e = .returned (.int .i64 x) ∧ w'' = w') := hide fun w' => by
      have := Header_any (hK x) (hS x) (hM x) w'
      rw [hdr_is, if_pos hx] at this
      exact this
    generalize hK x = xk at *
    generalize hS x = xs at *
    generalize hM x = xm at *
    clear hx
    go_wp2_with fail
    refine (unhide HOa _).mono ?_
    rintro e w' ⟨rfl, rfl⟩
    go_wp2_with fail
    refine (unhide HOx _).mono ?_
    rintro e w' ⟨rfl, rfl⟩
    go_wp2_with fail
    refine (unhide HHx _).mono ?_
    rintro e w' ⟨rfl, rfl⟩
    go_wp2
    go_ret
    exact ⟨rfl, ((unhide HB).drewN _).below (Nat.le_refl _) (fun k (x : False) => x.elim)⟩
  · have HOx : Hid (∀ w', Calls Tryd.prog 10 #[.int .i64 x] w' fun e w'' => e = .returned (.tuple #[.int .i64 0, .int .i64 0, .int .i64 0, .bool false]) ∧ w'' = w') := hide fun w' => Open_no x w' hx
    clear hx
    go_wp2_with fail
    refine (unhide HOa _).mono ?_
    rintro e w' ⟨rfl, rfl⟩
    go_wp2_with fail
    refine (unhide HOx _).mono ?_
    rintro e w' ⟨rfl, rfl⟩
    go_wp2
    go_ret
    exact ⟨rfl, ((unhide HB).drewN _).below (Nat.le_refl _) (fun k (x : False) => x.elim)⟩
set_option maxRecDepth 100000 in
set_option maxHeartbeats 1000000 in
theorem heads_wrong (a0 a1 a2 b0 b1 b2 x : Int) (w : World) (hV : Vars w) (hR : ¬ Right a0 a1 a2) : Calls Tryd.prog 3 #[.agg #[.int .i64 a0, .int .i64 a1, .int .i64 a2], .agg #[.int .i64 b0, .int .i64 b1, .int .i64 b2], .int .i64 x] w fun e w' => e = .returned (.bool true) ∧ Below w.heap.size w w' := by
  have q0 : Fr (fun _ => False) w ((w.alloc (.cells #[.int .i64 a0, .int .i64 a1, .int .i64 a2] 22)).alloc (.cells #[.int .i64 b0, .int .i64 b1, .int .i64 b2] 22)) := ((Fr.refl _ w).alloc _).alloc _
  have HA := hide (anchor_any _ (hV.fr q0 id id))
  have HQ := hide q0
  have HW : Hid (∀ j, ((w.alloc (.cells #[.int .i64 a0, .int .i64 a1, .int .i64 a2] 22)).alloc (.cells #[.int .i64 b0, .int .i64 b1, .int .i64 b2] 22)).cell? ⟨w.heap.size, j, none⟩ = (#[.int .i64 a0, .int .i64 a1, .int .i64 a2] : Array Value)[j]? ∧ ((w.alloc (.cells #[.int .i64 a0, .int .i64 a1, .int .i64 a2] 22)).alloc (.cells #[.int .i64 b0, .int .i64 b1, .int .i64 b2] 22)).cell? ⟨w.heap.size + 1, j, none⟩ = (#[.int .i64 b0, .int .i64 b1, .int .i64 b2] : Array Value)[j]?) := hide fun j => by
    constructor
    · rw [World.cell?_of_block (w := w.alloc (.cells #[.int .i64 a0, .int .i64 a1, .int .i64 a2] 22)) (a := ⟨w.heap.size, j, none⟩) (((Fr.refl (fun _ => False) _).alloc _).block w.heap.size (by simp) id), World.cell?_alloc_at _ _ _ _ rfl]
    · rw [World.cell?_alloc_at _ _ _ _ (by simp)]
  clear hV q0
  go_enter Tryd.func3, Tryd.ntmps3
  go_wp2_with fail
  generalize ((w.alloc (.cells #[.int .i64 a0, .int .i64 a1, .int .i64 a2] 22)).alloc (.cells #[.int .i64 b0, .int .i64 b1, .int .i64 b2] 22)) = w0 at *
  refine (unhide HA).mono ?_
  rintro e w1 ⟨rfl, hF1, _⟩
  have hl0 : w.heap.size < w0.heap.size := World.block_lt_of_cell? w0 ⟨w.heap.size, 0, none⟩ (unhide HW 0).1
  have hl1 : w.heap.size + 1 < w0.heap.size := World.block_lt_of_cell? w0 ⟨w.heap.size + 1, 0, none⟩ (unhide HW 0).2
  have ca0 : w1.cell? ⟨w.heap.size, 0, none⟩ = some (.int .i64 a0) := cell_far hF1 hl0 (unhide HW 0).1
  have ca1 : w1.cell? ⟨w.heap.size, 1, none⟩ = some (.int .i64 a1) := cell_far hF1 hl0 (unhide HW 1).1
  have ca2 : w1.cell? ⟨w.heap.size, 2, none⟩ = some (.int .i64 a2) := cell_far hF1 hl0 (unhide HW 2).1
  have cb0 : w1.cell? ⟨w.heap.size + 1, 0, none⟩ = some (.int .i64 b0) := cell_far hF1 hl1 (unhide HW 0).2
  have cb1 : w1.cell? ⟨w.heap.size + 1, 1, none⟩ = some (.int .i64 b1) := cell_far hF1 hl1 (unhide HW 1).2
  have cb2 : w1.cell? ⟨w.heap.size + 1, 2, none⟩ = some (.int .i64 b2) := cell_far hF1 hl1 (unhide HW 2).2
  have HB := hide ((unhide HQ).trans hF1)
  clear hF1 hl0 hl1 HA HW HQ
  obtain ⟨s, hs⟩ : ∃ s, s = w.heap.size := ⟨_, rfl⟩
  rw [← hs] at ca0 ca1 ca2 cb0 cb1 cb2 ⊢
  clear hs
  have HOa : Hid (∀ w', Calls Tryd.prog 10 #[.int .i64 0] w' fun e w'' => e = .returned (.tuple #[.int .i64 0, .int .i64 0, .int .i64 0, .bool false]) ∧ w'' = w') := hide fun w' => Open_no 0 w' (by decide)
  have hz := hdr_zero.2 hR
  have hc : a0 < 1 ∨ (1 ≤ a0 ∧ 4 < a0) ∨ (1 ≤ a0 ∧ a0 ≤ 4 ∧ a1 < 0) ∨ (1 ≤ a0 ∧ a0 ≤ 4 ∧ 0 ≤ a1 ∧ 16447 < a1) ∨ (1 ≤ a0 ∧ a0 ≤ 4 ∧ 0 ≤ a1 ∧ a1 ≤ 16447 ∧ a2 < 0) ∨ (1 ≤ a0 ∧ a0 ≤ 4 ∧ 0 ≤ a1 ∧ a1 ≤ 16447 ∧ 0 ≤ a2 ∧ 65536 ≤ a2) := by
    unfold Right at hR
    omega
  clear hR
  rcases hc with h1 | ⟨h1, h2⟩ | ⟨h1, h2, h3⟩ | ⟨h1, h2, h3, h4⟩ | ⟨h1, h2, h3, h4, h5⟩ | ⟨h1, h2, h3, h4, h5, h6⟩
  all_goals (
    go_wp2
    go_quiet (first | (go_at_call 9; exact Calls.quiet_of_same (Header_any _ _ _ _)))
    rw [hz]
    clear hz
    generalize hdr b0 b1 b2 = Hb at *
    by_cases hx : IsH x
    · have HOx : Hid (∀ w', Calls Tryd.prog 10 #[.int .i64 x] w' fun e w'' => e = .returned (.tuple #[.int .i64 (hK x), .int .i64 (hS x), .int .i64 (hM x), .bool true]) ∧ w'' = w') := hide fun w' => Open_yes x w' hx
      have HHx : Hid (∀ w', Calls Tryd.prog 9 #[.int .i64 (hK x), .int .i64 (hS x), .int .i64 (hM x)] w' fun e w'' => e = .returned (.int .i64 x) ∧ w'' = w') := hide fun w' => by
        have := Header_any (hK x) (hS x) (hM x) w'
        rw [hdr_is, if_pos hx] at this
        exact this
      generalize hK x = xk at *
      generalize hS x = xs at *
      generalize hM x = xm at *
      clear hx
      go_wp2_with fail
      refine (unhide HOa _).mono ?_
      rintro e w' ⟨rfl, rfl⟩
      go_wp2_with fail
      refine (unhide HOx _).mono ?_
      rintro e w' ⟨rfl, rfl⟩
      go_wp2_with fail
      refine (unhide HHx _).mono ?_
      rintro e w' ⟨rfl, rfl⟩
      go_wp2
      go_ret
      exact ⟨rfl, ((unhide HB).drewN _).below (Nat.le_refl _) (fun k (x : False) => x.elim)⟩
    · have HOx : Hid (∀ w', Calls Tryd.prog 10 #[.int .i64 x] w' fun e w'' => e = .returned (.tuple #[.int .i64 0, .int .i64 0, .int .i64 0, .bool false]) ∧ w'' = w') := hide fun w' => Open_no x w' hx
      clear hx
      go_wp2_with fail
      refine (unhide HOa _).mono ?_
      rintro e w' ⟨rfl, rfl⟩
      go_wp2_with fail
      refine (unhide HOx _).mono ?_
      rintro e w' ⟨rfl, rfl⟩
      go_wp2
      go_ret
      exact ⟨rfl, ((unhide HB).drewN _).below (Nat.le_refl _) (fun k (x : False) => x.elim)⟩)
theorem heads_w (a0 a1 a2 b0 b1 b2 x : Int) (w : World) (hV : Vars w) (ha : (Lit.int .i64 a0).wf = true ∧ (Lit.int .i64 a1).wf = true ∧ (Lit.int .i64 a2).wf = true) (hb : (Lit.int .i64 b0).wf = true ∧ (Lit.int .i64 b1).wf = true ∧ (Lit.int .i64 b2).wf = true) (_hx : (Lit.int .i64 x).wf = true) : Calls Tryd.prog 3 #[.agg #[.int .i64 a0, .int .i64 a1, .int .i64 a2], .agg #[.int .i64 b0, .int .i64 b1, .int .i64 b2], .int .i64 x] w fun e w' => e = .returned (.bool true) ∧ Below w.heap.size w w' := by
  by_cases h : Right a0 a1 a2
  · exact heads_right a0 a1 a2 b0 b1 b2 x w hV ha hb h
  · exact heads_wrong a0 a1 a2 b0 b1 b2 x w hV h
end Go.Proofs.YtinmaogbfcmagaaDoor
