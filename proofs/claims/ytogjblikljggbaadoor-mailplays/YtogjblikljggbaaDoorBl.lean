/- Spans; Blocks of an empty heap. -/
import Derived.Test.YtogjblikljggbaaDoorOc
import Derived.Test.YtogjblikljggbaaDoorRe2
namespace Go.Proofs.YtogjblikljggbaaDoor
open Go.RowKit Go.Proofs.YtogjblikljggbaaDoor.Hp
set_option maxHeartbeats 1000000 in
theorem Spans_any (B : HB) (n : Nat) (R : HR) (w : World) (h : At w B n R) : Calls Tryd.prog 36 #[B.ptr] w fun e w' => e = .returned (.int .i64 (cntN R.fr (64 * setM n))) ∧ w' = w := by
  have c2 := h.c2
  have HC := hide (count_any B.bf (setM n) R.fr w (setM_le h.hi) h.fr)
  clear h
  unfold HB.ptr
  go_enter Tryd.func36, Tryd.ntmps36
  go_wp2_with (first | (go_at_call 47; refine (unhide HC).mono ?_; rintro e w' ⟨rfl, rfl⟩))
  go_ret
  exact ⟨rfl, rfl⟩
theorem cnt_empty (n : Nat) (hn : 1 ≤ n) : ∀ k, cntN (fun s => frK (emptyA n s)) k = min k n - 1
  | 0 => by simp [cntN]
  | k + 1 => by
    rw [cntN, cnt_empty n hn k]
    unfold emptyA
    by_cases h : 1 ≤ k ∧ k < n
    · rw [if_pos h]; simp [frK]; omega
    · rw [if_neg h]; simp [frK]; omega
/-- Where no block is, the heap is the empty one. -/
theorem empty_of {n : Nat} {A : Nat → Kd} (h : Inv n A) (hz : ∀ x, roomN A x = 0) : A = emptyA n := by
  funext t
  unfold emptyA
  by_cases h1 : 1 ≤ t ∧ t < n
  · rw [if_pos h1]; exact all_free h hz t h1.1 h1.2
  · rw [if_neg h1]
    by_cases h0 : t = 0
    · rw [h0]; exact h.zero
    · exact h.past t (by omega)
theorem Spans_empty (B : HB) (n : Nat) (wd : Nat → Int) (w : World) (h : At w B n (hrOf (emptyA n) wd)) : Calls Tryd.prog 36 #[B.ptr] w fun e w' => e = .returned (.int .i64 ((n - 1 : Nat) : Int)) ∧ w' = w := by
  have hl := h.lo
  refine (Spans_any B n _ w h).mono ?_
  rintro e w' ⟨rfl, rfl⟩
  have : cntN (hrOf (emptyA n) wd).fr (64 * setM n) = n - 1 := by
    show cntN (fun s => frK (emptyA n s)) (64 * setM n) = n - 1
    rw [cnt_empty n (by omega)]
    have : n ≤ 64 * setM n := by unfold setM; omega
    omega
  rw [this]
  exact ⟨rfl, rfl⟩
set_option maxHeartbeats 1000000 in
theorem Blocks_empty (B : HB) (n : Nat) (wd : Nat → Int) (w : World) (h : At w B n (hrOf (emptyA n) wd)) : Calls Tryd.prog 35 #[B.ptr] w fun e w' => e = .returned (.slice none 0 0) ∧ Fr (fun _ => False) w w' := by
  have c1 := h.c1
  have hh := h.hi
  have hus : Hid (∀ s, s < n → w.cell? ⟨B.bs, s * 2, none⟩ = some (.int .i64 0) ∧ w.cell? ⟨B.bs, s * 2 + 1, none⟩ = some (.int .u32 0)) := hide fun s hs => by
    have e1 : (hrOf (emptyA n) wd).rm s = 0 := by show rmK (emptyA n s) = 0; unfold emptyA; split <;> rfl
    have e2 : (hrOf (emptyA n) wd).us s = 0 := by show usK (emptyA n s) = 0; unfold emptyA; split <;> rfl
    have a := h.cr s hs
    have b := h.cu s hs
    rw [e1] at a
    rw [e2] at b
    exact ⟨a, b⟩
  have HL : Hid (B.bs < w.heap.size) := hide h.lts.2.2.1
  clear h
  unfold HB.ptr
  go_enter Tryd.func35, Tryd.ntmps35
  go_wp2
  go_loopw [3, 12] (fun v i wr => ∃ s : Nat, s ≤ n ∧ i = .int .i64 s ∧ v = .slice none 0 0 ∧ Fr (fun _ => False) w wr) (fun _ i _ => n - (intOf i).toNat)
  case atStart => exact ⟨0, by omega, rfl, rfl, Fr.refl _ _⟩
  case round =>
    obtain ⟨s, hs, rfl, rfl, hF⟩ := hrel
    by_cases hlt : s < n
    · have cr : wr.cell? ⟨B.bs, s * 2, none⟩ = some (.int .i64 0) := (World.cell?_of_block (w := w) (a := ⟨B.bs, s * 2, none⟩) (hF.block B.bs (unhide HL) id)).trans (unhide hus s hlt).1
      have cu : wr.cell? ⟨B.bs, s * 2 + 1, none⟩ = some (.int .u32 0) := (World.cell?_of_block (w := w) (a := ⟨B.bs, s * 2 + 1, none⟩) (hF.block B.bs (unhide HL) id)).trans (unhide hus s hlt).2
      have HF := hide hF
      clear hF
      go_wp2
      refine wp_loop_rounds 1 ?_
      rw [rounds_succ]
      go_wp2
      go_roundw
      case rel => exact ⟨s + 1, by omega, by go_num, rfl, (unhide HF).alloc _⟩
      case measure => simp [intOf]; omega
    · have HF := hide hF
      clear hF
      go_wp2
      go_ret
      exact ⟨rfl, unhide HF⟩
end Go.Proofs.YtogjblikljggbaaDoor
