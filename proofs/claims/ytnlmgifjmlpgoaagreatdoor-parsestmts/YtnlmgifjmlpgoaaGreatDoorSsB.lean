/- ParseStmts, walked: three ways. -/
import Derived.Test.YtnlmgifjmlpgoaaGreatDoorQe
set_option linter.unusedVariables false
set_option linter.unusedSimpArgs false
set_option maxRecDepth 100000
namespace Go.Proofs.YtnlmgifjmlpgoaaGreatDoor
open Go.RowKit Go.Proofs.YtnlmgifjmlpgoaaGreatDoor.Lx Go.Proofs.YtnlmgifjmlpgoaaGreatDoor.Px

abbrev exOB : Obj := .cells #[.string ⟨#[120]⟩, .string ⟨#[97, 91, 49, 93]⟩, .string ⟨#[112, 46, 102]⟩, .string ⟨#[102, 40, 41]⟩, .string ⟨#[40, 120, 41]⟩, .string ⟨#[40, 102, 40, 41, 41]⟩, .string ⟨#[97, 91, 49, 58, 93]⟩, .string ⟨#[108, 101, 110, 40, 97, 41]⟩, .string ⟨#[109, 97, 107, 101, 40, 91, 93, 105, 110, 116, 44, 32, 49, 41]⟩, .string ⟨#[49]⟩, .string ⟨#[97, 91, 49, 93, 40, 50, 41]⟩] 9
set_option maxHeartbeats 40000000 in
theorem stmts_3y (x : Int) (hx : x = 3 ∨ x = 7 ∨ x = 10) (w : World) (hv : Vars w) : Calls Tryz.prog 7 #[.int .i64 x, .int .i64 3] w fun e w' => e = .returned (.bool true) ∧ Below w.heap.size w w' := by
  have HA := hide (anchor_any w hv)
  have HV := hide hv
  have hcv := conv_one
  clear hv
  rcases hx with rfl | rfl | rfl <;>
    (go_enter Tryz.func7, Tryz.ntmps7
     go_wp2_with fail
     refine (unhide HA).mono ?_
     rintro e w1 ⟨rfl, B1⟩
     have hz1 := B1.size
     go_wp2
     refine wp_loop_rounds 5 ?_
     iterate 4 (rw [rounds_succ]; go_wp2)
     rw [rounds_succ]
     go_wp2_with fail
     refine (fine_at _ true _ ?_ ((unhide HV).below (unhide HV).lt ?_)).mono ?_
     · kernel_rfl
     · repeat (first | with_reducible exact B1 | with_reducible refine Below.drew ?_ | (with_reducible refine Below.alloc ?_ (by first | omega | (simp <;> omega)) _))
     rintro e w2 ⟨rfl, B2⟩
     have B2' : Below w.heap.size w w2 := Below.trans (b := _) (by repeat (first | with_reducible exact B1 | with_reducible refine Below.drew ?_ | (with_reducible refine Below.alloc ?_ (by first | omega | (simp <;> omega)) _))) ⟨B2.os, B2.tape, B2.output, B2.size, fun k hk => B2.block k (by first | omega | (simp <;> omega))⟩
     have hz3 := B2'.size
     have bx2 : BL w2 w1.heap.size exOB := BL.below (by (repeat (first | with_reducible assumption | with_reducible refine BL.drew ?_ | (with_reducible refine BL.new ?_; (first | omega | (simp <;> omega))) | with_reducible refine BL.alloc ?_ _))) B2 (by first | omega | (simp <;> omega))
     have hl2 := bx2.lt
     have zc2 := bx2.cell
     clear B2
     go_wp2_with fail
     refine (fine_at _ true _ ?_ ((unhide HV).below (unhide HV).lt B2')).mono ?_
     · kernel_rfl
     rintro e w3 ⟨rfl, B3⟩
     have B3' : Below w.heap.size w w3 := Below.trans B2' ⟨B3.os, B3.tape, B3.output, B3.size, fun k hk => B3.block k (by have := B2'.size; omega)⟩
     have bx3 : BL w3 w1.heap.size exOB := BL.below bx2 B3 (by omega)
     have hl3 := bx3.lt
     have zc3 := bx3.cell
     clear zc2 bx2
     go_wp2_with fail
     refine (fine_at _ true _ ?_ ((unhide HV).below (unhide HV).lt B3')).mono ?_
     · kernel_rfl
     rintro e w4 ⟨rfl, B4⟩
     have B4' : Below w.heap.size w w4 := Below.trans B3' ⟨B4.os, B4.tape, B4.output, B4.size, fun k hk => B4.block k (by have := B3'.size; omega)⟩
     go_wp2
     exact bodyPost_ret (v := .bool true) (by simp [results, Tryz.results7, go_sem]) rfl ⟨rfl, B4'⟩)

set_option maxHeartbeats 40000000 in
theorem stmts_3n (x : Int) (hx : x = 0 ∨ x = 1 ∨ x = 2 ∨ x = 4) (w : World) (hv : Vars w) : Calls Tryz.prog 7 #[.int .i64 x, .int .i64 3] w fun e w' => e = .returned (.bool true) ∧ Below w.heap.size w w' := by
  have HA := hide (anchor_any w hv)
  have HV := hide hv
  have hcv := conv_one
  clear hv
  rcases hx with rfl | rfl | rfl | rfl <;>
    (go_enter Tryz.func7, Tryz.ntmps7
     go_wp2_with fail
     refine (unhide HA).mono ?_
     rintro e w1 ⟨rfl, B1⟩
     have hz1 := B1.size
     go_wp2
     refine wp_loop_rounds 5 ?_
     iterate 4 (rw [rounds_succ]; go_wp2)
     rw [rounds_succ]
     go_wp2_with fail
     refine (fine_at _ false _ ?_ ((unhide HV).below (unhide HV).lt ?_)).mono ?_
     · kernel_rfl
     · repeat (first | with_reducible exact B1 | with_reducible refine Below.drew ?_ | (with_reducible refine Below.alloc ?_ (by first | omega | (simp <;> omega)) _))
     rintro e w2 ⟨rfl, B2⟩
     have B2' : Below w.heap.size w w2 := Below.trans (b := _) (by repeat (first | with_reducible exact B1 | with_reducible refine Below.drew ?_ | (with_reducible refine Below.alloc ?_ (by first | omega | (simp <;> omega)) _))) ⟨B2.os, B2.tape, B2.output, B2.size, fun k hk => B2.block k (by first | omega | (simp <;> omega))⟩
     have hz3 := B2'.size
     have bx2 : BL w2 w1.heap.size exOB := BL.below (by (repeat (first | with_reducible assumption | with_reducible refine BL.drew ?_ | (with_reducible refine BL.new ?_; (first | omega | (simp <;> omega))) | with_reducible refine BL.alloc ?_ _))) B2 (by first | omega | (simp <;> omega))
     have hl2 := bx2.lt
     have zc2 := bx2.cell
     clear B2
     go_wp2_with fail
     refine (fine_at _ true _ ?_ ((unhide HV).below (unhide HV).lt B2')).mono ?_
     · kernel_rfl
     rintro e w3 ⟨rfl, B3⟩
     have B3' : Below w.heap.size w w3 := Below.trans B2' ⟨B3.os, B3.tape, B3.output, B3.size, fun k hk => B3.block k (by have := B2'.size; omega)⟩
     have bx3 : BL w3 w1.heap.size exOB := BL.below bx2 B3 (by omega)
     have hl3 := bx3.lt
     have zc3 := bx3.cell
     clear zc2 bx2
     go_wp2_with fail
     refine (fine_at _ true _ ?_ ((unhide HV).below (unhide HV).lt B3')).mono ?_
     · kernel_rfl
     rintro e w4 ⟨rfl, B4⟩
     have B4' : Below w.heap.size w w4 := Below.trans B3' ⟨B4.os, B4.tape, B4.output, B4.size, fun k hk => B4.block k (by have := B3'.size; omega)⟩
     go_wp2
     exact bodyPost_ret (v := .bool true) (by simp [results, Tryz.results7, go_sem]) rfl ⟨rfl, B4'⟩)

set_option maxHeartbeats 40000000 in
theorem stmts_3m (x : Int) (hx : x = 5 ∨ x = 6 ∨ x = 8 ∨ x = 9) (w : World) (hv : Vars w) : Calls Tryz.prog 7 #[.int .i64 x, .int .i64 3] w fun e w' => e = .returned (.bool true) ∧ Below w.heap.size w w' := by
  have HA := hide (anchor_any w hv)
  have HV := hide hv
  have hcv := conv_one
  clear hv
  rcases hx with rfl | rfl | rfl | rfl <;>
    (go_enter Tryz.func7, Tryz.ntmps7
     go_wp2_with fail
     refine (unhide HA).mono ?_
     rintro e w1 ⟨rfl, B1⟩
     have hz1 := B1.size
     go_wp2
     refine wp_loop_rounds 5 ?_
     iterate 4 (rw [rounds_succ]; go_wp2)
     rw [rounds_succ]
     go_wp2_with fail
     refine (fine_at _ false _ ?_ ((unhide HV).below (unhide HV).lt ?_)).mono ?_
     · kernel_rfl
     · repeat (first | with_reducible exact B1 | with_reducible refine Below.drew ?_ | (with_reducible refine Below.alloc ?_ (by first | omega | (simp <;> omega)) _))
     rintro e w2 ⟨rfl, B2⟩
     have B2' : Below w.heap.size w w2 := Below.trans (b := _) (by repeat (first | with_reducible exact B1 | with_reducible refine Below.drew ?_ | (with_reducible refine Below.alloc ?_ (by first | omega | (simp <;> omega)) _))) ⟨B2.os, B2.tape, B2.output, B2.size, fun k hk => B2.block k (by first | omega | (simp <;> omega))⟩
     have hz3 := B2'.size
     have bx2 : BL w2 w1.heap.size exOB := BL.below (by (repeat (first | with_reducible assumption | with_reducible refine BL.drew ?_ | (with_reducible refine BL.new ?_; (first | omega | (simp <;> omega))) | with_reducible refine BL.alloc ?_ _))) B2 (by first | omega | (simp <;> omega))
     have hl2 := bx2.lt
     have zc2 := bx2.cell
     clear B2
     go_wp2_with fail
     refine (fine_at _ true _ ?_ ((unhide HV).below (unhide HV).lt B2')).mono ?_
     · kernel_rfl
     rintro e w3 ⟨rfl, B3⟩
     have B3' : Below w.heap.size w w3 := Below.trans B2' ⟨B3.os, B3.tape, B3.output, B3.size, fun k hk => B3.block k (by have := B2'.size; omega)⟩
     have bx3 : BL w3 w1.heap.size exOB := BL.below bx2 B3 (by omega)
     have hl3 := bx3.lt
     have zc3 := bx3.cell
     clear zc2 bx2
     go_wp2_with fail
     refine (fine_at _ true _ ?_ ((unhide HV).below (unhide HV).lt B3')).mono ?_
     · kernel_rfl
     rintro e w4 ⟨rfl, B4⟩
     have B4' : Below w.heap.size w w4 := Below.trans B3' ⟨B4.os, B4.tape, B4.output, B4.size, fun k hk => B4.block k (by have := B3'.size; omega)⟩
     go_wp2
     exact bodyPost_ret (v := .bool true) (by simp [results, Tryz.results7, go_sem]) rfl ⟨rfl, B4'⟩)

set_option maxHeartbeats 40000000 in
theorem stmts_4y (x : Int) (hx : x = 3 ∨ x = 7 ∨ x = 10) (w : World) (hv : Vars w) : Calls Tryz.prog 7 #[.int .i64 x, .int .i64 4] w fun e w' => e = .returned (.bool true) ∧ Below w.heap.size w w' := by
  have HA := hide (anchor_any w hv)
  have HV := hide hv
  have hcv := conv_one
  clear hv
  rcases hx with rfl | rfl | rfl <;>
    (go_enter Tryz.func7, Tryz.ntmps7
     go_wp2_with fail
     refine (unhide HA).mono ?_
     rintro e w1 ⟨rfl, B1⟩
     have hz1 := B1.size
     go_wp2
     refine wp_loop_rounds 8 ?_
     iterate 7 (rw [rounds_succ]; go_wp2)
     rw [rounds_succ]
     go_wp2_with fail
     refine (fine_at _ true _ ?_ ((unhide HV).below (unhide HV).lt ?_)).mono ?_
     · kernel_rfl
     · repeat (first | with_reducible exact B1 | with_reducible refine Below.drew ?_ | (with_reducible refine Below.alloc ?_ (by first | omega | (simp <;> omega)) _))
     rintro e w2 ⟨rfl, B2⟩
     have B2' : Below w.heap.size w w2 := Below.trans (b := _) (by repeat (first | with_reducible exact B1 | with_reducible refine Below.drew ?_ | (with_reducible refine Below.alloc ?_ (by first | omega | (simp <;> omega)) _))) ⟨B2.os, B2.tape, B2.output, B2.size, fun k hk => B2.block k (by first | omega | (simp <;> omega))⟩
     have hz3 := B2'.size
     have bx2 : BL w2 w1.heap.size exOB := BL.below (by (repeat (first | with_reducible assumption | with_reducible refine BL.drew ?_ | (with_reducible refine BL.new ?_; (first | omega | (simp <;> omega))) | with_reducible refine BL.alloc ?_ _))) B2 (by first | omega | (simp <;> omega))
     have hl2 := bx2.lt
     have zc2 := bx2.cell
     clear B2
     go_wp2_with fail
     refine (fine_at _ true _ ?_ ((unhide HV).below (unhide HV).lt B2')).mono ?_
     · kernel_rfl
     rintro e w3 ⟨rfl, B3⟩
     have B3' : Below w.heap.size w w3 := Below.trans B2' ⟨B3.os, B3.tape, B3.output, B3.size, fun k hk => B3.block k (by have := B2'.size; omega)⟩
     have bx3 : BL w3 w1.heap.size exOB := BL.below bx2 B3 (by omega)
     have hl3 := bx3.lt
     have zc3 := bx3.cell
     clear zc2 bx2
     go_wp2_with fail
     refine (fine_at _ true _ ?_ ((unhide HV).below (unhide HV).lt B3')).mono ?_
     · kernel_rfl
     rintro e w4 ⟨rfl, B4⟩
     have B4' : Below w.heap.size w w4 := Below.trans B3' ⟨B4.os, B4.tape, B4.output, B4.size, fun k hk => B4.block k (by have := B3'.size; omega)⟩
     go_wp2
     exact bodyPost_ret (v := .bool true) (by simp [results, Tryz.results7, go_sem]) rfl ⟨rfl, B4'⟩)

set_option maxHeartbeats 40000000 in
theorem stmts_4n (x : Int) (hx : x = 0 ∨ x = 1 ∨ x = 2 ∨ x = 4) (w : World) (hv : Vars w) : Calls Tryz.prog 7 #[.int .i64 x, .int .i64 4] w fun e w' => e = .returned (.bool true) ∧ Below w.heap.size w w' := by
  have HA := hide (anchor_any w hv)
  have HV := hide hv
  have hcv := conv_one
  clear hv
  rcases hx with rfl | rfl | rfl | rfl <;>
    (go_enter Tryz.func7, Tryz.ntmps7
     go_wp2_with fail
     refine (unhide HA).mono ?_
     rintro e w1 ⟨rfl, B1⟩
     have hz1 := B1.size
     go_wp2
     refine wp_loop_rounds 8 ?_
     iterate 7 (rw [rounds_succ]; go_wp2)
     rw [rounds_succ]
     go_wp2_with fail
     refine (fine_at _ false _ ?_ ((unhide HV).below (unhide HV).lt ?_)).mono ?_
     · kernel_rfl
     · repeat (first | with_reducible exact B1 | with_reducible refine Below.drew ?_ | (with_reducible refine Below.alloc ?_ (by first | omega | (simp <;> omega)) _))
     rintro e w2 ⟨rfl, B2⟩
     have B2' : Below w.heap.size w w2 := Below.trans (b := _) (by repeat (first | with_reducible exact B1 | with_reducible refine Below.drew ?_ | (with_reducible refine Below.alloc ?_ (by first | omega | (simp <;> omega)) _))) ⟨B2.os, B2.tape, B2.output, B2.size, fun k hk => B2.block k (by first | omega | (simp <;> omega))⟩
     have hz3 := B2'.size
     have bx2 : BL w2 w1.heap.size exOB := BL.below (by (repeat (first | with_reducible assumption | with_reducible refine BL.drew ?_ | (with_reducible refine BL.new ?_; (first | omega | (simp <;> omega))) | with_reducible refine BL.alloc ?_ _))) B2 (by first | omega | (simp <;> omega))
     have hl2 := bx2.lt
     have zc2 := bx2.cell
     clear B2
     go_wp2_with fail
     refine (fine_at _ true _ ?_ ((unhide HV).below (unhide HV).lt B2')).mono ?_
     · kernel_rfl
     rintro e w3 ⟨rfl, B3⟩
     have B3' : Below w.heap.size w w3 := Below.trans B2' ⟨B3.os, B3.tape, B3.output, B3.size, fun k hk => B3.block k (by have := B2'.size; omega)⟩
     have bx3 : BL w3 w1.heap.size exOB := BL.below bx2 B3 (by omega)
     have hl3 := bx3.lt
     have zc3 := bx3.cell
     clear zc2 bx2
     go_wp2_with fail
     refine (fine_at _ true _ ?_ ((unhide HV).below (unhide HV).lt B3')).mono ?_
     · kernel_rfl
     rintro e w4 ⟨rfl, B4⟩
     have B4' : Below w.heap.size w w4 := Below.trans B3' ⟨B4.os, B4.tape, B4.output, B4.size, fun k hk => B4.block k (by have := B3'.size; omega)⟩
     go_wp2
     exact bodyPost_ret (v := .bool true) (by simp [results, Tryz.results7, go_sem]) rfl ⟨rfl, B4'⟩)

set_option maxHeartbeats 40000000 in
theorem stmts_4m (x : Int) (hx : x = 5 ∨ x = 6 ∨ x = 8 ∨ x = 9) (w : World) (hv : Vars w) : Calls Tryz.prog 7 #[.int .i64 x, .int .i64 4] w fun e w' => e = .returned (.bool true) ∧ Below w.heap.size w w' := by
  have HA := hide (anchor_any w hv)
  have HV := hide hv
  have hcv := conv_one
  clear hv
  rcases hx with rfl | rfl | rfl | rfl <;>
    (go_enter Tryz.func7, Tryz.ntmps7
     go_wp2_with fail
     refine (unhide HA).mono ?_
     rintro e w1 ⟨rfl, B1⟩
     have hz1 := B1.size
     go_wp2
     refine wp_loop_rounds 8 ?_
     iterate 7 (rw [rounds_succ]; go_wp2)
     rw [rounds_succ]
     go_wp2_with fail
     refine (fine_at _ false _ ?_ ((unhide HV).below (unhide HV).lt ?_)).mono ?_
     · kernel_rfl
     · repeat (first | with_reducible exact B1 | with_reducible refine Below.drew ?_ | (with_reducible refine Below.alloc ?_ (by first | omega | (simp <;> omega)) _))
     rintro e w2 ⟨rfl, B2⟩
     have B2' : Below w.heap.size w w2 := Below.trans (b := _) (by repeat (first | with_reducible exact B1 | with_reducible refine Below.drew ?_ | (with_reducible refine Below.alloc ?_ (by first | omega | (simp <;> omega)) _))) ⟨B2.os, B2.tape, B2.output, B2.size, fun k hk => B2.block k (by first | omega | (simp <;> omega))⟩
     have hz3 := B2'.size
     have bx2 : BL w2 w1.heap.size exOB := BL.below (by (repeat (first | with_reducible assumption | with_reducible refine BL.drew ?_ | (with_reducible refine BL.new ?_; (first | omega | (simp <;> omega))) | with_reducible refine BL.alloc ?_ _))) B2 (by first | omega | (simp <;> omega))
     have hl2 := bx2.lt
     have zc2 := bx2.cell
     clear B2
     go_wp2_with fail
     refine (fine_at _ true _ ?_ ((unhide HV).below (unhide HV).lt B2')).mono ?_
     · kernel_rfl
     rintro e w3 ⟨rfl, B3⟩
     have B3' : Below w.heap.size w w3 := Below.trans B2' ⟨B3.os, B3.tape, B3.output, B3.size, fun k hk => B3.block k (by have := B2'.size; omega)⟩
     have bx3 : BL w3 w1.heap.size exOB := BL.below bx2 B3 (by omega)
     have hl3 := bx3.lt
     have zc3 := bx3.cell
     clear zc2 bx2
     go_wp2_with fail
     refine (fine_at _ true _ ?_ ((unhide HV).below (unhide HV).lt B3')).mono ?_
     · kernel_rfl
     rintro e w4 ⟨rfl, B4⟩
     have B4' : Below w.heap.size w w4 := Below.trans B3' ⟨B4.os, B4.tape, B4.output, B4.size, fun k hk => B4.block k (by have := B3'.size; omega)⟩
     go_wp2
     exact bodyPost_ret (v := .bool true) (by simp [results, Tryz.results7, go_sem]) rfl ⟨rfl, B4'⟩)

set_option maxHeartbeats 40000000 in
theorem stmts_5y (x : Int) (hx : x = 0 ∨ x = 1 ∨ x = 2) (w : World) (hv : Vars w) : Calls Tryz.prog 7 #[.int .i64 x, .int .i64 5] w fun e w' => e = .returned (.bool true) ∧ Below w.heap.size w w' := by
  have HA := hide (anchor_any w hv)
  have HV := hide hv
  have hcv := conv_one
  clear hv
  rcases hx with rfl | rfl | rfl <;>
    (go_enter Tryz.func7, Tryz.ntmps7
     go_wp2_with fail
     refine (unhide HA).mono ?_
     rintro e w1 ⟨rfl, B1⟩
     have hz1 := B1.size
     go_wp2
     refine wp_loop_rounds 7 ?_
     iterate 6 (rw [rounds_succ]; go_wp2)
     rw [rounds_succ]
     go_wp2_with fail
     refine (fine_at _ true _ ?_ ((unhide HV).below (unhide HV).lt ?_)).mono ?_
     · kernel_rfl
     · repeat (first | with_reducible exact B1 | with_reducible refine Below.drew ?_ | (with_reducible refine Below.alloc ?_ (by first | omega | (simp <;> omega)) _))
     rintro e w2 ⟨rfl, B2⟩
     have B2' : Below w.heap.size w w2 := Below.trans (b := _) (by repeat (first | with_reducible exact B1 | with_reducible refine Below.drew ?_ | (with_reducible refine Below.alloc ?_ (by first | omega | (simp <;> omega)) _))) ⟨B2.os, B2.tape, B2.output, B2.size, fun k hk => B2.block k (by first | omega | (simp <;> omega))⟩
     have hz3 := B2'.size
     have bx2 : BL w2 w1.heap.size exOB := BL.below (by (repeat (first | with_reducible assumption | with_reducible refine BL.drew ?_ | (with_reducible refine BL.new ?_; (first | omega | (simp <;> omega))) | with_reducible refine BL.alloc ?_ _))) B2 (by first | omega | (simp <;> omega))
     have hl2 := bx2.lt
     have zc2 := bx2.cell
     clear B2
     go_wp2_with fail
     refine (fine_at _ true _ ?_ ((unhide HV).below (unhide HV).lt B2')).mono ?_
     · kernel_rfl
     rintro e w3 ⟨rfl, B3⟩
     have B3' : Below w.heap.size w w3 := Below.trans B2' ⟨B3.os, B3.tape, B3.output, B3.size, fun k hk => B3.block k (by have := B2'.size; omega)⟩
     have bx3 : BL w3 w1.heap.size exOB := BL.below bx2 B3 (by omega)
     have hl3 := bx3.lt
     have zc3 := bx3.cell
     clear zc2 bx2
     go_wp2_with fail
     refine (fine_at _ true _ ?_ ((unhide HV).below (unhide HV).lt B3')).mono ?_
     · kernel_rfl
     rintro e w4 ⟨rfl, B4⟩
     have B4' : Below w.heap.size w w4 := Below.trans B3' ⟨B4.os, B4.tape, B4.output, B4.size, fun k hk => B4.block k (by have := B3'.size; omega)⟩
     go_wp2
     exact bodyPost_ret (v := .bool true) (by simp [results, Tryz.results7, go_sem]) rfl ⟨rfl, B4'⟩)

set_option maxHeartbeats 40000000 in
theorem stmts_5n (x : Int) (hx : x = 3 ∨ x = 4 ∨ x = 5 ∨ x = 6) (w : World) (hv : Vars w) : Calls Tryz.prog 7 #[.int .i64 x, .int .i64 5] w fun e w' => e = .returned (.bool true) ∧ Below w.heap.size w w' := by
  have HA := hide (anchor_any w hv)
  have HV := hide hv
  have hcv := conv_one
  clear hv
  rcases hx with rfl | rfl | rfl | rfl <;>
    (go_enter Tryz.func7, Tryz.ntmps7
     go_wp2_with fail
     refine (unhide HA).mono ?_
     rintro e w1 ⟨rfl, B1⟩
     have hz1 := B1.size
     go_wp2
     refine wp_loop_rounds 7 ?_
     iterate 6 (rw [rounds_succ]; go_wp2)
     rw [rounds_succ]
     go_wp2_with fail
     refine (fine_at _ false _ ?_ ((unhide HV).below (unhide HV).lt ?_)).mono ?_
     · kernel_rfl
     · repeat (first | with_reducible exact B1 | with_reducible refine Below.drew ?_ | (with_reducible refine Below.alloc ?_ (by first | omega | (simp <;> omega)) _))
     rintro e w2 ⟨rfl, B2⟩
     have B2' : Below w.heap.size w w2 := Below.trans (b := _) (by repeat (first | with_reducible exact B1 | with_reducible refine Below.drew ?_ | (with_reducible refine Below.alloc ?_ (by first | omega | (simp <;> omega)) _))) ⟨B2.os, B2.tape, B2.output, B2.size, fun k hk => B2.block k (by first | omega | (simp <;> omega))⟩
     have hz3 := B2'.size
     have bx2 : BL w2 w1.heap.size exOB := BL.below (by (repeat (first | with_reducible assumption | with_reducible refine BL.drew ?_ | (with_reducible refine BL.new ?_; (first | omega | (simp <;> omega))) | with_reducible refine BL.alloc ?_ _))) B2 (by first | omega | (simp <;> omega))
     have hl2 := bx2.lt
     have zc2 := bx2.cell
     clear B2
     go_wp2_with fail
     refine (fine_at _ true _ ?_ ((unhide HV).below (unhide HV).lt B2')).mono ?_
     · kernel_rfl
     rintro e w3 ⟨rfl, B3⟩
     have B3' : Below w.heap.size w w3 := Below.trans B2' ⟨B3.os, B3.tape, B3.output, B3.size, fun k hk => B3.block k (by have := B2'.size; omega)⟩
     have bx3 : BL w3 w1.heap.size exOB := BL.below bx2 B3 (by omega)
     have hl3 := bx3.lt
     have zc3 := bx3.cell
     clear zc2 bx2
     go_wp2_with fail
     refine (fine_at _ true _ ?_ ((unhide HV).below (unhide HV).lt B3')).mono ?_
     · kernel_rfl
     rintro e w4 ⟨rfl, B4⟩
     have B4' : Below w.heap.size w w4 := Below.trans B3' ⟨B4.os, B4.tape, B4.output, B4.size, fun k hk => B4.block k (by have := B3'.size; omega)⟩
     go_wp2
     exact bodyPost_ret (v := .bool true) (by simp [results, Tryz.results7, go_sem]) rfl ⟨rfl, B4'⟩)

set_option maxHeartbeats 40000000 in
theorem stmts_5m (x : Int) (hx : x = 7 ∨ x = 8 ∨ x = 9 ∨ x = 10) (w : World) (hv : Vars w) : Calls Tryz.prog 7 #[.int .i64 x, .int .i64 5] w fun e w' => e = .returned (.bool true) ∧ Below w.heap.size w w' := by
  have HA := hide (anchor_any w hv)
  have HV := hide hv
  have hcv := conv_one
  clear hv
  rcases hx with rfl | rfl | rfl | rfl <;>
    (go_enter Tryz.func7, Tryz.ntmps7
     go_wp2_with fail
     refine (unhide HA).mono ?_
     rintro e w1 ⟨rfl, B1⟩
     have hz1 := B1.size
     go_wp2
     refine wp_loop_rounds 7 ?_
     iterate 6 (rw [rounds_succ]; go_wp2)
     rw [rounds_succ]
     go_wp2_with fail
     refine (fine_at _ false _ ?_ ((unhide HV).below (unhide HV).lt ?_)).mono ?_
     · kernel_rfl
     · repeat (first | with_reducible exact B1 | with_reducible refine Below.drew ?_ | (with_reducible refine Below.alloc ?_ (by first | omega | (simp <;> omega)) _))
     rintro e w2 ⟨rfl, B2⟩
     have B2' : Below w.heap.size w w2 := Below.trans (b := _) (by repeat (first | with_reducible exact B1 | with_reducible refine Below.drew ?_ | (with_reducible refine Below.alloc ?_ (by first | omega | (simp <;> omega)) _))) ⟨B2.os, B2.tape, B2.output, B2.size, fun k hk => B2.block k (by first | omega | (simp <;> omega))⟩
     have hz3 := B2'.size
     have bx2 : BL w2 w1.heap.size exOB := BL.below (by (repeat (first | with_reducible assumption | with_reducible refine BL.drew ?_ | (with_reducible refine BL.new ?_; (first | omega | (simp <;> omega))) | with_reducible refine BL.alloc ?_ _))) B2 (by first | omega | (simp <;> omega))
     have hl2 := bx2.lt
     have zc2 := bx2.cell
     clear B2
     go_wp2_with fail
     refine (fine_at _ true _ ?_ ((unhide HV).below (unhide HV).lt B2')).mono ?_
     · kernel_rfl
     rintro e w3 ⟨rfl, B3⟩
     have B3' : Below w.heap.size w w3 := Below.trans B2' ⟨B3.os, B3.tape, B3.output, B3.size, fun k hk => B3.block k (by have := B2'.size; omega)⟩
     have bx3 : BL w3 w1.heap.size exOB := BL.below bx2 B3 (by omega)
     have hl3 := bx3.lt
     have zc3 := bx3.cell
     clear zc2 bx2
     go_wp2_with fail
     refine (fine_at _ true _ ?_ ((unhide HV).below (unhide HV).lt B3')).mono ?_
     · kernel_rfl
     rintro e w4 ⟨rfl, B4⟩
     have B4' : Below w.heap.size w w4 := Below.trans B3' ⟨B4.os, B4.tape, B4.output, B4.size, fun k hk => B4.block k (by have := B3'.size; omega)⟩
     go_wp2
     exact bodyPost_ret (v := .bool true) (by simp [results, Tryz.results7, go_sem]) rfl ⟨rfl, B4'⟩)


end Go.Proofs.YtnlmgifjmlpgoaaGreatDoor
