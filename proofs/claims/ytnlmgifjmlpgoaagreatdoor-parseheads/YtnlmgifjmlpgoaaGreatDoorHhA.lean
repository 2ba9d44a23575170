/- ParseHeads, walked: two heads. -/
import Derived.Test.YtnlmgifjmlpgoaaGreatDoorQe
set_option linter.unusedVariables false
set_option linter.unusedSimpArgs false
set_option maxRecDepth 100000
namespace Go.Proofs.YtnlmgifjmlpgoaaGreatDoor
open Go.RowKit Go.Proofs.YtnlmgifjmlpgoaaGreatDoor.Lx Go.Proofs.YtnlmgifjmlpgoaaGreatDoor.Px

set_option maxHeartbeats 40000000 in
theorem heads_0f (x : Int) (hx : x = 0 ∨ x = 1) (w : World) (hv : Vars w) : Calls Tryz.prog 6 #[.int .i64 0, .int .i64 x] w fun e w' => e = .returned (.bool true) ∧ Below w.heap.size w w' := by
  have HA := hide (anchor_any w hv)
  have HV := hide hv
  have hcv := conv_one
  clear hv
  rcases hx with rfl | rfl <;>
    (go_enter Tryz.func6, Tryz.ntmps6
     go_wp2_with fail
     refine (unhide HA).mono ?_
     rintro e w1 ⟨rfl, B1⟩
     have hz1 := B1.size
     go_wp2
     refine wp_loop_rounds 9 ?_
     iterate 8 (rw [rounds_succ]; go_wp2)
     rw [rounds_succ]
     go_wp2_with fail
     refine (fine_at _ false _ ?_ ((unhide HV).below (unhide HV).lt ?_)).mono ?_
     · kernel_rfl
     · repeat (first | with_reducible exact B1 | with_reducible refine Below.drew ?_ | (with_reducible refine Below.alloc ?_ (by first | omega | (simp <;> omega)) _))
     rintro e w2 ⟨rfl, B2⟩
     have B2' : Below w.heap.size w w2 := Below.trans (b := _) (by repeat (first | with_reducible exact B1 | with_reducible refine Below.drew ?_ | (with_reducible refine Below.alloc ?_ (by first | omega | (simp <;> omega)) _))) ⟨B2.os, B2.tape, B2.output, B2.size, fun k hk => B2.block k (by first | omega | (simp <;> omega))⟩
     have hz3 := B2'.size
     clear B2
     go_wp2_with fail
     refine (fine_at _ true _ ?_ ((unhide HV).below (unhide HV).lt B2')).mono ?_
     · kernel_rfl
     rintro e w3 ⟨rfl, B3⟩
     have B3' : Below w.heap.size w w3 := Below.trans B2' ⟨B3.os, B3.tape, B3.output, B3.size, fun k hk => B3.block k (by have := B2'.size; omega)⟩
     go_wp2
     exact bodyPost_ret (v := .bool true) (by simp [results, Tryz.results6, go_sem]) rfl ⟨rfl, B3'⟩)

set_option maxHeartbeats 40000000 in
theorem heads_0t (x : Int) (hx : x = 2 ∨ x = 3 ∨ x = 4 ∨ x = 5) (w : World) (hv : Vars w) : Calls Tryz.prog 6 #[.int .i64 0, .int .i64 x] w fun e w' => e = .returned (.bool true) ∧ Below w.heap.size w w' := by
  have HA := hide (anchor_any w hv)
  have HV := hide hv
  have hcv := conv_one
  clear hv
  rcases hx with rfl | rfl | rfl | rfl <;>
    (go_enter Tryz.func6, Tryz.ntmps6
     go_wp2_with fail
     refine (unhide HA).mono ?_
     rintro e w1 ⟨rfl, B1⟩
     have hz1 := B1.size
     go_wp2
     refine wp_loop_rounds 9 ?_
     iterate 8 (rw [rounds_succ]; go_wp2)
     rw [rounds_succ]
     go_wp2_with fail
     refine (fine_at _ true _ ?_ ((unhide HV).below (unhide HV).lt ?_)).mono ?_
     · kernel_rfl
     · repeat (first | with_reducible exact B1 | with_reducible refine Below.drew ?_ | (with_reducible refine Below.alloc ?_ (by first | omega | (simp <;> omega)) _))
     rintro e w2 ⟨rfl, B2⟩
     have B2' : Below w.heap.size w w2 := Below.trans (b := _) (by repeat (first | with_reducible exact B1 | with_reducible refine Below.drew ?_ | (with_reducible refine Below.alloc ?_ (by first | omega | (simp <;> omega)) _))) ⟨B2.os, B2.tape, B2.output, B2.size, fun k hk => B2.block k (by first | omega | (simp <;> omega))⟩
     have hz3 := B2'.size
     clear B2
     go_wp2_with fail
     refine (fine_at _ true _ ?_ ((unhide HV).below (unhide HV).lt B2')).mono ?_
     · kernel_rfl
     rintro e w3 ⟨rfl, B3⟩
     have B3' : Below w.heap.size w w3 := Below.trans B2' ⟨B3.os, B3.tape, B3.output, B3.size, fun k hk => B3.block k (by have := B2'.size; omega)⟩
     go_wp2
     exact bodyPost_ret (v := .bool true) (by simp [results, Tryz.results6, go_sem]) rfl ⟨rfl, B3'⟩)

set_option maxHeartbeats 40000000 in
theorem heads_3f (x : Int) (hx : x = 0 ∨ x = 1) (w : World) (hv : Vars w) : Calls Tryz.prog 6 #[.int .i64 3, .int .i64 x] w fun e w' => e = .returned (.bool true) ∧ Below w.heap.size w w' := by
  have HA := hide (anchor_any w hv)
  have HV := hide hv
  have hcv := conv_one
  clear hv
  rcases hx with rfl | rfl <;>
    (go_enter Tryz.func6, Tryz.ntmps6
     go_wp2_with fail
     refine (unhide HA).mono ?_
     rintro e w1 ⟨rfl, B1⟩
     have hz1 := B1.size
     go_wp2
     refine wp_loop_rounds 25 ?_
     iterate 24 (rw [rounds_succ]; go_wp2)
     rw [rounds_succ]
     go_wp2_with fail
     refine (fine_at _ false _ ?_ ((unhide HV).below (unhide HV).lt ?_)).mono ?_
     · kernel_rfl
     · repeat (first | with_reducible exact B1 | with_reducible refine Below.drew ?_ | (with_reducible refine Below.alloc ?_ (by first | omega | (simp <;> omega)) _))
     rintro e w2 ⟨rfl, B2⟩
     have B2' : Below w.heap.size w w2 := Below.trans (b := _) (by repeat (first | with_reducible exact B1 | with_reducible refine Below.drew ?_ | (with_reducible refine Below.alloc ?_ (by first | omega | (simp <;> omega)) _))) ⟨B2.os, B2.tape, B2.output, B2.size, fun k hk => B2.block k (by first | omega | (simp <;> omega))⟩
     have hz3 := B2'.size
     clear B2
     go_wp2_with fail
     refine (fine_at _ true _ ?_ ((unhide HV).below (unhide HV).lt B2')).mono ?_
     · kernel_rfl
     rintro e w3 ⟨rfl, B3⟩
     have B3' : Below w.heap.size w w3 := Below.trans B2' ⟨B3.os, B3.tape, B3.output, B3.size, fun k hk => B3.block k (by have := B2'.size; omega)⟩
     go_wp2
     exact bodyPost_ret (v := .bool true) (by simp [results, Tryz.results6, go_sem]) rfl ⟨rfl, B3'⟩)

set_option maxHeartbeats 40000000 in
theorem heads_3t (x : Int) (hx : x = 2 ∨ x = 3 ∨ x = 4 ∨ x = 5) (w : World) (hv : Vars w) : Calls Tryz.prog 6 #[.int .i64 3, .int .i64 x] w fun e w' => e = .returned (.bool true) ∧ Below w.heap.size w w' := by
  have HA := hide (anchor_any w hv)
  have HV := hide hv
  have hcv := conv_one
  clear hv
  rcases hx with rfl | rfl | rfl | rfl <;>
    (go_enter Tryz.func6, Tryz.ntmps6
     go_wp2_with fail
     refine (unhide HA).mono ?_
     rintro e w1 ⟨rfl, B1⟩
     have hz1 := B1.size
     go_wp2
     refine wp_loop_rounds 25 ?_
     iterate 24 (rw [rounds_succ]; go_wp2)
     rw [rounds_succ]
     go_wp2_with fail
     refine (fine_at _ true _ ?_ ((unhide HV).below (unhide HV).lt ?_)).mono ?_
     · kernel_rfl
     · repeat (first | with_reducible exact B1 | with_reducible refine Below.drew ?_ | (with_reducible refine Below.alloc ?_ (by first | omega | (simp <;> omega)) _))
     rintro e w2 ⟨rfl, B2⟩
     have B2' : Below w.heap.size w w2 := Below.trans (b := _) (by repeat (first | with_reducible exact B1 | with_reducible refine Below.drew ?_ | (with_reducible refine Below.alloc ?_ (by first | omega | (simp <;> omega)) _))) ⟨B2.os, B2.tape, B2.output, B2.size, fun k hk => B2.block k (by first | omega | (simp <;> omega))⟩
     have hz3 := B2'.size
     clear B2
     go_wp2_with fail
     refine (fine_at _ true _ ?_ ((unhide HV).below (unhide HV).lt B2')).mono ?_
     · kernel_rfl
     rintro e w3 ⟨rfl, B3⟩
     have B3' : Below w.heap.size w w3 := Below.trans B2' ⟨B3.os, B3.tape, B3.output, B3.size, fun k hk => B3.block k (by have := B2'.size; omega)⟩
     go_wp2
     exact bodyPost_ret (v := .bool true) (by simp [results, Tryz.results6, go_sem]) rfl ⟨rfl, B3'⟩)


end Go.Proofs.YtnlmgifjmlpgoaaGreatDoor
