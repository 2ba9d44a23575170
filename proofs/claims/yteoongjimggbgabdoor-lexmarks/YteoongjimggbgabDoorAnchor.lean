/- The anchor: two of the document's examples. -/
import Derived.Test.YteoongjimggbgabDoorScanX
namespace Go.Proofs.YteoongjimggbgabDoor
open Go.RowKit Go.Proofs.YteoongjimggbgabDoor.Lx

theorem lexA : lexR [97, 32, 58, 61, 32, 49, 10] = ([⟨1, [97], 0, 0⟩, ⟨5, [58, 61], 0, 2⟩, ⟨2, [49], 1, 5⟩, ⟨5, [59], 1, 6⟩, ⟨6, [], 0, 7⟩], 0, 0) := by kernel_rfl
theorem lexB : lexR [49, 50, 97] = ([], 2, 2) := by kernel_rfl
theorem Scan_is (s : ByteArray) (w : World) (hv : Vars w) (toks : List Tok) (st pl : Int) (h : lexR s.toList = (toks, st, pl)) :
    Calls Tryd.prog 5 #[.string s] w fun e w' => ∃ v, e = .returned (.tuple #[v, .agg #[.int .i64 st, .int .i64 pl]]) ∧ w'.ownsRow w.heap.size 31 4 v toks.length (toksCells toks) ∧ Below w.heap.size w w' := by
  refine (Scan_any s w hv).mono ?_
  rintro e w' ⟨v, he, ho, hb⟩
  rw [h] at he ho
  exact ⟨v, he, ho, hb⟩
theorem slice_inj {g g' n cap cap' : Nat} (h : Value.slice (some ⟨g, 0, none⟩) n cap = .slice (some ⟨g', 0, none⟩) n cap') : g' = g ∧ cap' = cap := by
  cases h; exact ⟨rfl, rfl⟩
theorem wordF : isWd [102, 97, 108, 108, 116, 104, 114, 111, 117, 103, 104] = true := by decide

set_option maxRecDepth 100000 in
set_option maxHeartbeats 800000 in
theorem anchor_any (w : World) (hv : Vars w) : Calls Tryd.prog 4 #[] w fun e w' => e = .returned (.bool true) ∧ Below w.heap.size w w' := by
  have HA := hide (Scan_is ⟨#[97, 32, 58, 61, 32, 49, 10]⟩ w hv [⟨1, [97], 0, 0⟩, ⟨5, [58, 61], 0, 2⟩, ⟨2, [49], 1, 5⟩, ⟨5, [59], 1, 6⟩, ⟨6, [], 0, 7⟩] 0 0 ((congrArg lexR (ByteArray.toList_mk _)).trans lexA))
  have hvl := hv.lt
  have HV := hide hv
  clear hv
  go_enter Tryd.func4, Tryd.ntmps4
  go_wp2_with fail
  refine (unhide HA).mono ?_
  rintro e w1 ⟨v, rfl, hown, hb1⟩
  obtain ⟨g, cap, rfl, hg1, hg2, _, a1, _, _⟩ := tok_cells hown 1 _ rfl
  obtain ⟨g', cap', e1, _, _, b0, b1, b2, b3⟩ := tok_cells hown 3 _ rfl
  obtain ⟨rfl, rfl⟩ := slice_inj e1
  obtain ⟨g', cap', e2, _, _, c0, _, _, _⟩ := tok_cells hown 4 _ rfl
  obtain ⟨rfl, rfl⟩ := slice_inj e2
  have hv1 : Vars (w1.alloc (.cells #[.int .i64 0, .int .i64 0] 27)) := (unhide HV).below (B := w.heap.size) (by omega) (hb1.alloc hb1.size _)
  have HB := hide (Scan_is ⟨#[49, 50, 97]⟩ _ hv1 [] 2 2 ((congrArg lexR (ByteArray.toList_mk _)).trans lexB))
  have HB1 := hide hb1
  clear hb1 hown e1 e2 hv1
  go_wp2_with fail
  refine (unhide HB).mono ?_
  rintro e w2 ⟨v2, rfl, _, hb2⟩
  have hz2 := hb2.size
  simp only [World.size_alloc] at hz2
  have old : ∀ j v, w1.cell? ⟨g', j, none⟩ = some v → (w2.alloc (.cells #[.int .i64 2, .int .i64 2] 27)).cell? ⟨g', j, none⟩ = some v := fun j v hj => by
    rw [World.cell?_alloc_lt _ _ _ (by show g' < _; omega), hb2.cell (p := ⟨g', j, none⟩) (by simp; omega), World.cell?_alloc_lt _ _ _ hg2]; exact hj
  have k1 := old 5 _ a1
  have k12 := old 12 _ b0
  have k13 := old 13 _ b1
  have k14 := old 14 _ b2
  have k15 := old 15 _ b3
  have k16 := old 16 _ c0
  have r0 : (w2.alloc (.cells #[.int .i64 2, .int .i64 2] 27)).cell? ⟨w1.heap.size, 0, none⟩ = some (.int .i64 0) := by rw [World.cell?_alloc_lt _ _ _ (by show w1.heap.size < _; omega), hb2.cell (p := ⟨w1.heap.size, 0, none⟩) (by simp)]; simp
  have r1 : (w2.alloc (.cells #[.int .i64 2, .int .i64 2] 27)).cell? ⟨w1.heap.size, 1, none⟩ = some (.int .i64 0) := by rw [World.cell?_alloc_lt _ _ _ (by show w1.heap.size < _; omega), hb2.cell (p := ⟨w1.heap.size, 1, none⟩) (by simp)]; simp
  have HB2 := hide hb2
  clear hb2 a1 b0 b1 b2 b3 c0 old
  go_wp2_with (first | (go_at_call 6; refine (IsWord_any _ _).mono ?_; rintro e w' ⟨rfl, hww⟩; have hw2 := hww.symm; clear hww; subst hw2))
  go_ret
  exact ⟨ret_bool wordF, ((((unhide HB1).alloc (unhide HB1).size _).trans ((unhide HB2).mono (by have := (unhide HB1).size; simp; omega)))).alloc (by have := (unhide HB1).size; omega) _⟩
end Go.Proofs.YteoongjimggbgabDoor
