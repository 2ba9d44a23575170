/- New. -/
import Derived.Test.YtogjblikljggbaaDoorGv7
import Derived.Test.YtogjblikljggbaaDoorGv8
namespace Go.Proofs.YtogjblikljggbaaDoor
open Go.RowKit Go.Proofs.YtogjblikljggbaaDoor.Hp
theorem Tryd.info3 : (Tryd.prog.info? 3).map (fun i => (i.zero, i.size, i.bytes)) = some (some (.int .i64 0), 1, 8) := by kernel_rfl
theorem Tryd.info80 : (Tryd.prog.info? 80).map (fun i => (i.zero, i.size, i.bytes)) = some (some (.agg #[.int .i64 0, .int .u32 0]), 2, 16) := by kernel_rfl
theorem Tryd.info82 : (Tryd.prog.info? 82).map (fun i => (i.zero, i.size, i.bytes)) = some (some (.int .u64 0), 1, 8) := by kernel_rfl
theorem made_at (z : Array Value) (n i : Nat) (h : i < n) : (madeCells z n)[i]? = some (z[i % z.size]!) := by
  unfold madeCells
  rw [Array.getElem?_map, Array.getElem?_range, if_pos h]
  rfl
theorem make34 (W : World) (k : Nat) (hk : k ≤ 2000000) : (Instr.makeSlice 28 (.int .i64 (k : Int)) (.int .i64 (k : Int))).run Tryd.prog W = .ok (.slice (some ⟨W.heap.size, 0, none⟩) k k) (W.alloc (.cells (madeCells #[.int .i64 0] k) 3)) := by
  obtain ⟨i0, hi, hz0, hz1, hz2⟩ := info_parts Tryd.info3
  have := run_make (P := Tryd.prog) W 28 3 i0 _ Tryd.underlying28 hi hz0 .i64 .i64 (k : Int) (k : Int) (by omega) (Int.le_refl _) (by rw [hz2]; omega) (by omega)
  rw [this, hz1]
  simp [Value.cells]
theorem make48 (W : World) (k : Nat) (hk : k ≤ 2000000) : (Instr.makeSlice 65 (.int .i64 (k : Int)) (.int .i64 (k : Int))).run Tryd.prog W = .ok (.slice (some ⟨W.heap.size, 0, none⟩) k k) (W.alloc (.cells (madeCells #[.int .i64 0, .int .u32 0] (k * 2)) 80)) := by
  obtain ⟨i0, hi, hz0, hz1, hz2⟩ := info_parts Tryd.info80
  have := run_make (P := Tryd.prog) W 65 80 i0 _ Tryd.underlying65 hi hz0 .i64 .i64 (k : Int) (k : Int) (by omega) (Int.le_refl _) (by rw [hz2]; omega) (by omega)
  rw [this, hz1]
  simp [Value.cells]
theorem make50 (W : World) (k : Nat) (hk : k ≤ 2000000) : (Instr.makeSlice 67 (.int .i64 (k : Int)) (.int .i64 (k : Int))).run Tryd.prog W = .ok (.slice (some ⟨W.heap.size, 0, none⟩) k k) (W.alloc (.cells (madeCells #[.int .u64 0] k) 82)) := by
  obtain ⟨i0, hi, hz0, hz1, hz2⟩ := info_parts Tryd.info82
  have := run_make (P := Tryd.prog) W 67 82 i0 _ Tryd.underlying67 hi hz0 .i64 .i64 (k : Int) (k : Int) (by omega) (Int.le_refl _) (by rw [hz2]; omega) (by omega)
  rw [this, hz1]
  simp [Value.cells]
theorem Row.made (w : World) (z : Array Value) (k e : Nat) : Row (w.alloc (.cells (madeCells z k) e)) w.heap.size k (fun i => z[i % z.size]!) := by
  intro i hi
  exact ⟨by rw [World.cell?_alloc_at _ _ _ _ rfl, made_at _ _ _ hi], World.frozen?_alloc_at _ _ _ _ rfl⟩
theorem set_none : (fun i => Value.int .u64 ((wordN (fun j => (fun _ : Nat => false) (64 * i + j)) 64 : Nat) : Int)) = fun _ => Value.int .u64 0 := by
  funext i
  rw [wordN_zero.2 (fun _ _ => rfl)]; rfl
def NewSetP (m : Nat) (w : World) (e : Ending) (w' : World) : Prop := ∃ g, e = .returned (.slice (some ⟨g, 0, none⟩) m m) ∧ g = w.heap.size ∧ w'.heap.size = w.heap.size + 1 ∧ SetAt w' g m (fun _ => false) ∧ Fr (fun _ => False) w w'
set_option maxHeartbeats 1000000 in
theorem newSet_any (n : Nat) (w : World) (hn : n ≤ 16384) : Calls Tryd.prog 37 #[.int .i64 n] w fun e w' => NewSetP (setM n) w e w' := by
  have hq : ((n : Int) + 63) / 64 = (setM n : Int) := by unfold setM; omega
  have hm := setM_le hn
  have hmk := make50 w (setM n) (by omega)
  have HP : Hid (NewSetP (setM n) w (.returned (.slice (some ⟨w.heap.size, 0, none⟩) (setM n) (setM n))) (w.alloc (.cells (madeCells #[.int .u64 0] (setM n)) 82))) := by
    refine hide ⟨_, rfl, rfl, by simp, ?_, (Fr.refl _ w).alloc _⟩
    unfold SetAt
    rw [set_none]
    exact (Row.made w #[.int .u64 0] (setM n) 82).ext fun i _ => by simp [Nat.mod_one]
  generalize setM n = m at *
  generalize madeCells #[.int .u64 0] m = Z at *
  go_enter Tryd.func37, Tryd.ntmps37
  go_wp2
  go_ret
  exact unhide HP
end Go.Proofs.YtogjblikljggbaaDoor
