/- Arrays of three numbers, held against one another. -/
import Derived.Test.YtinmaogbfcmagaaDoorAc1
import Derived.DeepKeys
namespace Go.Proofs.YtinmaogbfcmagaaDoor
open Go.RowKit Go.Proofs.YtinmaogbfcmagaaDoor.Hp
theorem Tryd.cells3 : Tryd.prog.cellsOf 3 = 1 := by kernel_rfl
theorem Tryd.cells22 : Tryd.prog.cellsOf 22 = 3 := by kernel_rfl
theorem key_arr {a0 a1 a2 : Int} (h0 : (Lit.int .i64 a0).wf = true) (h1 : (Lit.int .i64 a1).wf = true) (h2 : (Lit.int .i64 a2).wf = true) : Tryd.prog.keyLits 2 22 [.int .i64 a0, .int .i64 a1, .int .i64 a2] = some [.int .i64 a0, .int .i64 a1, .int .i64 a2] := by
  simp [Program.keyLits, Tryd.underlying22, Tryd.underlying3, Tryd.cells3]
  refine ⟨Tryd.cells22.symm, [[.int .i64 a0], [.int .i64 a1], [.int .i64 a2]], ?_, rfl⟩
  simp [show List.range 3 = [0, 1, 2] from rfl, h0, h1, h2]
theorem eq_arr {a0 a1 a2 b0 b1 b2 : Int} (ha : (Lit.int .i64 a0).wf = true ∧ (Lit.int .i64 a1).wf = true ∧ (Lit.int .i64 a2).wf = true) (hb : (Lit.int .i64 b0).wf = true ∧ (Lit.int .i64 b1).wf = true ∧ (Lit.int .i64 b2).wf = true) (w : World) :
    (Op.equalIn 10000 22 (.agg #[.int .i64 a0, .int .i64 a1, .int .i64 a2]) (.agg #[.int .i64 b0, .int .i64 b1, .int .i64 b2])).run Tryd.prog w = .ok (decide (a0 = b0 ∧ a1 = b1 ∧ a2 = b2)) w := by
  obtain ⟨r, h1, h2⟩ := run_equalIn_deep (P := Tryd.prog) 9998 2 22 (by kernel_rfl) w 2 2 (.agg #[.int .i64 a0, .int .i64 a1, .int .i64 a2]) (.agg #[.int .i64 b0, .int .i64 b1, .int .i64 b2]) _ _ (by simp [Value.formed, Tryd.underlying22]; exact Tryd.cells22.symm) (by simp [Value.formed, Tryd.underlying22]; exact Tryd.cells22.symm) (key_arr ha.1 ha.2.1 ha.2.2) (key_arr hb.1 hb.2.1 hb.2.2)
  have e : r = decide (a0 = b0 ∧ a1 = b1 ∧ a2 = b2) := by
    cases r with
    | true =>
      have := h2.1 rfl
      simp at this
      simp [this]
    | false =>
      have : ¬ (a0 = b0 ∧ a1 = b1 ∧ a2 = b2) := fun e => by
        have := h2.2 (by simp [e])
        cases this
      simp [this]
  rw [e] at h1
  exact h1
end Go.Proofs.YtinmaogbfcmagaaDoor
