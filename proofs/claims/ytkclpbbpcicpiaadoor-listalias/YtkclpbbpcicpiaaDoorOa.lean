/- An array of two numbers that is handed in, opened. -/
import Derived.Test.YtkclpbbpcicpiaaDoorBt
import Derived.ProofKit
import Derived.OpenShut
namespace Go.Proofs.YtkclpbbpcicpiaaDoor
open Go.ChangeShapes Go.WideShapes Go.RowKit
set_option maxRecDepth 100000 in
theorem open_arr {H : Type} {enc : TypeId × Value → H} {w : World} {r : Go.Reach} {b0 base : Nat} {spare : Nat → Bool} {held : Bool} {v : Value} {d : DataW H} {p : List MemPlace} (hv : Value.okWide Tryd.prog w r b0 41 v) (h : DataW.Trod enc Tryd.prog w base spare held 41 v d p) :
    ∃ a0 a1 : Int, v = .agg #[.int .i64 a0, .int .i64 a1] ∧ (Lit.int .i64 a0).wf = true ∧ (Lit.int .i64 a1).wf = true := by
  obtain ⟨cs, rfl, hsz, _⟩ : ∃ cs, v = .agg cs ∧ cs.size = Tryd.prog.cellsOf 41 ∧ Row.okWide Tryd.prog w r b0 41 cs := by
    simpa [Value.okWide, Tryd.underlying41] using hv
  rw [show Tryd.prog.cellsOf 41 = 2 by kernel_rfl] at hsz
  obtain ⟨c0, c1, rfl⟩ : ∃ c0 c1, cs = #[c0, c1] := by
    rcases cs with ⟨l⟩
    rcases l with _ | ⟨c0, _ | ⟨c1, _ | _⟩⟩ <;> simp at hsz
    exact ⟨c0, c1, rfl⟩
  obtain ⟨fuel, hf⟩ := h
  obtain ⟨ys, m, _, ex, _, hl, hel⟩ := DataW.trod_array Tryd.underlying41 hf
  have hc3 : Tryd.prog.cellsOf 3 = 1 := by kernel_rfl
  rw [hc3] at hel
  have h0 := hel 0 (by omega)
  have h1 := hel 1 (by omega)
  rcases ys with _ | ⟨y0, _ | ⟨y1, _ | _⟩⟩ <;> simp at hl
  simp [Value.cells] at h0 h1
  obtain ⟨x0, e0, _, w0⟩ := DataW.trod_int Tryd.underlying3 h0
  obtain ⟨x1, e1, _, w1⟩ := DataW.trod_int Tryd.underlying3 h1
  simp at e0 e1
  subst e0 e1
  exact ⟨x0, x1, rfl, w0, w1⟩
end Go.Proofs.YtkclpbbpcicpiaaDoor
