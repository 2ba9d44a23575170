import Derived.Test.YtaembckojgfnlaaGreatDoorYs
import Derived.Test.YtaembckojgfnlaaGreatDoorZr
import Derived.KernelRfl
set_option linter.all false
namespace Go.Proofs.YtaembckojgfnlaaGreatDoor
open Go Ex
def ngB (P : Program) : Bool := P.funcs.toList.all fun fn => !(fn.name == "runtime.NumGoroutine")
noncomputable def wfB (P : Program) : Bool := P.funcs.toList.all fun fn => match fn.body with | some b => codeOk fn.ntmps false b | none => true
theorem ng_of {P : Program} (h : ngB P = true) : NG P := fun f fn hf => by
  have := List.all_eq_true.1 h fn (Array.mem_toList_iff.2 (Array.mem_of_getElem? hf))
  simpa using this
theorem wf_of {P : Program} (h : wfB P = true) : WfP P := fun f fn b hf hb => by
  have := List.all_eq_true.1 h fn (Array.mem_toList_iff.2 (Array.mem_of_getElem? hf))
  rw [hb] at this; exact this
theorem ng : NG Tryz.prog := ng_of (by kernel_rfl)
theorem wf : WfP Tryz.prog := wf_of (by kernel_rfl)
theorem globs : Tryz.prog.globals.size ≤ GB := by
  have : Tryz.prog.globals.size = 9 := by kernel_rfl
  rw [this]; exact Nat.le_refl 9
theorem exB : extB Tryz.prog = true := by kernel_rfl
theorem ext [Base] : ExtOk Tryz.prog := ext_ok ng globs exB
theorem regs : RegsOk Tryz.prog := regs_of (by rw [regsB_q]; kernel_rfl)
/-- exact(s, b) is found true. -/
def SrcT (s : List Nat) (b : Bool) : Prop := ∀ τ : Nat → Nat, isTQ ((callXQ Tryz.prog 100).c none 8 (.cons (.str s) (.cons (.bool b) .nil)) (h0 τ)) = true
def AncT : Prop := ∀ τ : Nat → Nat, isTQ ((callXQ Tryz.prog 100).c none 4 .nil (h0 τ)) = true
theorem run_any {f : Nat} {args : V} {xs : List Value} (hd : ∀ ρ : Rho, DV ρ args (LV xs)) (e : ∀ τ : Nat → Nat, isTQ ((callXQ Tryz.prog 100).c none f args (h0 τ)) = true) (W : World) (h : StartOk W) :
    Calls Tryz.prog f xs.toArray W fun e w' => e = .returned (.bool true) ∧ RowKit.Below W.heap.size W w' := by
  obtain ⟨adr, τ, a⟩ := h
  letI : Base := ⟨W⟩
  obtain ⟨hr, gl⟩ := start_hr a
  have e1 : isT ((call Tryz.prog 100).c none f args (h0 τ)) = true := by rw [isT_q, ← callX_eq regs, callX_q]; exact e τ
  obtain ⟨h1, rc, e2⟩ := isT_ok e1
  exact exec_true ng ext wf e2 gl hr (hd _) (fun b o => ro_all)
theorem src_any {s : List Nat} {b : Bool} (e : SrcT s b) (W : World) (h : StartOk W) : Calls Tryz.prog 8 #[.string (bs s), .bool b] W fun e w' => e = .returned (.bool true) ∧ RowKit.Below W.heap.size W w' :=
  run_any (xs := [.string (bs s), .bool b]) (fun _ => .cons (.str s) (.cons (.bool b) .nil)) e W h
theorem anc_any (e : AncT) (W : World) (h : StartOk W) : Calls Tryz.prog 4 #[] W fun e w' => e = .returned (.bool true) ∧ RowKit.Below W.heap.size W w' :=
  run_any (xs := []) (fun _ => .nil) e W h
end Go.Proofs.YtaembckojgfnlaaGreatDoor
