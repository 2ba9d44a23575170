import Derived.Test.YtfkfccpjfagamaaGreatDoorYi
import Derived.Test.YtfkfccpjfagamaaGreatDoorZr
import Derived.KernelRfl
set_option linter.all false
namespace Go.Proofs.YtfkfccpjfagamaaGreatDoor
open Go Ex
noncomputable def h0 : H := hOf [] 10
def loc0 : Nat → Option Ex.Loc := fun n => if n ≤ 9 then some ⟨n, 0, 0⟩ else none
theorem no_get [Base] (b : K) : h0.get b = none := by
  rw [key_of b]; exact hOf_get 10 [] _
theorem start_hr (W : World) : letI : Base := ⟨W⟩; HR Tryz.prog (rhoOf loc0) h0 W ∧ Gl (rhoOf loc0) := by
  letI : Base := ⟨W⟩
  refine ⟨hr_of (fun n o h => (by cases h)) (fun n m o q l l' h1 => (by cases h1)) (fun n hn => ?_) ⟨Nat.le_refl _, fun _ _ => rfl, fun k hw => ?_⟩, fun g hg => ⟨0, by rw [rhoOf_key]; exact if_pos (show g ≤ 9 from hg)⟩⟩
  · exact if_neg (by omega)
  · obtain ⟨b, o, l, h1, h2, _⟩ := hw
    have h1' : h0.get b = some o := h1
    rw [no_get] at h1'; cases h1'
def ngB (P : Program) : Bool := P.funcs.toList.all fun fn => !(fn.name == "runtime.NumGoroutine")
noncomputable def wfB (P : Program) : Bool := P.funcs.toList.all fun fn => match fn.body with | some b => codeOk fn.ntmps false b | none => true
theorem ng_of {P : Program} (h : ngB P = true) : NG P := fun f fn hf => by
  have := List.all_eq_true.1 h fn (Array.mem_toList_iff.2 (Array.mem_of_getElem? hf))
  simpa using this
theorem wf_of {P : Program} (h : wfB P = true) : WfP P := fun f fn b hf hb => by
  have := List.all_eq_true.1 h fn (Array.mem_toList_iff.2 (Array.mem_of_getElem? hf))
  rw [hb] at this; exact this
theorem ng : NG Tryz.prog := ng_of (by kernel_rfl)
theorem wf : WfP Tryz.prog := wf_of (by kernel_rfl)
theorem globs : Tryz.prog.globals.size ≤ GB := of_decide_eq_true (by kernel_rfl)
theorem exB : extB Tryz.prog = true := by kernel_rfl
theorem ext [Base] : ExtOk Tryz.prog := ext_ok ng globs exB
/-- 67239936 = 2^17 + 2^26: the two functions whose regions are looked at each time. -/
theorem regs : RegsOkM Tryz.prog 67239936 := regsM_of (by rw [regsM_q]; kernel_rfl)
/-- The anchor is found true. -/
def AncT : Prop := isTQ ((callYQ Tryz.prog (orcWQ 56 56) 67239936 1000).c none 7 .nil h0) = true
/-- A call is found true. -/
def RunT (f : Nat) (args : V) : Prop := isTQ ((callYQ Tryz.prog (orcWQ 7 56) 67239936 1000).c none f args h0) = true
theorem ancT (e : AncT) : isT ((callY Tryz.prog (orcW 56 56) 67239936 1000).c none 7 .nil h0) = true := by
  rw [isT_q, callY_q, orcW_q]
  exact e
theorem runT {f : Nat} {args : V} (e : RunT f args) : isT ((callY Tryz.prog (orcW 7 56) 67239936 1000).c none f args h0) = true := by
  rw [isT_q, callY_q, orcW_q]
  exact e
theorem anc_any (e : AncT) (W : World) : Calls Tryz.prog 7 #[] W fun e w' => e = .returned (.bool true) ∧ RowKit.Below W.heap.size W w' := by
  letI : Base := ⟨W⟩
  obtain ⟨hr, gl⟩ := start_hr W
  exact exec_orcV (m := 67239936) (n := 1000) (f := 7) (args := .nil) (h := h0) (orc := orcW 56 56) (xs := []) ng ext wf regs (orcW_ok (fun h => absurd rfl h) In_any) (ancT e) gl hr .nil (fun b o h => by rw [no_get] at h; cases h)
theorem run_any (ea : AncT) {f : Nat} {args : V} {xs : List Value} (hd : ∀ ρ : Rho, DV ρ args (LV xs)) (e : RunT f args) (W : World) :
    Calls Tryz.prog f xs.toArray W fun e w' => e = .returned (.bool true) ∧ RowKit.Below W.heap.size W w' := by
  letI : Base := ⟨W⟩
  obtain ⟨hr, gl⟩ := start_hr W
  exact exec_orcV (m := 67239936) (n := 1000) (f := f) (args := args) (h := h0) (orc := orcW 7 56) (xs := xs) ng ext wf regs (orcW_ok (fun _ _ _ w _ => anc_any ea w) In_any) (runT e) gl hr (hd _) (fun b o h => by rw [no_get] at h; cases h)
end Go.Proofs.YtfkfccpjfagamaaGreatDoor
