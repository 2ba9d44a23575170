/- errors.As at a target of type *stuck, walked. -/
import Derived.Test.YtpmpjbnnjdpbnaaDoorAs
namespace Go.Proofs.YtpmpjbnnjdpbnaaDoor
open Go.RowKit Go.Extern.Stop Go.Stop Go.Extern Go.Proofs.YtpmpjbnnjdpbnaaDoor.Lx

theorem Tryd.set45 (tb bb : Nat) (e old : Value) (W : World) (he : e.oneCell' = true) (hb : W.cell? ⟨bb, 0, none⟩ = some e) (ht : W.cell? ⟨tb, 0, none⟩ = some old) (hf : W.frozen? ⟨tb, 0, none⟩ = false) :
    (ReflectliteValue.set #[.agg #[.pointer (some ⟨3, 88, none⟩), .pointer (some ⟨tb, 0, none⟩), .int .u64 409], .agg #[.pointer (some ⟨3, 88, none⟩), .pointer (some ⟨bb, 0, none⟩), .int .u64 153]]).run Tryd.prog W
      = .ok (.tuple #[]) (W.setCell ⟨tb, 0, none⟩ e) := by
  rw [rls]
  simp only [Sem.run_bind, Tryd.parts45a, Tryd.parts45, Result.andThen]
  simp [ReflectliteValue.flagAddr, loadVar, isAgg, underlying, Tryd.underlying88, Result.andThen, Tryd.direct45, storeVar, Value.cells, storeCells, Addr.add]
  have hl := run_loadCells_list (P := Tryd.prog) W ⟨bb, 0, none⟩ [e] (fun j v hj => by
    match j, hj with
    | 0, hj => simp at hj; subst hj; exact hb)
  simp at hl
  rw [hl]
  simp [storeCells, Addr.add]
  rw [run_store Tryd.prog W ⟨tb, 0, none⟩ _ _ he]
  simp [ht, hf]

theorem Tryd.noAs81 (v : Value) (w : World) : (Instr.typeAssert (.iface 123 v) 57 115 true).run Tryd.prog w = .ok (.tuple #[.nilIface, .bool false]) w := run_typeAssert_lacksB Tryd.underlying115 (by kernel_rfl) (by kernel_rfl) v 57 w
theorem Tryd.hasUnwrap81 (v : Value) (w : World) : (Instr.typeAssert (.iface 123 v) 57 118 true).run Tryd.prog w = .ok (.tuple #[.iface 123 v, .bool true]) w := run_typeAssert_hasB Tryd.underlying118 (by kernel_rfl) v 57 w
set_option maxRecDepth 100000 in
set_option maxHeartbeats 4000000 in
theorem as_inner (nm : ByteArray) (p : Int) (tb vb : Nat) (old : Value) (w : World) (ht0 : w.cell? ⟨tb, 0, none⟩ = some old) (hf0 : w.frozen? ⟨tb, 0, none⟩ = false) (hv : w.cell? ⟨vb, 0, none⟩ = some (.pointer (some ⟨tb, 0, none⟩))) :
    Calls Tryd.prog 74 #[.iface 123 (.agg #[.string nm, .iface 88 (.agg #[.int .i64 p])]), .iface 90 (.pointer (some ⟨tb, 0, none⟩)), .agg #[.pointer (some ⟨3, 90, none⟩), .pointer (some ⟨vb, 0, none⟩), .int .u64 150], .iface 110 (.agg #[.pointer (some ⟨3, 88, none⟩)])] w
      fun ev w' => ev = .returned (.bool true) ∧ w'.cell? ⟨tb, 0, none⟩ = some (.int .i64 p) ∧ w.grownBy w' (some tb) := by
  have h20 := @run_callFunc_extern Tryd.prog 71 _ (fun args => ReflectliteValue.unpack (args.getD 0 (.tuple #[]))) Tryd.func71 (by kernel_rfl) (by kernel_rfl) (by kernel_rfl) (by kernel_rfl)
  have h35 := @run_callFunc_extern Tryd.prog 87 _ ReflectliteType.typeOf Tryd.func87 (by kernel_rfl) (by kernel_rfl) (by kernel_rfl) (by kernel_rfl)
  have h67 := @run_callFunc_extern Tryd.prog 121 _ (ReflectliteType.relation "AssignableTo" ReflectliteType.assignableTo) Tryd.func121 (by kernel_rfl) (by kernel_rfl) (by kernel_rfl) (by kernel_rfl)
  have h36 := @run_callFunc_extern Tryd.prog 88 _ (ReflectliteValue.method (ReflectliteValue.valueError "reflectlite.Value.Elem" 0) ReflectliteValue.elem) Tryd.func88 (by kernel_rfl) (by kernel_rfl) (by kernel_rfl) (by kernel_rfl)
  have h37 := @run_callFunc_extern Tryd.prog 89 _ ReflectliteValue.set Tryd.func89 (by kernel_rfl) (by kernel_rfl) (by kernel_rfl) (by kernel_rfl)
  have tO := Tryd.typeOf45
  have tP := Tryd.typeOf81
  have mA := Tryd.methodAssignableTo
  have mU := Tryd.methodUnwrap
  have a45 := Tryd.assignable45
  have a81 := Tryd.assignable81
  have v45 := Tryd.valueOf45
  have nA := Tryd.noAs81
  have hU := Tryd.hasUnwrap81
  have htl : tb < w.heap.size := World.block_lt_of_cell? w ⟨tb, 0, none⟩ ht0
  have hvl : vb < w.heap.size := World.block_lt_of_cell? w ⟨vb, 0, none⟩ hv
  have el := Tryd.elemV47 ⟨vb, 0, none⟩ ⟨tb, 0, none⟩ ((w.alloc (.cells #[.pointer (some ⟨3, 90, none⟩), .pointer (some ⟨vb, 0, none⟩), .int .u64 150] 97)).alloc (.cells #[.string nm, .iface 88 (.agg #[.int .i64 p])] 123)) (by rw [World.cell?_alloc_lt _ _ ⟨vb, 0, none⟩ (by simp; omega), World.cell?_alloc_lt _ _ ⟨vb, 0, none⟩ hvl]; exact hv)
  have st := Tryd.set45 tb (w.heap.size + 1 + 1) (.int .i64 p) old (((w.alloc (.cells #[.pointer (some ⟨3, 90, none⟩), .pointer (some ⟨vb, 0, none⟩), .int .u64 150] 97)).alloc (.cells #[.string nm, .iface 88 (.agg #[.int .i64 p])] 123)).alloc (.cells #[.int .i64 p] 88)) rfl (by rw [World.cell?_alloc_at _ _ _ _ (by simp)]; rfl)
    (by rw [World.cell?_alloc_lt _ _ ⟨tb, 0, none⟩ (by simp; omega), World.cell?_alloc_lt _ _ ⟨tb, 0, none⟩ (by simp; omega), World.cell?_alloc_lt _ _ ⟨tb, 0, none⟩ htl]; exact ht0)
    (by rw [World.frozen?_alloc_old _ _ ⟨tb, 0, none⟩ (by simp; omega), World.frozen?_alloc_old _ _ ⟨tb, 0, none⟩ (by simp; omega), World.frozen?_alloc_old _ _ ⟨tb, 0, none⟩ (Nat.ne_of_lt htl)]; exact hf0)
  go_enter Tryd.func74, Tryd.ntmps74
  go_wp2
  refine wp_loop_rounds 2 ?_
  rw [rounds_succ]
  go_wp2
  rw [rounds_succ]
  go_wp2
  go_ret
  refine ⟨rfl, ?_, rfl, rfl, rfl, ?_, ?_⟩
  · refine World.cell?_setCell_same' _ _ _ ?_
    rw [World.cell?_alloc_lt _ _ ⟨tb, 0, none⟩ (by simp; omega), World.cell?_alloc_lt _ _ ⟨tb, 0, none⟩ (by simp; omega), World.cell?_alloc_lt _ _ ⟨tb, 0, none⟩ htl, ht0]; rfl
  · simp [World.setCell]; omega
  · intro k hk hne
    have hne' : k ≠ tb := fun e => hne (by rw [e])
    rw [Below.heap_setCell _ _ _ _ hne', Below.heap_alloc _ _ _ (by simp; omega), Below.heap_alloc _ _ _ (by simp; omega), Below.heap_alloc _ _ _ hk]

set_option maxRecDepth 100000 in
set_option maxHeartbeats 4000000 in
theorem as_hit (nm : ByteArray) (p : Int) (tb : Nat) (old : Value) (w : World) (hg : w.cell? ⟨1, 0, none⟩ = some (.iface 110 (.agg #[.pointer (some ⟨3, 57, none⟩)]))) (ht0 : w.cell? ⟨tb, 0, none⟩ = some old) (hf0 : w.frozen? ⟨tb, 0, none⟩ = false) :
    Calls Tryd.prog 65 #[.iface 123 (.agg #[.string nm, .iface 88 (.agg #[.int .i64 p])]), .iface 90 (.pointer (some ⟨tb, 0, none⟩))] w
      fun ev w' => ev = .returned (.bool true) ∧ w'.cell? ⟨tb, 0, none⟩ = some (.int .i64 p) ∧ w.grownBy w' (some tb) := by
  have htl : tb < w.heap.size := World.block_lt_of_cell? w ⟨tb, 0, none⟩ ht0
  have h0l : 1 < w.heap.size := World.block_lt_of_cell? w ⟨1, 0, none⟩ hg
  have h20 := @run_callFunc_extern Tryd.prog 71 _ (fun args => ReflectliteValue.unpack (args.getD 0 (.tuple #[]))) Tryd.func71 (by kernel_rfl) (by kernel_rfl) (by kernel_rfl) (by kernel_rfl)
  have h21 := @run_callFunc_extern Tryd.prog 72 _ (ReflectliteValue.methodAny (ReflectliteValue.valueError "reflectlite.Value.Type" 0) (fun t _ _ _ => ReflectliteType.toType t)) Tryd.func72 (by kernel_rfl) (by kernel_rfl) (by kernel_rfl) (by kernel_rfl)
  have h22 := @run_callFunc_extern Tryd.prog 73 _ (ReflectliteValue.method (ReflectliteValue.valueError "reflectlite.Value.IsNil" 0) ReflectliteValue.isNil) Tryd.func73 (by kernel_rfl) (by kernel_rfl) (by kernel_rfl) (by kernel_rfl)
  have h59 := @run_callFunc_extern Tryd.prog 112 _ (ReflectliteType.abiMethod fun t => do pure (.int .u8 (← Rtype.kind t))) Tryd.func112 (by kernel_rfl) (by kernel_rfl) (by kernel_rfl) (by kernel_rfl)
  have h69 := @run_callFunc_extern Tryd.prog 123 _ (ReflectliteType.method ReflectliteType.elem) Tryd.func123 (by kernel_rfl) (by kernel_rfl) (by kernel_rfl) (by kernel_rfl)
  have h70 := @run_callFunc_extern Tryd.prog 124 _ (ReflectliteType.relation "Implements" ReflectliteType.implements_) Tryd.func124 (by kernel_rfl) (by kernel_rfl) (by kernel_rfl) (by kernel_rfl)
  have f47 := Tryd.valueOf47
  have t47 := Tryd.type47
  have mK := Tryd.methodKind
  have mE := Tryd.methodElem
  have mI := Tryd.methodImplements
  have k47 := Tryd.kind47
  have k45 := Tryd.kind45
  have e47 := Tryd.elem47
  have i45 := Tryd.implements45
  have n22 := Tryd.isNil47 ⟨w.heap.size, 0, none⟩ ⟨tb, 0, none⟩ ((w.alloc (.cells #[.pointer (some ⟨tb, 0, none⟩)] 90)).alloc (.cells #[.pointer (some ⟨3, 90, none⟩), .pointer (some ⟨w.heap.size, 0, none⟩), .int .u64 150] 97)) (by simp)
  have hg2 : ((w.alloc (.cells #[.pointer (some ⟨tb, 0, none⟩)] 90)).alloc (.cells #[.pointer (some ⟨3, 90, none⟩), .pointer (some ⟨w.heap.size, 0, none⟩), .int .u64 150] 97)).cell? ⟨1, 0, none⟩ = some (.iface 110 (.agg #[.pointer (some ⟨3, 57, none⟩)])) := by
    rw [World.cell?_alloc_lt _ _ ⟨1, 0, none⟩ (by simp; omega), World.cell?_alloc_lt _ _ ⟨1, 0, none⟩ h0l]; exact hg
  have HIN := hide (as_inner nm p tb w.heap.size old ((w.alloc (.cells #[.pointer (some ⟨tb, 0, none⟩)] 90)).alloc (.cells #[.pointer (some ⟨3, 90, none⟩), .pointer (some ⟨w.heap.size, 0, none⟩), .int .u64 150] 97))
    (by rw [World.cell?_alloc_lt _ _ ⟨tb, 0, none⟩ (by simp; omega), World.cell?_alloc_lt _ _ ⟨tb, 0, none⟩ htl]; exact ht0)
    (by rw [World.frozen?_alloc_old _ _ ⟨tb, 0, none⟩ (by simp; omega), World.frozen?_alloc_old _ _ ⟨tb, 0, none⟩ (Nat.ne_of_lt htl)]; exact hf0) (by simp))
  go_enter Tryd.func65, Tryd.ntmps65
  go_wp2_with (first | (go_at_call 74; refine (unhide HIN).mono ?_; rintro e w' ⟨rfl, hcc, hgr⟩))
  go_ret
  refine ⟨rfl, hcc, hgr.os, hgr.tape, hgr.output, ?_, ?_⟩
  · have := hgr.size; simp at this; omega
  · intro k hk hne
    rw [hgr.block k (by simp; omega) hne, Below.heap_alloc _ _ _ (by simp; omega), Below.heap_alloc _ _ _ hk]
end Go.Proofs.YtpmpjbnnjdpbnaaDoor
