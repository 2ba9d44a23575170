import Derived.Test.YtheknbfbneghgaaGreatDoorAs
set_option maxHeartbeats 4000000
set_option maxRecDepth 100000
namespace Go.Proofs.YtheknbfbneghgaaGreatDoor
open Go.RowKit Go.Extern.Stop Go.Stop Go.Extern Lx
theorem Tryz.set45 (tb bb : Nat) (e old : Value) (W : World) (he : e.oneCell' = true) (hb : W.cell? ⟨bb, 0, none⟩ = some e) (ht : W.cell? ⟨tb, 0, none⟩ = some old) (hf : W.frozen? ⟨tb, 0, none⟩ = false) :
 (ReflectliteValue.set #[.agg #[.pointer (some ⟨5, 57, none⟩), .pointer (some ⟨tb, 0, none⟩), .int .u64 409], .agg #[.pointer (some ⟨5, 57, none⟩), .pointer (some ⟨bb, 0, none⟩), .int .u64 153]]).run Tryz.prog W
  = .ok (.tuple #[]) (W.setCell ⟨tb, 0, none⟩ e) := by
 rw [rls]
 simp only [Sem.run_bind, Tryz.parts45a, Tryz.parts45, Result.andThen]
 simp [ReflectliteValue.flagAddr, loadVar, isAgg, underlying, Tryz.underlying57, Result.andThen, Tryz.direct45, storeVar, Value.cells, storeCells, Addr.add]
 have hl := run_loadCells_list (P := Tryz.prog) W ⟨bb, 0, none⟩ [e] (fun j v hj => by
  match j, hj with
  | 0, hj => simp at hj; subst hj; exact hb)
 simp at hl
 rw [hl]
 simp [storeCells, Addr.add]
 rw [run_store Tryz.prog W ⟨tb, 0, none⟩ _ _ he]
 simp [ht, hf]
theorem Tryz.noAs81 (v : Value) (w : World) : (Instr.typeAssert (.iface 118 v) 38 95 true).run Tryz.prog w = .ok (.tuple #[.nilIface, .bool false]) w := run_typeAssert_lacksB Tryz.underlying95 zG zG v 38 w
theorem Tryz.hasUnwrap81 (v : Value) (w : World) : (Instr.typeAssert (.iface 118 v) 38 98 true).run Tryz.prog w = .ok (.tuple #[.iface 118 v, .bool true]) w := run_typeAssert_hasB Tryz.underlying98 zG v 38 w
theorem as_inner (nm : ByteArray) (p : Int) (tb vb : Nat) (old : Value) (w : World) (ht0 : w.cell? ⟨tb, 0, none⟩ = some old) (hf0 : w.frozen? ⟨tb, 0, none⟩ = false) (hv : w.cell? ⟨vb, 0, none⟩ = some (.pointer (some ⟨tb, 0, none⟩))) :
 Calls Tryz.prog 23 #[.iface 118 (.agg #[.string nm, .iface 57 (.agg #[.int .i64 p])]), .iface 58 (.pointer (some ⟨tb, 0, none⟩)), .agg #[.pointer (some ⟨5, 58, none⟩), .pointer (some ⟨vb, 0, none⟩), .int .u64 150], .iface 90 (.agg #[.pointer (some ⟨5, 57, none⟩)])] w
  fun ev w' => ev = .returned (.bool true) ∧ w'.cell? ⟨tb, 0, none⟩ = some (.int .i64 p) ∧ w.grownBy w' (some tb) := by
 have h20 := @run_callFunc_extern Tryz.prog 20 _ (fun args => ReflectliteValue.unpack (args.getD 0 (.tuple #[]))) Tryz.func20 zG zG zG zG
 have h35 := @run_callFunc_extern Tryz.prog 33 _ ReflectliteType.typeOf Tryz.func33 zG zG zG zG
 have h67 := @run_callFunc_extern Tryz.prog 197 _ (ReflectliteType.relation "AssignableTo" ReflectliteType.assignableTo) Tryz.func197 zG zG zG zG
 have h36 := @run_callFunc_extern Tryz.prog 34 _ (ReflectliteValue.method (ReflectliteValue.valueError "reflectlite.Value.Elem" 0) ReflectliteValue.elem) Tryz.func34 zG zG zG zG
 have h37 := @run_callFunc_extern Tryz.prog 35 _ ReflectliteValue.set Tryz.func35 zG zG zG zG
 have tO := Tryz.typeOf45
 have tP := Tryz.typeOf81
 have mA := Tryz.methodAssignableTo
 have mU := Tryz.methodUnwrap
 have a45 := Tryz.assignable45
 have a81 := Tryz.assignable81
 have v45 := Tryz.valueOf45
 have nA := Tryz.noAs81
 have hU := Tryz.hasUnwrap81
 have htl : tb < w.heap.size := World.block_lt_of_cell? w ⟨tb, 0, none⟩ ht0
 have hvl : vb < w.heap.size := World.block_lt_of_cell? w ⟨vb, 0, none⟩ hv
 have el := Tryz.elemV47 ⟨vb, 0, none⟩ ⟨tb, 0, none⟩ ((w.alloc (.cells #[.pointer (some ⟨5, 58, none⟩), .pointer (some ⟨vb, 0, none⟩), .int .u64 150] 70)).alloc (.cells #[.string nm, .iface 57 (.agg #[.int .i64 p])] 118)) (by rw [World.cell?_alloc_lt _ _ ⟨vb, 0, none⟩ sp, World.cell?_alloc_lt _ _ ⟨vb, 0, none⟩ hvl]; exact hv)
 have st := Tryz.set45 tb (w.heap.size + 1 + 1) (.int .i64 p) old (((w.alloc (.cells #[.pointer (some ⟨5, 58, none⟩), .pointer (some ⟨vb, 0, none⟩), .int .u64 150] 70)).alloc (.cells #[.string nm, .iface 57 (.agg #[.int .i64 p])] 118)).alloc (.cells #[.int .i64 p] 57)) rfl (by rw [World.cell?_alloc_at _ _ _ _ zK]; rfl)
  (by rw [World.cell?_alloc_lt _ _ ⟨tb, 0, none⟩ sp, World.cell?_alloc_lt _ _ ⟨tb, 0, none⟩ sp, World.cell?_alloc_lt _ _ ⟨tb, 0, none⟩ htl]; exact ht0)
  (by rw [World.frozen?_alloc_old _ _ ⟨tb, 0, none⟩ sp, World.frozen?_alloc_old _ _ ⟨tb, 0, none⟩ sp, World.frozen?_alloc_old _ _ ⟨tb, 0, none⟩ (Nat.ne_of_lt htl)]; exact hf0)
 go_enter Tryz.func23, Tryz.ntmps23
 go_wp2
 refine wp_loop_rounds 2 ?_
 rw [rounds_succ]
 go_wp2
 rw [rounds_succ]
 go_wp2
 go_ret
 refine ⟨rfl, ?_, rfl, rfl, rfl, ?_, ?_⟩
 ·refine World.cell?_setCell_same' _ _ _ ?_
  rw [World.cell?_alloc_lt _ _ ⟨tb, 0, none⟩ sp, World.cell?_alloc_lt _ _ ⟨tb, 0, none⟩ sp, World.cell?_alloc_lt _ _ ⟨tb, 0, none⟩ htl, ht0]; rfl
 ·simp [World.setCell]; omega
 ·intro k hk hne
  have hne' : k ≠ tb := fun e => hne (by rw [e])
  rw [Below.heap_setCell _ _ _ _ hne', Below.heap_alloc _ _ _ sp, Below.heap_alloc _ _ _ sp, Below.heap_alloc _ _ _ hk]
theorem as_hit (nm : ByteArray) (p : Int) (tb : Nat) (old : Value) (w : World) (hg : w.cell? ⟨0, 0, none⟩ = some (.iface 90 (.agg #[.pointer (some ⟨5, 38, none⟩)]))) (ht0 : w.cell? ⟨tb, 0, none⟩ = some old) (hf0 : w.frozen? ⟨tb, 0, none⟩ = false) :
 Calls Tryz.prog 13 #[.iface 118 (.agg #[.string nm, .iface 57 (.agg #[.int .i64 p])]), .iface 58 (.pointer (some ⟨tb, 0, none⟩))] w
  fun ev w' => ev = .returned (.bool true) ∧ w'.cell? ⟨tb, 0, none⟩ = some (.int .i64 p) ∧ w.grownBy w' (some tb) := by
 have htl : tb < w.heap.size := World.block_lt_of_cell? w ⟨tb, 0, none⟩ ht0
 have h0l : 0 < w.heap.size := World.block_lt_of_cell? w ⟨0, 0, none⟩ hg
 have h20 := @run_callFunc_extern Tryz.prog 20 _ (fun args => ReflectliteValue.unpack (args.getD 0 (.tuple #[]))) Tryz.func20 zG zG zG zG
 have h21 := @run_callFunc_extern Tryz.prog 21 _ (ReflectliteValue.methodAny (ReflectliteValue.valueError "reflectlite.Value.Type" 0) (fun t _ _ _ => ReflectliteType.toType t)) Tryz.func21 zG zG zG zG
 have h22 := @run_callFunc_extern Tryz.prog 22 _ (ReflectliteValue.method (ReflectliteValue.valueError "reflectlite.Value.IsNil" 0) ReflectliteValue.isNil) Tryz.func22 zG zG zG zG
 have h59 := @run_callFunc_extern Tryz.prog 185 _ (ReflectliteType.abiMethod fun t => do pure (.int .u8 (← Rtype.kind t))) Tryz.func185 zG zG zG zG
 have h69 := @run_callFunc_extern Tryz.prog 199 _ (ReflectliteType.method ReflectliteType.elem) Tryz.func199 zG zG zG zG
 have h70 := @run_callFunc_extern Tryz.prog 200 _ (ReflectliteType.relation "Implements" ReflectliteType.implements_) Tryz.func200 zG zG zG zG
 have f47 := Tryz.valueOf47
 have t47 := Tryz.type47
 have mK := Tryz.methodKind
 have mE := Tryz.methodElem
 have mI := Tryz.methodImplements
 have k47 := Tryz.kind47
 have k45 := Tryz.kind45
 have e47 := Tryz.elem47
 have i45 := Tryz.implements45
 have n22 := Tryz.isNil47 ⟨w.heap.size, 0, none⟩ ⟨tb, 0, none⟩ ((w.alloc (.cells #[.pointer (some ⟨tb, 0, none⟩)] 58)).alloc (.cells #[.pointer (some ⟨5, 58, none⟩), .pointer (some ⟨w.heap.size, 0, none⟩), .int .u64 150] 70)) zK
 have hg2 : ((w.alloc (.cells #[.pointer (some ⟨tb, 0, none⟩)] 58)).alloc (.cells #[.pointer (some ⟨5, 58, none⟩), .pointer (some ⟨w.heap.size, 0, none⟩), .int .u64 150] 70)).cell? ⟨0, 0, none⟩ = some (.iface 90 (.agg #[.pointer (some ⟨5, 38, none⟩)])) := by
  rw [World.cell?_alloc_lt _ _ ⟨0, 0, none⟩ zK, World.cell?_alloc_lt _ _ ⟨0, 0, none⟩ h0l]; exact hg
 have HIN := zm (as_inner nm p tb w.heap.size old ((w.alloc (.cells #[.pointer (some ⟨tb, 0, none⟩)] 58)).alloc (.cells #[.pointer (some ⟨5, 58, none⟩), .pointer (some ⟨w.heap.size, 0, none⟩), .int .u64 150] 70))
  (by rw [World.cell?_alloc_lt _ _ ⟨tb, 0, none⟩ sp, World.cell?_alloc_lt _ _ ⟨tb, 0, none⟩ htl]; exact ht0)
  (by rw [World.frozen?_alloc_old _ _ ⟨tb, 0, none⟩ sp, World.frozen?_alloc_old _ _ ⟨tb, 0, none⟩ (Nat.ne_of_lt htl)]; exact hf0) zK)
 go_enter Tryz.func13, Tryz.ntmps13
 go_wp2_with (first | (go_at_call 23; refine (zk HIN).mono ?_; rintro e w' ⟨rfl, hcc, hgr⟩))
 go_ret
 refine ⟨rfl, hcc, hgr.os, hgr.tape, hgr.output, ?_, ?_⟩
 ·have := hgr.size; simp at this; omega
 ·intro k hk hne
  rw [hgr.block k sp hne, Below.heap_alloc _ _ _ sp, Below.heap_alloc _ _ _ hk]
end Go.Proofs.YtheknbfbneghgaaGreatDoor
