/- errors.Is: of nil, and of an error of the reader's that wraps the one that is asked for. -/
import Derived.Test.YtfkjjljhabjcjaaDoorCsc
import Derived.LaidEql
import Derived.Stop.Asserts
import Derived.RowKitTokens
namespace Go.Proofs.YtfkjjljhabjcjaaDoor
open Go.RowKit Go.Extern.Stop Go.Stop Go.Extern
theorem Tryd.callComparable (w : World) : (callFunc 69 #[.agg #[.pointer (some ⟨2, 107, none⟩)]]).run Tryd.prog w = .ok (.value (.bool true)) w := by kernel_rfl
theorem Tryd.callTypeOf (v : Value) (w : World) : (callFunc 28 #[.iface 107 v]).run Tryd.prog w = .ok (.value (.iface 88 (.agg #[.pointer (some ⟨2, 107, none⟩)]))) w := by kernel_rfl
theorem Tryd.isMethodComparable (v : Value) (w : World) : (Go.method 243 88 v "Comparable").run Tryd.prog w = .ok (69, v) w := by kernel_rfl
theorem Tryd.isComp : (Tryd.prog.info? 107).map (·.comparable) = some true := by kernel_rfl
theorem Tryd.isSize : (Tryd.prog.info? 131).map (·.size) = some 1 := by kernel_rfl
theorem Tryd.noIsW (v : Value) (xT : TypeId) (w : World) : (Instr.typeAssert (.iface 103 v) xT 90 true).run Tryd.prog w = .ok (.tuple #[.nilIface, .bool false]) w := run_typeAssert_lacksB Tryd.underlying90 (by kernel_rfl) (by kernel_rfl) v xT w
theorem Tryd.hasUnwrapW (v : Value) (xT : TypeId) (w : World) : (Instr.typeAssert (.iface 103 v) xT 93 true).run Tryd.prog w = .ok (.tuple #[.iface 103 v, .bool true]) w := run_typeAssert_hasB Tryd.underlying93 (by kernel_rfl) v xT w
theorem Tryd.methodUnwrap (v : Value) (w : World) : (Go.method 243 103 v "Unwrap").run Tryd.prog w = .ok (79, v) w := by kernel_rfl
theorem is_nil (b : Addr) (w : World) :
    Calls Tryd.prog 17 #[.nilIface, .iface 107 (.pointer (some b))] w fun e w' => e = .returned (.bool false) ∧ w' = w := by
  have hn := run_eql_iface_nil_left (P := Tryd.prog) w 107 (.pointer (some b)) Tryd.underlying48
  go_enter Tryd.func17, Tryd.ntmps17
  go_wp2
  go_ret
  exact ⟨rfl, rfl⟩
theorem is_wrap (pb : Nat) (b : Addr) (w : World) (h1 : w.cell? ⟨pb, 1, none⟩ = some (.iface 107 (.pointer (some b)))) :
    Calls Tryd.prog 17 #[.iface 103 (.pointer (some ⟨pb, 0, none⟩)), .iface 107 (.pointer (some b))] w fun e w' => e = .returned (.bool true) ∧ w' = w := by
  obtain ⟨i, hi, hcmp⟩ := Option.map_eq_some_iff.1 Tryd.isComp
  obtain ⟨j, hj, hjs⟩ := Option.map_eq_some_iff.1 Tryd.isSize
  have tT := Tryd.callTypeOf
  have cT := Tryd.callComparable
  have mR := Tryd.isMethodComparable
  have nW := Tryd.noIsW
  have uW := Tryd.hasUnwrapW
  have mU := Tryd.methodUnwrap
  have heq := run_eql_iface_ptr_same (P := Tryd.prog) w b Tryd.underlying48 Tryd.underlying107 hi hcmp hj
  have hty := run_eql_iface_types (P := Tryd.prog) 103 107 (.pointer (some ⟨pb, 0, none⟩)) (.pointer (some b)) Tryd.underlying48 (by decide) w
  go_enter Tryd.func17, Tryd.ntmps17
  go_wp2
  refine wp_loop_rounds 2 ?_
  rw [rounds_succ]
  go_wp2
  rw [rounds_succ]
  go_wp2
  go_ret
  exact ⟨rfl, rfl⟩
end Go.Proofs.YtfkjjljhabjcjaaDoor
