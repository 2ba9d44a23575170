import Derived.Test.YtheknbfbneghgaaGreatDoorParC
set_option maxHeartbeats 800000
set_option maxRecDepth 100000
namespace Go.Proofs.YtheknbfbneghgaaGreatDoor
open Go.RowKit Lx Px
set_option linter.unusedSimpArgs false in
theorem withinN (C : Ctx) (ok : C.Ok) (F : Nat) (first cap : Array Value) (hen : ∀ (args : Array Value) (w : World), (callFunc F args).run Tryz.prog w = .ok (.enter F args) w) (r : R) (hd h : Bool) (k : Nat) (w : World) (p : PS w C k h)
 (hc : ∀ w0, w.grownBy w0 (some C.b) → PS w0 C k hd → Calls Tryz.prog F (first ++ cap) w0 (NPost C w0.heap.size r hd w0)) :
 Calls Tryz.prog 80 #[.pointer (some ⟨C.b, 0, none⟩), .bool hd, .func (.func F) first cap] w (NPost C w.heap.size r h w) := by
 obtain ⟨c0, c1, c2, f1, f2, hk, hfew, hcap, hlt, htl, htb⟩ := p.facts ok
 have HC := zm (hc ((w.setCell ⟨C.b, 2, none⟩ (.bool hd)).alloc yA) zC (((p.set2 ok)).alloc yA))
 clear hc
 go_enter Tryz.func80, Tryz.ntmps80
 go_wp2_with fail
 refine (zk HC).mono ?_
 rintro e w1 hp
 rcases hp with ⟨kd, tx, nm, ps, kids, s, k2, ao, cp, hq, rfl, hrow, p1, hg⟩ | ⟨p', rule, hq, rfl, hg⟩
 ·have G1 : w.grownBy w1 (some C.b) := zl zC hg
  have hz1 := hg.size
  simp at hz1
  have b1 : BL w1 w.heap.size yA := (BL.new (by simp [World.setCell])).grown hg om
  obtain ⟨c0', c1', c2', f1', f2', hk', _, _, hlt', htl', _⟩ := p1.facts ok
  have hl1 := b1.lt
  have zc := b1.cell
  have fz := b1.frozen
  obtain ⟨lo1, hlo1, row1⟩ := hrow.named
  simp at hlo1
  have HQ := zm hq
  have n1 : ¬ C.b = w.heap.size := om
  have n2 : ¬ w.heap.size = C.b := om
  have n3 : ¬ C.b = w1.heap.size := om
  have n4 : ¬ w1.heap.size = C.b := om
  have n5 : ¬ w.heap.size = w1.heap.size := om
  have n6 : ¬ w1.heap.size = w.heap.size := om
  clear hg hrow hq c0 c1 c2 f1 f2 hk b1
  go_wp2
  refine bodyPost_ret (v := .agg #[.int .i64 kd, .string ⟨tx.toArray⟩, .int .i64 nm, .int .i64 ps, .string ⟨#[]⟩, .int .i64 0, .slice ao kids.length cp]) (by simp [results, Tryz.results80, go_sem, *]) rfl (yB (hi := w1.heap.size) (s := s) (k' := k2) (tx := tx) (kids := kids) (zk HQ) (row1.ag zL oz lr) oz ?_ ?_)
  ·(repeat (first | with_reducible assumption | with_reducible refine PS.drew ?_ | with_reducible refine PS.alloc ?_ _ | with_reducible refine PS.over ?_ ok _ zI | with_reducible exact PS.set2 za ok))
  ·(repeat (first | with_reducible assumption | with_reducible exact zo _ _ | with_reducible refine zz ?_ | with_reducible refine zr ?_ _ | (with_reducible refine yF ?_ _ zD)))
 ·exact ⟨rfl, zs hq (zl zC hg)⟩
set_option linter.unusedSimpArgs false in
theorem withinL (C : Ctx) (ok : C.Ok) (F : Nat) (first cap : Array Value) (hen : ∀ (args : Array Value) (w : World), (callFunc F args).run Tryz.prog w = .ok (.enter F args) w) (r : R) (hd h : Bool) (k : Nat) (w : World) (p : PS w C k h)
 (hc : ∀ w0, w.grownBy w0 (some C.b) → PS w0 C k hd → Calls Tryz.prog F (first ++ cap) w0 (LPost C w0.heap.size r hd w0)) :
 Calls Tryz.prog 139 #[.pointer (some ⟨C.b, 0, none⟩), .bool hd, .func (.func F) first cap] w (LPost C w.heap.size r h w) := by
 obtain ⟨c0, c1, c2, f1, f2, hk, hfew, hcap, hlt, htl, htb⟩ := p.facts ok
 have HC := zm (hc (w.setCell ⟨C.b, 2, none⟩ (.bool hd)) zC (p.set2 ok))
 clear hc
 go_enter Tryz.func139, Tryz.ntmps139
 go_wp2_with fail
 refine (zk HC).mono ?_
 rintro e w1 hp
 rcases hp with ⟨l, s, k2, ao, cp, hq, rfl, hrow, p1, hg⟩ | ⟨p', rule, hq, rfl, hg⟩
 ·have G1 : w.grownBy w1 (some C.b) := zl zC hg
  have hz1 := hg.size
  simp at hz1
  obtain ⟨c0', c1', c2', f1', f2', hk', _, _, hlt', htl', _⟩ := p1.facts ok
  obtain ⟨lo1, hlo1, row1⟩ := hrow.named
  simp at hlo1
  have HQ := zm hq
  clear hg hrow hq c0 c1 c2 f1 f2 hk
  go_wp2
  go_ret
  refine yg (hi := w1.heap.size) (s := s) (k' := k2) (l := l) (zk HQ) (row1.ag zL oz lr) oz ?_ ?_
  ·(repeat (first | with_reducible assumption | with_reducible refine PS.drew ?_ | with_reducible refine PS.alloc ?_ _ | with_reducible refine PS.over ?_ ok _ zI | with_reducible exact PS.set2 za ok))
  ·(repeat (first | with_reducible assumption | with_reducible exact zo _ _ | with_reducible refine zz ?_ | with_reducible refine zr ?_ _ | (with_reducible refine yF ?_ _ zD)))
 ·exact ⟨rfl, yK hq (zl zC hg)⟩
theorem run_enter {f : FuncId} {fn : Func} (hf : Tryz.prog.funcs[f]? = some fn) (hname : (fn.name == "runtime.NumGoroutine") = false) (hb : fn.body.isSome = true) (args : Array Value) (w : World) :
 (callFunc f args).run Tryz.prog w = .ok (.enter f args) w := by
 obtain ⟨c, hc⟩ := Option.isSome_iff_exists.1 hb
 have h1 : fn.name ≠ "runtime.NumGoroutine" := by simpa using hname
 simp [callFunc, hf, h1, hc]
theorem en75 : ∀ (args : Array Value) (w : World), (callFunc 81 args).run Tryz.prog w = .ok (.enter 81 args) w := run_enter Tryz.func81 zG zG
theorem en92 : ∀ (args : Array Value) (w : World), (callFunc 128 args).run Tryz.prog w = .ok (.enter 128 args) w := run_enter Tryz.func128 zG zG
theorem en103 : ∀ (args : Array Value) (w : World), (callFunc 140 args).run Tryz.prog w = .ok (.enter 140 args) w := run_enter Tryz.func140 zG zG
theorem en108 : ∀ (args : Array Value) (w : World), (callFunc 145 args).run Tryz.prog w = .ok (.enter 145 args) w := run_enter Tryz.func145 zG zG
theorem en119 : ∀ (args : Array Value) (w : World), (callFunc 165 args).run Tryz.prog w = .ok (.enter 165 args) w := run_enter Tryz.func165 zG zG
theorem en120 : ∀ (args : Array Value) (w : World), (callFunc 166 args).run Tryz.prog w = .ok (.enter 166 args) w := run_enter Tryz.func166 zG zG
end Go.Proofs.YtheknbfbneghgaaGreatDoor
