import Derived.Test.YtgckmkiiheaeaaaGreatDoorParC
namespace Go.Proofs.YtgckmkiiheaeaaaGreatDoor
open Go.RowKit Lx Px
set_option linter.unusedSimpArgs false in
set_option maxRecDepth 100000 in
set_option maxHeartbeats 800000 in
theorem withinN (C : Ctx) (ok : C.Ok) (F : Nat) (first cap : Array Value) (hen : ∀ (args : Array Value) (w : World), (callFunc F args).run Tryz.prog w = .ok (.enter F args) w) (r : R) (hd h : Bool) (k : Nat) (w : World) (p : PS w C k h)
 (hc : ∀ w0, w.grownBy w0 (some C.b) → PS w0 C k hd → Calls Tryz.prog F (first ++ cap) w0 (NPost C w0.heap.size r hd w0)) :
 Calls Tryz.prog 76 #[.pointer (some ⟨C.b, 0, none⟩), .bool hd, .func (.func F) first cap] w (NPost C w.heap.size r h w) := by
 obtain ⟨c0, c1, c2, f1, f2, hk, hfew, hcap, hlt, htl, htb⟩ := p.facts ok
 have HC := hide (hc ((w.setCell ⟨C.b, 2, none⟩ (.bool hd)).alloc nd0) (by (repeat (first | with_reducible assumption | with_reducible exact grown_refl _ _ | with_reducible refine grown_drew ?_ | with_reducible refine grown_alloc ?_ _ | (with_reducible refine grown_set ?_ _ (by first | with_reducible exact Or.inr rfl | (left; simp <;> omega) | (left; omega)))))) (((p.set2 ok)).alloc nd0))
 clear hc
 go_enter Tryz.func76, Tryz.ntmps76
 go_wp2_with fail
 refine (unhide HC).mono ?_
 rintro e w1 hp
 rcases hp with ⟨kd, tx, nm, ps, kids, s, k2, ao, cp, hq, rfl, hrow, p1, hg⟩ | ⟨p', rule, hq, rfl, hg⟩
 ·have G1 : w.grownBy w1 (some C.b) := grown_trans (by (repeat (first | with_reducible assumption | with_reducible exact grown_refl _ _ | with_reducible refine grown_drew ?_ | with_reducible refine grown_alloc ?_ _ | (with_reducible refine grown_set ?_ _ (by first | with_reducible exact Or.inr rfl | (left; simp <;> omega) | (left; omega)))))) hg
  have hz1 := hg.size
  simp at hz1
  have b1 : BL w1 w.heap.size nd0 := (BL.new (by simp [World.setCell])).grown hg (by omega)
  obtain ⟨c0', c1', c2', f1', f2', hk', _, _, hlt', htl', _⟩ := p1.facts ok
  have hl1 := b1.lt
  have zc := b1.cell
  have fz := b1.frozen
  obtain ⟨lo1, hlo1, row1⟩ := hrow.named
  simp at hlo1
  have HQ := hide hq
  have n1 : ¬ C.b = w.heap.size := by omega
  have n2 : ¬ w.heap.size = C.b := by omega
  have n3 : ¬ C.b = w1.heap.size := by omega
  have n4 : ¬ w1.heap.size = C.b := by omega
  have n5 : ¬ w.heap.size = w1.heap.size := by omega
  have n6 : ¬ w1.heap.size = w.heap.size := by omega
  clear hg hrow hq c0 c1 c2 f1 f2 hk b1
  go_wp2
  refine bodyPost_ret (v := .agg #[.int .i64 kd, .string ⟨tx.toArray⟩, .int .i64 nm, .int .i64 ps, .string ⟨#[]⟩, .int .i64 0, .slice ao kids.length cp]) (by simp [results, Tryz.results76, go_sem, *]) rfl (npost_ok (hi := w1.heap.size) (s := s) (k' := k2) (tx := tx) (kids := kids) (unhide HQ) (row1.ag (by (repeat (first | with_reducible exact Ag.refl _ _ _ | with_reducible refine Ag.drew ?_ | with_reducible refine Ag.alloc ?_ _ (by first | (simp <;> omega) | omega) | with_reducible refine Ag.set ?_ _ (by first | (left; simp <;> omega) | (left; omega) | (right; simp <;> omega) | (right; omega))))) (by first | omega | (simp <;> omega)) (Nat.le_refl _)) (by first | omega | (simp <;> omega)) ?_ ?_)
  ·(repeat (first | with_reducible assumption | with_reducible refine PS.drew ?_ | with_reducible refine PS.alloc ?_ _ | with_reducible refine PS.over ?_ ok _ (by first | (simp <;> omega) | omega) | with_reducible exact PS.set2 (by with_reducible assumption) ok))
  ·(repeat (first | with_reducible assumption | with_reducible exact grown_refl _ _ | with_reducible refine grown_drew ?_ | with_reducible refine grown_alloc ?_ _ | (with_reducible refine grown_set ?_ _ (by first | with_reducible exact Or.inr rfl | (left; simp <;> omega) | (left; omega)))))
 ·exact ⟨rfl, npost_bad hq (grown_trans (by (repeat (first | with_reducible assumption | with_reducible exact grown_refl _ _ | with_reducible refine grown_drew ?_ | with_reducible refine grown_alloc ?_ _ | (with_reducible refine grown_set ?_ _ (by first | with_reducible exact Or.inr rfl | (left; simp <;> omega) | (left; omega)))))) hg)⟩
set_option linter.unusedSimpArgs false in
set_option maxRecDepth 100000 in
set_option maxHeartbeats 800000 in
theorem withinL (C : Ctx) (ok : C.Ok) (F : Nat) (first cap : Array Value) (hen : ∀ (args : Array Value) (w : World), (callFunc F args).run Tryz.prog w = .ok (.enter F args) w) (r : R) (hd h : Bool) (k : Nat) (w : World) (p : PS w C k h)
 (hc : ∀ w0, w.grownBy w0 (some C.b) → PS w0 C k hd → Calls Tryz.prog F (first ++ cap) w0 (LPost C w0.heap.size r hd w0)) :
 Calls Tryz.prog 104 #[.pointer (some ⟨C.b, 0, none⟩), .bool hd, .func (.func F) first cap] w (LPost C w.heap.size r h w) := by
 obtain ⟨c0, c1, c2, f1, f2, hk, hfew, hcap, hlt, htl, htb⟩ := p.facts ok
 have HC := hide (hc (w.setCell ⟨C.b, 2, none⟩ (.bool hd)) (by (repeat (first | with_reducible assumption | with_reducible exact grown_refl _ _ | with_reducible refine grown_drew ?_ | with_reducible refine grown_alloc ?_ _ | (with_reducible refine grown_set ?_ _ (by first | with_reducible exact Or.inr rfl | (left; simp <;> omega) | (left; omega)))))) (p.set2 ok))
 clear hc
 go_enter Tryz.func104, Tryz.ntmps104
 go_wp2_with fail
 refine (unhide HC).mono ?_
 rintro e w1 hp
 rcases hp with ⟨l, s, k2, ao, cp, hq, rfl, hrow, p1, hg⟩ | ⟨p', rule, hq, rfl, hg⟩
 ·have G1 : w.grownBy w1 (some C.b) := grown_trans (by (repeat (first | with_reducible assumption | with_reducible exact grown_refl _ _ | with_reducible refine grown_drew ?_ | with_reducible refine grown_alloc ?_ _ | (with_reducible refine grown_set ?_ _ (by first | with_reducible exact Or.inr rfl | (left; simp <;> omega) | (left; omega)))))) hg
  have hz1 := hg.size
  simp at hz1
  obtain ⟨c0', c1', c2', f1', f2', hk', _, _, hlt', htl', _⟩ := p1.facts ok
  obtain ⟨lo1, hlo1, row1⟩ := hrow.named
  simp at hlo1
  have HQ := hide hq
  clear hg hrow hq c0 c1 c2 f1 f2 hk
  go_wp2
  go_ret
  refine lpost_ok (hi := w1.heap.size) (s := s) (k' := k2) (l := l) (unhide HQ) (row1.ag (by (repeat (first | with_reducible exact Ag.refl _ _ _ | with_reducible refine Ag.drew ?_ | with_reducible refine Ag.alloc ?_ _ (by first | (simp <;> omega) | omega) | with_reducible refine Ag.set ?_ _ (by first | (left; simp <;> omega) | (left; omega) | (right; simp <;> omega) | (right; omega))))) (by first | omega | (simp <;> omega)) (Nat.le_refl _)) (by first | omega | (simp <;> omega)) ?_ ?_
  ·(repeat (first | with_reducible assumption | with_reducible refine PS.drew ?_ | with_reducible refine PS.alloc ?_ _ | with_reducible refine PS.over ?_ ok _ (by first | (simp <;> omega) | omega) | with_reducible exact PS.set2 (by with_reducible assumption) ok))
  ·(repeat (first | with_reducible assumption | with_reducible exact grown_refl _ _ | with_reducible refine grown_drew ?_ | with_reducible refine grown_alloc ?_ _ | (with_reducible refine grown_set ?_ _ (by first | with_reducible exact Or.inr rfl | (left; simp <;> omega) | (left; omega)))))
 ·exact ⟨rfl, lpost_bad hq (grown_trans (by (repeat (first | with_reducible assumption | with_reducible exact grown_refl _ _ | with_reducible refine grown_drew ?_ | with_reducible refine grown_alloc ?_ _ | (with_reducible refine grown_set ?_ _ (by first | with_reducible exact Or.inr rfl | (left; simp <;> omega) | (left; omega)))))) hg)⟩
theorem run_enter {f : FuncId} {fn : Func} (hf : Tryz.prog.funcs[f]? = some fn) (hname : (fn.name == "runtime.NumGoroutine") = false) (hb : fn.body.isSome = true) (args : Array Value) (w : World) :
 (callFunc f args).run Tryz.prog w = .ok (.enter f args) w := by
 obtain ⟨c, hc⟩ := Option.isSome_iff_exists.1 hb
 have h1 : fn.name ≠ "runtime.NumGoroutine" := by simpa using hname
 simp [callFunc, hf, h1, hc]
theorem en75 : ∀ (args : Array Value) (w : World), (callFunc 77 args).run Tryz.prog w = .ok (.enter 77 args) w := run_enter Tryz.func77 (by kernel_rfl) (by kernel_rfl)
theorem en92 : ∀ (args : Array Value) (w : World), (callFunc 94 args).run Tryz.prog w = .ok (.enter 94 args) w := run_enter Tryz.func94 (by kernel_rfl) (by kernel_rfl)
theorem en103 : ∀ (args : Array Value) (w : World), (callFunc 105 args).run Tryz.prog w = .ok (.enter 105 args) w := run_enter Tryz.func105 (by kernel_rfl) (by kernel_rfl)
theorem en108 : ∀ (args : Array Value) (w : World), (callFunc 110 args).run Tryz.prog w = .ok (.enter 110 args) w := run_enter Tryz.func110 (by kernel_rfl) (by kernel_rfl)
theorem en119 : ∀ (args : Array Value) (w : World), (callFunc 121 args).run Tryz.prog w = .ok (.enter 121 args) w := run_enter Tryz.func121 (by kernel_rfl) (by kernel_rfl)
theorem en120 : ∀ (args : Array Value) (w : World), (callFunc 122 args).run Tryz.prog w = .ok (.enter 122 args) w := run_enter Tryz.func122 (by kernel_rfl) (by kernel_rfl)
end Go.Proofs.YtgckmkiiheaeaaaGreatDoor
