import Derived.Test.YtheknbfbneghgaaGreatDoorParM
import Derived.WalkLawsBesides
set_option maxHeartbeats 800000
set_option maxRecDepth 100000
namespace Go.Proofs.YtheknbfbneghgaaGreatDoor
open Go.RowKit Lx Px
theorem zy (C : Ctx) (ok : C.Ok) (k : Nat) (h : Bool) (w : World) (p : PS w C k h) :
 Calls Tryz.prog 30 #[.pointer (some ⟨C.b, 0, none⟩)] w fun e w' => e = .returned (.agg #[.int .i64 (zp C.ts k).kind, .string ⟨(zp C.ts k).text.toArray⟩, .int .i64 (zp C.ts k).num, .int .i64 (zp C.ts k).pos]) ∧ w.grownBy w' none := by
 obtain ⟨d0, d1, d2, d3⟩ := p.cells ok k p.kl
 have c0 : w.cell? ⟨C.b, 0, none⟩ = some (.slice (some ⟨C.tb, 0, none⟩) C.ts.length C.cap) := zv p.blk 0
 have c1 : w.cell? ⟨C.b, 1, none⟩ = some (.int .i64 k) := zv p.blk 1
 have hk := p.kl
 have hfew := ok.few
 have hcap := ok.le
 have hlt := p.lt
 have htl := blk_lt p.tk
 have P := zm p
 clear p
 go_enter Tryz.func30, Tryz.ntmps30
 go_wp2
 go_region
 all_goals
  go_wp2
  refine bodyPost_ret (v := .agg #[.int .i64 (zp C.ts k).kind, .string ⟨(zp C.ts k).text.toArray⟩, .int .i64 (zp C.ts k).num, .int .i64 (zp C.ts k).pos]) (by simp [results, Tryz.results30, go_sem]) rfl ⟨rfl, ?_⟩
  exact zz (zr (zo _ _) _)
theorem zn {w w' : World} {r : Option Nat} (h : w.grownBy w' none) : w.grownBy w' r := ⟨h.os, h.tape, h.output, h.size, fun i hi _ => h.block i hi zK⟩
theorem PS.quiet {w w' : World} {C : Ctx} {k : Nat} {h : Bool} (p : PS w C k h) (hg : w.grownBy w' none) : PS w' C k h := p.same (hg.block _ p.lt zK) (hg.block _ (blk_lt p.tk) zK)
theorem PS.facts {w : World} {C : Ctx} {k : Nat} {h : Bool} (p : PS w C k h) (ok : C.Ok) : w.cell? ⟨C.b, 0, none⟩ = some (.slice (some ⟨C.tb, 0, none⟩) C.ts.length C.cap) ∧ w.cell? ⟨C.b, 1, none⟩ = some (.int .i64 k) ∧ w.cell? ⟨C.b, 2, none⟩ = some (.bool h) ∧ w.frozen? ⟨C.b, 1, none⟩ = false ∧ w.frozen? ⟨C.b, 2, none⟩ = false ∧ k < C.ts.length ∧ C.ts.length ≤ 100000 ∧ C.ts.length ≤ C.cap ∧ C.b < w.heap.size ∧ C.tb < w.heap.size ∧ C.tb < C.b :=
 ⟨zv p.blk 0, zv p.blk 1, zv p.blk 2, yT p.blk 1, yT p.blk 2, p.kl, ok.few, ok.le, p.lt, blk_lt p.tk, ok.lt⟩
theorem PS.drew {w : World} {C : Ctx} {k : Nat} {h : Bool} (p : PS w C k h) : PS w.drew C k h := ⟨p.blk, p.tk, p.kl⟩
theorem PS.set1 {w : World} {C : Ctx} {k k' : Nat} {h : Bool} {v : Value} (p : PS w C k h) (ok : C.Ok) (hk : k' < C.ts.length) (hv : v = .int .i64 k') : PS (w.setCell ⟨C.b, 1, none⟩ v) C k' h := by
 subst hv
 refine ⟨by rw [setCell_blk p.blk 1 _]; rfl, by rw [Below.heap_setCell _ _ _ _ (by have := ok.lt; show C.tb ≠ C.b; omega)]; exact p.tk, hk⟩
theorem PS.set2 {w : World} {C : Ctx} {k : Nat} {h h' : Bool} (p : PS w C k h) (ok : C.Ok) : PS (w.setCell ⟨C.b, 2, none⟩ (.bool h')) C k h' := by
 refine ⟨by rw [setCell_blk p.blk 2 _]; rfl, by rw [Below.heap_setCell _ _ _ _ (by have := ok.lt; show C.tb ≠ C.b; omega)]; exact p.tk, p.kl⟩
set_option linter.unusedSimpArgs false in
theorem yR (C : Ctx) (ok : C.Ok) (k : Nat) (h : Bool) (w : World) (p : PS w C k h) (hl : (zp C.ts k).kind ≠ 6) :
 Calls Tryz.prog 55 #[.pointer (some ⟨C.b, 0, none⟩)] w fun e w' => e = .returned (.agg #[.int .i64 (zp C.ts k).kind, .string ⟨(zp C.ts k).text.toArray⟩, .int .i64 (zp C.ts k).num, .int .i64 (zp C.ts k).pos]) ∧ PS w' C (k + 1) h ∧ w.grownBy w' (some C.b) := by
 obtain ⟨d0, d1, d2, d3⟩ := p.cells ok k p.kl
 obtain ⟨c0, c1, c2, f1, f2, hk, hfew, hcap, hlt, htl, htb⟩ := p.facts ok
 have hk1 : k + 1 < C.ts.length := ok.last k hk hl
 have hne : ¬ C.b = w.heap.size := om
 have P := zm p
 clear p hl
 go_enter Tryz.func55, Tryz.ntmps55
 go_wp2
 go_region
 all_goals
  go_wp2
  refine bodyPost_ret (v := .agg #[.int .i64 (zp C.ts k).kind, .string ⟨(zp C.ts k).text.toArray⟩, .int .i64 (zp C.ts k).num, .int .i64 (zp C.ts k).pos]) (by simp [results, Tryz.results55, go_sem]) rfl ⟨rfl, ((((zk P).set1 ok hk1 (by go_num)).alloc _).alloc _).drew, ?_⟩
  (repeat (first | with_reducible assumption | with_reducible exact zo _ _ | with_reducible refine zz ?_ | with_reducible refine zr ?_ _ | (with_reducible refine yF ?_ _ zD)))
set_option linter.unusedSimpArgs false in
theorem yc (C : Ctx) (ok : C.Ok) (k : Nat) (h : Bool) (w : World) (p : PS w C k h) :
 Calls Tryz.prog 53 #[.pointer (some ⟨C.b, 0, none⟩)] w fun e w' => e = .returned (.string ⟨(yI C.ts k).toArray⟩) ∧ w.grownBy w' none := by
 have HT := zm (zy C ok k h w p)
 clear p
 by_cases h4 : (zp C.ts k).kind = 4
 ·have HS : Hid (yI C.ts k = (zp C.ts k).text) := by unfold yI; exact if_pos (.inl h4)
  rw [zk HS]
  rw [h4] at HT
  clear h4
  go_enter Tryz.func53, Tryz.ntmps53
  go_wp2_with fail
  refine (zk HT).mono ?_
  rintro e w1 ⟨rfl, hg⟩
  have G := hg
  clear hg
  go_wp2
  go_ret
  refine ⟨rfl, ?_⟩
  (repeat (first | with_reducible assumption | with_reducible exact zo _ _ | with_reducible refine zz ?_ | with_reducible refine zr ?_ _ | (with_reducible refine yF ?_ _ zD)))
 ·by_cases h5 : (zp C.ts k).kind = 5
  ·have HS : Hid (yI C.ts k = (zp C.ts k).text) := by unfold yI; exact if_pos (.inr h5)
   rw [zk HS]
   rw [h5] at HT
   clear h4 h5
   go_enter Tryz.func53, Tryz.ntmps53
   go_wp2_with fail
   refine (zk HT).mono ?_
   rintro e w1 ⟨rfl, hg⟩
   have G := hg
   clear hg
   go_wp2
   go_ret
   refine ⟨rfl, ?_⟩
   (repeat (first | with_reducible assumption | with_reducible exact zo _ _ | with_reducible refine zz ?_ | with_reducible refine zr ?_ _ | (with_reducible refine yF ?_ _ zD)))
  ·have HS : Hid (yI C.ts k = []) := by unfold yI; exact if_neg om
   rw [zk HS]
   have b4 : ((zp C.ts k).kind == 4) = false := by simp [h4]
   have b5 : ((zp C.ts k).kind == 5) = false := by simp [h5]
   go_enter Tryz.func53, Tryz.ntmps53
   go_wp2_with fail
   refine (zk HT).mono ?_
   rintro e w1 ⟨rfl, hg⟩
   have G := hg
   clear hg
   go_wp2
   go_ret
   refine ⟨rfl, ?_⟩
   (repeat (first | with_reducible assumption | with_reducible exact zo _ _ | with_reducible refine zz ?_ | with_reducible refine zr ?_ _ | (with_reducible refine yF ?_ _ zD)))
theorem tokF0 : ∀ (a : Int) (s : ByteArray) (c d : Int) (w : World), (Instr.field 85 (.agg #[.int .i64 a, .string s, .int .i64 c, .int .i64 d]) 0).run Tryz.prog w = .ok (.int .i64 a) w := fun _ _ _ _ _ => by kernel_rfl
theorem tokF1 : ∀ (a : Int) (s : ByteArray) (c d : Int) (w : World), (Instr.field 85 (.agg #[.int .i64 a, .string s, .int .i64 c, .int .i64 d]) 1).run Tryz.prog w = .ok (.string s) w := fun _ _ _ _ _ => by kernel_rfl
theorem tokF3 : ∀ (a : Int) (s : ByteArray) (c d : Int) (w : World), (Instr.field 85 (.agg #[.int .i64 a, .string s, .int .i64 c, .int .i64 d]) 3).run Tryz.prog w = .ok (.int .i64 d) w := fun _ _ _ _ _ => by kernel_rfl
set_option linter.unusedSimpArgs false in
theorem broken_any (C : Ctx) (ok : C.Ok) (k : Nat) (h : Bool) (w : World) (rule : ByteArray) (p : PS w C k h) :
 Calls Tryz.prog 59 #[.pointer (some ⟨C.b, 0, none⟩), .string rule] w fun e w' => e = .returned (.iface 62 (.agg #[.string rule, .iface 42 (.agg #[.int .i64 (zp C.ts k).pos])])) ∧ w.grownBy w' none := by
 have HT := zm (zy C ok k h w p)
 have tf3 := tokF3
 clear p
 go_enter Tryz.func59, Tryz.ntmps59
 go_wp2_with fail
 refine (zk HT).mono ?_
 rintro e w1 ⟨rfl, hg⟩
 have G := hg
 clear hg
 go_wp2
 go_ret
 refine ⟨rfl, ?_⟩
 (repeat (first | with_reducible assumption | with_reducible exact zo _ _ | with_reducible refine zz ?_ | with_reducible refine zr ?_ _ | (with_reducible refine yF ?_ _ zD)))
set_option linter.unusedSimpArgs false in
theorem none_any (w : World) : Calls Tryz.prog 90 #[] w fun e w' => e = .returned (.agg #[.int .i64 8, .string ⟨#[]⟩, .int .i64 0, .int .i64 0, .string ⟨#[]⟩, .int .i64 0, .slice none 0 0]) ∧ w.grownBy w' none := by
 go_enter Tryz.func90, Tryz.ntmps90
 go_wp2
 refine bodyPost_ret (v := .agg #[.int .i64 8, .string ⟨#[]⟩, .int .i64 0, .int .i64 0, .string ⟨#[]⟩, .int .i64 0, .slice none 0 0]) (by simp [results, Tryz.results90, go_sem]) rfl ⟨rfl, ?_⟩
 (repeat (first | with_reducible assumption | with_reducible exact zo _ _ | with_reducible refine zz ?_ | with_reducible refine zr ?_ _ | (with_reducible refine yF ?_ _ zD)))
end Go.Proofs.YtheknbfbneghgaaGreatDoor
