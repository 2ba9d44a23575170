/- The document's example, walked. -/
import Derived.Test.YtinmaogbfcmagaaDoorAc0
import Derived.Test.YtinmaogbfcmagaaDoorMd2
import Derived.Deep.RegionHeld2
namespace Go.Proofs.YtinmaogbfcmagaaDoor
open Go.RowKit Go.Proofs.YtinmaogbfcmagaaDoor.Hp
theorem own_at {w : World} {base n cp : Nat} {ao : Option Addr} {ys : List Nat} (h : w.ownsRow base 3 1 (.slice ao n cp) n (ys.map nv)) : ∀ j, j < n → ∃ b, ao = some ⟨b, 0, none⟩ ∧ base ≤ b ∧ b < w.heap.size ∧ w.cell? ⟨b, j, none⟩ = some (.int .i64 ((ys.getD j 0 : Nat) : Int)) := by
  intro j hj
  obtain ⟨ao', cp', e, hg⟩ := own_form h
  cases e
  obtain ⟨g, rfl⟩ := hg (by omega)
  have hl := h.lt g rfl
  have hn : ys.length = n := by simpa using h.1
  exact ⟨g, rfl, hl.1, hl.2, by rw [h.cellAt j (by omega)]; simp [List.getD, List.getElem?_eq_getElem (show j < ys.length by omega), nv]⟩
/-- The example's heap, and the list of its blocks. -/
structure AcS (w0 w : World) (B : HB) (gl : Nat) (wd : Nat → Int) : Prop where
  at_ : At w B 128 (hrOf acA3 wd)
  vars : Vars w
  far : Fr (fun _ => False) w0 w
  mem : ∀ k, B.mem k → w0.heap.size ≤ k ∧ 2 ≤ k
  ws : AcW wd
  g0 : w.cell? ⟨gl, 0, none⟩ = some (.int .i64 64)
  g1 : w.cell? ⟨gl, 5, none⟩ = some (.int .i64 128)
  lt : gl < w.heap.size
  gn : ¬ B.mem gl
theorem AcS.quiet {w0 w w' : World} {B : HB} {gl : Nat} {wd : Nat → Int} (h : AcS w0 w B gl wd) (k : Fr (fun _ => False) w w') : AcS w0 w' B gl wd :=
  ⟨h.at_.quiet k, h.vars.fr k id id, h.far.trans k, h.mem, h.ws, cell_far k h.lt h.g0, cell_far k h.lt h.g1, Nat.lt_of_lt_of_le h.lt k.size, h.gn⟩
theorem cell_al {w : World} {a : Addr} {u : Value} (o : Obj) (h : w.cell? a = some u) : (w.alloc o).cell? a = some u := (World.cell?_alloc_some w a o (by rw [h]; rfl)).trans h
theorem ac_reached {w0 w : World} {B : HB} {gl : Nat} {wd : Nat → Int} (h : AcS w0 w B gl wd) (g : Nat) (hg : w.cell? ⟨g, 0, none⟩ = some (.int .i64 64)) :
    Calls Tryd.prog 17 #[.pointer (some ⟨B.p, 0, none⟩), .slice (some ⟨g, 0, none⟩) 1 1] w fun e w' => (∃ b cp, e = .returned (.slice (some ⟨b, 0, none⟩) 2 cp) ∧ w'.cell? ⟨b, 0, none⟩ = some (.int .i64 64) ∧ w'.cell? ⟨b, 1, none⟩ = some (.int .i64 128)) ∧ Fr (fun _ => False) w w' := by
  have hgl := World.block_lt_of_cell? w ⟨g, 0, none⟩ hg
  refine (Reached_any w B 128 acA3 wd (some ⟨g, 0, none⟩) 1 [64] h.at_ ac_inv (by decide) (by simp) (fun j hj => ?_)).mono ?_
  · obtain rfl : j = 0 := by simp at hj; omega
    exact ⟨g, 0, rfl, hgl, hg⟩
  · rintro e w' ⟨ys, hy1, hy2, ao, cp, rfl, hO, hF⟩
    have : ys = [64, 128] := sorted_eq _ _ hy1 (by decide) fun x => by
      rw [hy2 x, ac_reach h.ws]
      simp
      omega
    subst this
    obtain ⟨b, hb, _, _, c0⟩ := own_at hO 0 (by decide)
    obtain ⟨b', hb', _, _, c1⟩ := own_at hO 1 (by decide)
    rw [hb] at hb'
    cases hb'
    exact ⟨⟨b, cp, by rw [hb]; rfl, c0, c1⟩, hF⟩
theorem ac_ints (w : World) (b g cp : Nat) (h0 : w.cell? ⟨b, 0, none⟩ = some (.int .i64 64)) (h1 : w.cell? ⟨b, 1, none⟩ = some (.int .i64 128)) (k0 : w.cell? ⟨g, 0, none⟩ = some (.int .i64 64)) (k1 : w.cell? ⟨g, 1, none⟩ = some (.int .i64 128)) :
    Calls Tryd.prog 13 #[.slice (some ⟨b, 0, none⟩) 2 cp, .slice (some ⟨g, 0, none⟩) 2 2] w fun e w' => e = .returned (.bool true) ∧ w' = w := by
  refine ints_any (some ⟨b, 0, none⟩) (some ⟨g, 0, none⟩) 2 cp 2 (fun j => if j = 0 then 64 else 128) w (by decide) (fun j hj => ?_) (fun j hj => ?_)
  · rcases (show j = 0 ∨ j = 1 by omega) with rfl | rfl
    · exact ⟨b, 0, rfl, h0⟩
    · exact ⟨b, 0, rfl, h1⟩
  · rcases (show j = 0 ∨ j = 1 by omega) with rfl | rfl
    · exact ⟨g, 0, rfl, k0⟩
    · exact ⟨g, 0, rfl, k1⟩
theorem ac_collect {w0 w : World} {B : HB} {gl : Nat} {wd : Nat → Int} (h : AcS w0 w B gl wd) (g : Nat) (hg : w.cell? ⟨g, 0, none⟩ = some (.int .i64 64)) :
    Calls Tryd.prog 18 #[.pointer (some ⟨B.p, 0, none⟩), .slice (some ⟨g, 0, none⟩) 1 1] w fun e w' => e = .returned (.int .i64 1) ∧ Fr B.mem w w' ∧ Vars w' := by
  have hgl := World.block_lt_of_cell? w ⟨g, 0, none⟩ hg
  refine (Collect_any w B 128 acA3 wd (some ⟨g, 0, none⟩) 1 [64] h.at_ ac_inv h.vars (fun k hk => (h.mem k hk).2) (by rw [ac_blk]; decide) (by decide) (by simp) (fun j hj => ?_)).mono ?_
  · obtain rfl : j = 0 := by simp at hj; omega
    exact ⟨g, 0, rfl, hgl, hg⟩
  · rintro e w' ⟨rb, A', hrb, rfl, _, _, _, hV, hF⟩
    refine ⟨?_, hF, hV⟩
    have e1 : rb 64 = true := (hrb 64).2 ((ac_reach h.ws _).2 (.inl rfl))
    have e2 : rb 128 = true := (hrb 128).2 ((ac_reach h.ws _).2 (.inr rfl))
    have e3 : rb 130 = false := by
      cases hx : rb 130 with
      | false => rfl
      | true =>
        have := (ac_reach h.ws _).1 ((hrb 130).1 hx)
        omega
    rw [ac_blk]
    unfold notB
    simp [e1, e2, e3]
theorem ac_collect2 {w0 w : World} {B : HB} {gl : Nat} {wd : Nat → Int} (h : AcS w0 w B gl wd) (g : Nat) (hg : w.cell? ⟨g, 0, none⟩ = some (.int .i64 64)) :
    Calls Tryd.prog 18 #[.pointer (some ⟨B.p, 0, none⟩), .slice (some ⟨g, 0, none⟩) 1 1] w fun e w' => e = .returned (.int .i64 1) ∧ w'.cell? ⟨gl, 0, none⟩ = some (.int .i64 64) ∧ w'.cell? ⟨gl, 5, none⟩ = some (.int .i64 128) ∧ Fr (fun _ => False) w0 w' ∧ Vars w' := by
  refine (ac_collect h g hg).mono ?_
  rintro e w' ⟨rfl, hF, hV⟩
  exact ⟨rfl, (World.cell?_of_block (w := w) (a := ⟨gl, 0, none⟩) (hF.block gl h.lt h.gn)).trans h.g0, (World.cell?_of_block (w := w) (a := ⟨gl, 5, none⟩) (hF.block gl h.lt h.gn)).trans h.g1, h.far.up hF (fun k hk => (h.mem k hk).1), hV⟩
theorem ac_start (w : World) : RawsAt ((((w.alloc (Obj.cells #[Value.int IntKind.i64 (-2), Value.int IntKind.i64 7] 3)).alloc (Obj.cells #[Value.int IntKind.i64 (-1)] 3)).alloc (Obj.cells #[Value.int IntKind.i64 (-3)] 3)).alloc (Obj.cells #[Value.int IntKind.i64 2, Value.int IntKind.i64 2, Value.int IntKind.i64 0, Value.slice (some ⟨w.heap.size, 0, none⟩) 2 2, Value.int IntKind.i64 1, Value.int IntKind.i64 1, Value.int IntKind.i64 0, Value.slice (some ⟨w.heap.size + 1, 0, none⟩) 1 1, Value.int IntKind.i64 2, Value.int IntKind.i64 1, Value.int IntKind.i64 0, Value.slice (some ⟨w.heap.size + 1 + 1, 0, none⟩) 1 1] 61)) (some ⟨w.heap.size + 1 + 1 + 1, 0, none⟩) [⟨2, 2, 0, some ⟨w.heap.size, 0, none⟩, 2, [-2, 7]⟩, ⟨1, 1, 0, some ⟨w.heap.size + 1, 0, none⟩, 1, [-1]⟩, ⟨2, 1, 0, some ⟨w.heap.size + 1 + 1, 0, none⟩, 1, [-3]⟩] ∧ Fr (fun _ => False) w ((((w.alloc (Obj.cells #[Value.int IntKind.i64 (-2), Value.int IntKind.i64 7] 3)).alloc (Obj.cells #[Value.int IntKind.i64 (-1)] 3)).alloc (Obj.cells #[Value.int IntKind.i64 (-3)] 3)).alloc (Obj.cells #[Value.int IntKind.i64 2, Value.int IntKind.i64 2, Value.int IntKind.i64 0, Value.slice (some ⟨w.heap.size, 0, none⟩) 2 2, Value.int IntKind.i64 1, Value.int IntKind.i64 1, Value.int IntKind.i64 0, Value.slice (some ⟨w.heap.size + 1, 0, none⟩) 1 1, Value.int IntKind.i64 2, Value.int IntKind.i64 1, Value.int IntKind.i64 0, Value.slice (some ⟨w.heap.size + 1 + 1, 0, none⟩) 1 1] 61)) := by
  obtain ⟨s, hs⟩ : ∃ s, s = w.heap.size := ⟨_, rfl⟩
  rw [← hs]
  have e1 : (w.alloc (Obj.cells #[Value.int IntKind.i64 (-2), Value.int IntKind.i64 7] 3)).heap.size = s + 1 := by simp [hs]
  have c1 : ∀ j, (w.alloc (Obj.cells #[Value.int IntKind.i64 (-2), Value.int IntKind.i64 7] 3)).cell? ⟨s, j, none⟩ = (#[Value.int IntKind.i64 (-2), Value.int IntKind.i64 7] : Array Value)[j]? := fun j => by rw [hs, World.cell?_alloc_at _ _ _ _ rfl]
  have f1 : Fr (fun _ => False) w (w.alloc (Obj.cells #[Value.int IntKind.i64 (-2), Value.int IntKind.i64 7] 3)) := (Fr.refl _ w).alloc _
  generalize w.alloc (Obj.cells #[Value.int IntKind.i64 (-2), Value.int IntKind.i64 7] 3) = w1 at *
  have e2 : (w1.alloc (Obj.cells #[Value.int IntKind.i64 (-1)] 3)).heap.size = s + 1 + 1 := by simp [e1]
  have c2 : (w1.alloc (Obj.cells #[Value.int IntKind.i64 (-1)] 3)).cell? ⟨s + 1, 0, none⟩ = some (.int .i64 (-1)) := by rw [← e1, World.cell?_alloc_at _ _ _ _ rfl]; rfl
  have f2 : Fr (fun _ => False) w1 (w1.alloc (Obj.cells #[Value.int IntKind.i64 (-1)] 3)) := (Fr.refl _ w1).alloc _
  generalize w1.alloc (Obj.cells #[Value.int IntKind.i64 (-1)] 3) = w2 at *
  have e3 : (w2.alloc (Obj.cells #[Value.int IntKind.i64 (-3)] 3)).heap.size = s + 1 + 1 + 1 := by simp [e2]
  have c3 : (w2.alloc (Obj.cells #[Value.int IntKind.i64 (-3)] 3)).cell? ⟨s + 1 + 1, 0, none⟩ = some (.int .i64 (-3)) := by rw [← e2, World.cell?_alloc_at _ _ _ _ rfl]; rfl
  have f3 : Fr (fun _ => False) w2 (w2.alloc (Obj.cells #[Value.int IntKind.i64 (-3)] 3)) := (Fr.refl _ w2).alloc _
  generalize w2.alloc (Obj.cells #[Value.int IntKind.i64 (-3)] 3) = w3 at *
  obtain ⟨Z, hZ⟩ : ∃ Z : Array Value, Z = #[Value.int IntKind.i64 2, Value.int IntKind.i64 2, Value.int IntKind.i64 0, Value.slice (some ⟨s, 0, none⟩) 2 2, Value.int IntKind.i64 1, Value.int IntKind.i64 1, Value.int IntKind.i64 0, Value.slice (some ⟨s + 1, 0, none⟩) 1 1, Value.int IntKind.i64 2, Value.int IntKind.i64 1, Value.int IntKind.i64 0, Value.slice (some ⟨s + 1 + 1, 0, none⟩) 1 1] := ⟨_, rfl⟩
  rw [← hZ]
  have c4 : ∀ j, (w3.alloc (Obj.cells Z 61)).cell? ⟨s + 1 + 1 + 1, j, none⟩ = Z[j]? := fun j => by rw [← e3, World.cell?_alloc_at _ _ _ _ rfl]
  have e4 : (w3.alloc (Obj.cells Z 61)).heap.size = s + 1 + 1 + 1 + 1 := by simp [e3]
  have f4 : Fr (fun _ => False) w3 (w3.alloc (Obj.cells Z 61)) := (Fr.refl _ w3).alloc _
  generalize w3.alloc (Obj.cells Z 61) = w4 at *
  subst hZ
  refine ⟨fun i r hr => ?_, ((f1.trans f2).trans f3).trans f4⟩
  match i, hr with
  | 0, hr =>
    simp at hr; subst hr
    refine ⟨s + 1 + 1 + 1, 0, rfl, by omega, c4 0, c4 1, c4 2, c4 3, by simp, by simp, fun j hj => ⟨s, 0, rfl, by omega, ?_⟩⟩
    rcases (show j = 0 ∨ j = 1 by simp at hj; omega) with rfl | rfl
    · exact cell_far ((f2.trans f3).trans f4) (by omega) (c1 0)
    · exact cell_far ((f2.trans f3).trans f4) (by omega) (c1 1)
  | 1, hr =>
    simp at hr; subst hr
    refine ⟨s + 1 + 1 + 1, 0, rfl, by omega, c4 4, c4 5, c4 6, c4 7, by simp, by simp, fun j hj => ⟨s + 1, 0, rfl, by omega, ?_⟩⟩
    obtain rfl : j = 0 := by simp at hj; omega
    exact cell_far (f3.trans f4) (by omega) c2
  | 2, hr =>
    simp at hr; subst hr
    refine ⟨s + 1 + 1 + 1, 0, rfl, by omega, c4 8, c4 9, c4 10, c4 11, by simp, by simp, fun j hj => ⟨s + 1 + 1, 0, rfl, by omega, ?_⟩⟩
    obtain rfl : j = 0 := by simp at hj; omega
    exact cell_far f4 (by omega) c3
  | n + 3, hr => simp at hr
set_option maxRecDepth 100000 in
set_option maxHeartbeats 4000000 in
theorem anchor_any (w : World) (hV : Vars w) : Calls Tryd.prog 8 #[] w fun e w' => e = .returned (.bool true) ∧ Fr (fun _ => False) w w' ∧ Vars w' := by
  have HV := hide hV
  clear hV
  go_enter Tryd.func8, Tryd.ntmps8
  have HC : Hid (Calls Tryd.prog 12 #[.slice (some ⟨w.heap.size + 1 + 1 + 1, 0, none⟩) 3 3] ((((w.alloc (Obj.cells #[Value.int IntKind.i64 (-2), Value.int IntKind.i64 7] 3)).alloc (Obj.cells #[Value.int IntKind.i64 (-1)] 3)).alloc (Obj.cells #[Value.int IntKind.i64 (-3)] 3)).alloc (Obj.cells #[Value.int IntKind.i64 2, Value.int IntKind.i64 2, Value.int IntKind.i64 0, Value.slice (some ⟨w.heap.size, 0, none⟩) 2 2, Value.int IntKind.i64 1, Value.int IntKind.i64 1, Value.int IntKind.i64 0, Value.slice (some ⟨w.heap.size + 1, 0, none⟩) 1 1, Value.int IntKind.i64 2, Value.int IntKind.i64 1, Value.int IntKind.i64 0, Value.slice (some ⟨w.heap.size + 1 + 1, 0, none⟩) 1 1] 61)) fun e w' => ∃ (B : HB) (pb gl cp : Nat) (wd : Nat → Int), e = .returned (.tuple #[.pointer (some ⟨B.p, 0, none⟩), .pointer (some ⟨pb, 0, none⟩), .slice (some ⟨gl, 0, none⟩) 3 cp]) ∧ AcS w w' B gl wd) := hide (by
    obtain ⟨h1, h2⟩ := ac_start w
    have hv := unhide HV
    have h2s := hv.size
    refine (made_any _ _ 3 [⟨2, 2, 0, some ⟨w.heap.size, 0, none⟩, 2, [-2, 7]⟩, ⟨1, 1, 0, some ⟨w.heap.size + 1, 0, none⟩, 1, [-1]⟩, ⟨2, 1, 0, some ⟨w.heap.size + 1 + 1, 0, none⟩, 1, [-3]⟩] (hv.fr h2 id id) h1 (by simp)).mono ?_
    rintro e w1 ⟨B, pb, base, A, L, lv, l, gl, gw, wd, lo, cp, rfl, hlo, hS, hch, hM⟩
    obtain ⟨rfl, rfl⟩ := ac_all rfl rfl rfl hch
    have e1 := hlo (by simp)
    subst e1
    have k0 := (hM.cells 0 (by simp)).1
    have k1 := (hM.cells 1 (by simp)).1
    have hz := h2.size
    refine ⟨B, pb, gl, cp, wd, rfl, hM.mm.at_, hM.mm.vars, h2.trans hM.mm.far, fun k hk => ?_, ac_words ⟨rfl, rfl, rfl, rfl⟩ ⟨rfl, rfl, rfl⟩ hM.wds, k0, k1, World.block_lt_of_cell? w1 ⟨gl, 0, none⟩ k0, fun hm => by have := (hS.mem _ hm).2; have := hM.gl1; omega⟩
    have := (hS.mem k hk).1
    omega)
  go_wp2_with fail
  refine (unhide HC).mono ?_
  rintro e w1 ⟨B, pb, gl, cp, wd, rfl, hA⟩
  have HA := hide hA
  have s0 := hA.g0
  have s1 := hA.g1
  have hgl := hA.lt
  clear hA HC
  go_wp2
  go_region_held2 (fun w' => w'.cell? ⟨gl, 0, none⟩ = some (.int .i64 64) ∧ w'.cell? ⟨gl, 5, none⟩ = some (.int .i64 128)) (go_keep) (first | (go_at_call 17; refine (ac_reached ((unhide HA).quiet (by (repeat' (first | exact Fr.refl _ _ | refine Fr.alloc ?_ _ | refine Fr.drew ?_)))) _ (by simp)).mono ?_; rintro e w2 ⟨⟨b2, cp2, rfl, r0, r1⟩, hF2⟩; have HA2 := hide (((unhide HA).quiet (by (repeat' (first | exact Fr.refl _ _ | refine Fr.alloc ?_ _ | refine Fr.drew ?_)))).quiet hF2); have t0 := (unhide HA2).g0; have t1 := (unhide HA2).g1; have HFar := hide (fun b i u (hb : World.cell? _ ⟨b, i, none⟩ = some u) => cell_far hF2 (World.block_lt_of_cell? _ ⟨b, i, none⟩ hb) hb); clear hF2) | (go_at_call 13; refine (ac_ints _ _ _ _ (by first | assumption | (refine cell_al _ ?_; assumption) | (simp; done) | exact unhide HFar _ _ _ (by simp)) (by first | assumption | (refine cell_al _ ?_; assumption) | (simp; done) | exact unhide HFar _ _ _ (by simp)) (by first | assumption | (refine cell_al _ ?_; assumption) | (simp; done) | exact unhide HFar _ _ _ (by simp)) (by first | assumption | (refine cell_al _ ?_; assumption) | (simp; done) | exact unhide HFar _ _ _ (by simp))).mono ?_; rintro e w3 ⟨rfl, rfl⟩) | (go_at_call 18; refine (ac_collect2 ((unhide HA2).quiet (by (repeat' (first | exact Fr.refl _ _ | refine Fr.alloc ?_ _ | refine Fr.drew ?_)))) _ (by simp)).mono ?_; rintro e w5 ⟨rfl, u0, u1, hX1, hX2⟩; have HX := hide (And.intro hX1 hX2); clear hX1 hX2))
  all_goals (go_wp2; go_ret; exact ⟨rfl, (unhide HX).1, (unhide HX).2⟩)
end Go.Proofs.YtinmaogbfcmagaaDoor
