/- A space under a slice's calls: what leads from one world to the next; open, has, block. -/
import Derived.Test.YtkclpbbpcicpiaaDoorD0
namespace Go.Proofs.YtkclpbbpcicpiaaDoor
open Go.RowKit Go.Proofs.YtkclpbbpcicpiaaDoor.Hp
variable {w0 w w' w1 w2 : World} {B : HB} {n p : Nat} {A : Nat → Kd} {wd : Nat → Int} {hv hv1 hv2 : Value} {held : List Int} {cnt : Nat}
/-- From a world to a later one of the same space. -/
structure To (B : HB) (p : Nat) (w : World) (hv : Value) (w' : World) (hv' : Value) : Prop where
  fr : Fr (SpK B p hv) w w'
  own : ∀ g, hv'.ownBlock = some g → hv.ownBlock = some g ∨ w.heap.size ≤ g
theorem To.refl (B : HB) (p : Nat) (w : World) (hv : Value) : To B p w hv w hv := ⟨Fr.refl _ _, fun _ h => .inl h⟩
theorem To.trans (h1 : To B p w hv w1 hv1) (h2 : To B p w1 hv1 w2 hv2) : To B p w hv w2 hv2 := by
  have hz := h1.fr.size
  refine ⟨⟨h2.fr.os.trans h1.fr.os, h2.fr.tape.trans h1.fr.tape, h2.fr.output.trans h1.fr.output, Nat.le_trans hz h2.fr.size, fun k hk hn => ?_⟩, fun g hg => ?_⟩
  · rw [h2.fr.block k (by omega) ?_, h1.fr.block k hk hn]
    rintro (h | h | h)
    · exact hn (.inl h)
    · exact hn (.inr (.inl h))
    · rcases h1.own k h with e | e
      · exact hn (.inr (.inr e))
      · omega
  · rcases h2.own g hg with e | e
    · exact h1.own g e
    · exact .inr (by omega)
theorem To.of (h : Fr (SpK B p hv) w w') : To B p w hv w' hv := ⟨h, fun _ h => .inl h⟩
theorem To.quiet (h : Fr (fun _ => False) w w') : To B p w hv w' hv := .of (h.mono fun _ x => x.elim)
theorem Lw.step {A' : Nat → Kd} {wd' : Nat → Int} {held' : List Int} {cnt' : Nat} (h : Lw w0 w B n p A wd hv held cnt) (hs : Sp w' B n p A' wd' hv1 held' cnt') (k : To B p w hv w' hv1) : Lw w0 w' B n p A' wd' hv1 held' cnt' := h.to hs k.fr k.own
/-- A cell that is none of the space's. -/
theorem To.cell (h : To B p w hv w' hv1) {b i : Nat} {u : Value} (hb : b < w.heap.size) (hn : ¬ SpK B p hv b) (hc : w.cell? ⟨b, i, none⟩ = some u) : w'.cell? ⟨b, i, none⟩ = some u :=
  (World.cell?_of_block (w := w) (a := ⟨b, i, none⟩) (h.fr.block b hb hn)).trans hc
theorem To.off (h : To B p w hv w' hv1) {b : Nat} (hb : b < w.heap.size) (hn : ¬ SpK B p hv b) : b < w'.heap.size ∧ ¬ SpK B p hv1 b := by
  refine ⟨Nat.lt_of_lt_of_le hb h.fr.size, ?_⟩
  rintro (k | k | k)
  · exact hn (.inl k)
  · exact hn (.inr (.inl k))
  · rcases h.own b k with e | e
    · exact hn (.inr (.inr e))
    · omega
/-- What a slice's block has. -/
abbrev slV (x0 x1 x2 x3 : Int) : Value := .agg #[.int .i64 x0, .int .i64 x1, .int .i64 x2, .int .i64 x3]
abbrev slO (x0 x1 x2 x3 : Int) : Obj := .cells #[.int .i64 x0, .int .i64 x1, .int .i64 x2, .int .i64 x3] 54
theorem Fr.setNew {K : Nat → Prop} {a w : World} (h : Fr K a w) {q : Addr} (hp : a.heap.size ≤ q.block) (u : Value) : Fr K a (w.setCell q u) :=
  ⟨h.os, h.tape, h.output, by simpa [World.setCell] using h.size, fun k hk hn => (Below.heap_setCell _ _ _ _ (by omega)).trans (h.block k hk hn)⟩
/-- A struct of four numbers in a block of its own. -/
def SlC (W : World) (N : Nat) (x0 x1 x2 x3 : Int) : Prop := Row W N 4 (fun i => .int .i64 (if i = 0 then x0 else if i = 1 then x1 else if i = 2 then x2 else x3))
variable {N : Nat} {x0 x1 x2 x3 : Int}
theorem SlC.new (W : World) (x0 x1 x2 x3 : Int) : SlC (W.alloc (slO x0 x1 x2 x3)) W.heap.size x0 x1 x2 x3 := by
  intro i hi
  refine ⟨?_, World.frozen?_alloc_at _ _ _ _ rfl⟩
  rw [World.cell?_alloc_at _ _ _ _ rfl]
  rcases (show i = 0 ∨ i = 1 ∨ i = 2 ∨ i = 3 by omega) with rfl | rfl | rfl | rfl <;> rfl
theorem SlC.cells (h : SlC w N x0 x1 x2 x3) : (w.cell? ⟨N, 0, none⟩ = some (.int .i64 x0) ∧ w.cell? ⟨N, 1, none⟩ = some (.int .i64 x1) ∧ w.cell? ⟨N, 2, none⟩ = some (.int .i64 x2) ∧ w.cell? ⟨N, 3, none⟩ = some (.int .i64 x3)) ∧ w.frozen? ⟨N, 0, none⟩ = false ∧ w.frozen? ⟨N, 1, none⟩ = false ∧ w.frozen? ⟨N, 2, none⟩ = false ∧ w.frozen? ⟨N, 3, none⟩ = false :=
  ⟨⟨(h 0 (by omega)).1, (h 1 (by omega)).1, (h 2 (by omega)).1, (h 3 (by omega)).1⟩, (h 0 (by omega)).2, (h 1 (by omega)).2, (h 2 (by omega)).2, (h 3 (by omega)).2⟩
theorem SlC.quiet (h : SlC w N x0 x1 x2 x3) (k : Fr (fun _ => False) w w') : SlC w' N x0 x1 x2 x3 := Row.fr h k id
theorem SlC.to (h : SlC w N x0 x1 x2 x3) (k : To B p w hv w' hv1) (hn : ¬ SpK B p hv N) : SlC w' N x0 x1 x2 x3 := Row.fr h k.fr hn
theorem SlC.set0 (h : SlC w N x0 x1 x2 x3) (v : Int) : SlC (w.setCell ⟨N, 0, none⟩ (.int .i64 v)) N v x1 x2 x3 := (Row.set h 0 _ (by omega)).ext fun i hi => by
  rcases (show i = 0 ∨ i = 1 ∨ i = 2 ∨ i = 3 by omega) with rfl | rfl | rfl | rfl <;> rfl
theorem SlC.set1 (h : SlC w N x0 x1 x2 x3) (v : Int) : SlC (w.setCell ⟨N, 1, none⟩ (.int .i64 v)) N x0 v x2 x3 := (Row.set h 1 _ (by omega)).ext fun i hi => by
  rcases (show i = 0 ∨ i = 1 ∨ i = 2 ∨ i = 3 by omega) with rfl | rfl | rfl | rfl <;> rfl
theorem SlC.set2 (h : SlC w N x0 x1 x2 x3) (v : Int) : SlC (w.setCell ⟨N, 2, none⟩ (.int .i64 v)) N x0 x1 v x3 := (Row.set h 2 _ (by omega)).ext fun i hi => by
  rcases (show i = 0 ∨ i = 1 ∨ i = 2 ∨ i = 3 by omega) with rfl | rfl | rfl | rfl <;> rfl
theorem SlC.set3 (h : SlC w N x0 x1 x2 x3) (v : Int) : SlC (w.setCell ⟨N, 3, none⟩ (.int .i64 v)) N x0 x1 x2 v := (Row.set h 3 _ (by omega)).ext fun i hi => by
  rcases (show i = 0 ∨ i = 1 ∨ i = 2 ∨ i = 3 by omega) with rfl | rfl | rfl | rfl <;> rfl
set_option maxHeartbeats 2000000 in
theorem open_any (h : Sp w B n p A wd hv held cnt) (z : Int) :
    Calls Tryd.prog 28 #[.pointer (some ⟨p, 0, none⟩), .int .i64 z] w fun e w' => e = .returned (slV (getI A wd z 0) (getI A wd z 1) (getI A wd z 2) (getI A wd z 3)) ∧ Fr (fun _ => False) w w' := by
  have HG : Hid (∀ k W, Fr (fun _ => False) w W → Calls Tryd.prog 16 #[.pointer (some ⟨p, 0, none⟩), .int .i64 z, .int .i64 k] W fun e w' => e = .returned (.int .i64 (getI A wd z k)) ∧ Fr (fun _ => False) W w') := hide fun k W hF => Get_any (h.quiet hF) z k
  generalize getI A wd z = f at *
  have HA := hide (SlC.new w 0 0 0 0)
  have HF0 := hide ((Fr.refl (fun _ => False) w).alloc (slO 0 0 0 0))
  clear h
  go_enter Tryd.func28, Tryd.ntmps28
  go_wp2_with fail
  refine (unhide HG 0 _ (unhide HF0)).mono ?_
  rintro e w1 ⟨rfl, hF1⟩
  have HC1 := hide ((unhide HA).quiet hF1)
  have HF1 := hide ((unhide HF0).trans hF1)
  have cc := (unhide HC1).cells
  clear hF1 HA HF0
  generalize hN : w.heap.size = N at *
  have HN := hide hN
  clear hN cc
  go_wp2_with fail
  refine (unhide HG 1 _ (unhide HF1)).mono ?_
  rintro e w2 ⟨rfl, hF2⟩
  have HC2 := hide ((unhide HC1).quiet hF2)
  have HF2 := hide ((unhide HF1).trans hF2)
  clear hF2
  go_wp2_with fail
  refine (unhide HG 2 _ (unhide HF2)).mono ?_
  rintro e w3 ⟨rfl, hF3⟩
  have HC3 := hide ((unhide HC2).quiet hF3)
  have HF3 := hide ((unhide HF2).trans hF3)
  clear hF3
  go_wp2_with fail
  refine (unhide HG 3 _ (unhide HF3)).mono ?_
  rintro e w4 ⟨rfl, hF4⟩
  have HC4 := hide ((unhide HC3).quiet hF4)
  have cc := (unhide HC4).cells
  have hle : w.heap.size ≤ N := by rw [unhide HN]; exact Nat.le_refl _
  have HF4 := hide ((((((unhide HF3).trans hF4).setNew (q := ⟨N, 0, none⟩) hle (.int .i64 (f 0))).setNew (q := ⟨N, 1, none⟩) hle (.int .i64 (f 1))).setNew (q := ⟨N, 2, none⟩) hle (.int .i64 (f 2))).setNew (q := ⟨N, 3, none⟩) hle (.int .i64 (f 3)))
  clear hF4 hle
  go_wp2
  exact bodyPost_ret (v := slV (f 0) (f 1) (f 2) (f 3)) (by simp [results, Tryd.results28, go_sem, *]) rfl ⟨rfl, unhide HF4⟩
theorem shas2_any (x0 x1 x2 x3 i : Int) (w : World) :
    Calls Tryd.prog 33 #[slV x0 x1 x2 x3, .int .i64 i] w fun e w' => e = .returned (.bool (decide (0 ≤ i) && decide (i < x2))) ∧ Fr (fun _ => False) w w' := by
  have HF := hide ((Fr.refl (fun _ => False) w).alloc (slO x0 x1 x2 x3))
  by_cases h0 : 0 ≤ i
  · by_cases h1 : i < x2
    · go_enter Tryd.func33, Tryd.ntmps33
      go_wp2
      all_goals go_ret
      all_goals exact ⟨ret_bool (by simp; omega), unhide HF⟩
    · go_enter Tryd.func33, Tryd.ntmps33
      go_wp2
      all_goals go_ret
      all_goals exact ⟨ret_bool (by simp; omega), unhide HF⟩
  · go_enter Tryd.func33, Tryd.ntmps33
    go_wp2
    all_goals go_ret
    all_goals exact ⟨ret_bool (by simp; omega), unhide HF⟩
end Go.Proofs.YtkclpbbpcicpiaaDoor
