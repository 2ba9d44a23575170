import Derived.Test.YtgckmkiiheaeaaaGreatDoorQg
import Derived.Test.YtgckmkiiheaeaaaGreatDoorParW
import Derived.Test.YtgckmkiiheaeaaaGreatDoorParA
import Derived.Test.YtgckmkiiheaeaaaGreatDoorParB
set_option linter.unusedVariables false
set_option linter.unusedSimpArgs false
set_option maxRecDepth 100000
namespace Go.Proofs.YtgckmkiiheaeaaaGreatDoor
open Go.RowKit Lx Px
set_option maxHeartbeats 800000 in
theorem listedT_w (C : Ctx) (ok : C.Ok) (n : Nat) (ih : All C n) : CL C 73 (.listed .wtype) #[.pointer (some ⟨C.b, 0, none⟩), .func (.func 72) #[.pointer (some ⟨C.b, 0, none⟩)] #[]] (n + 1) := by
 intro h k w p hout
 have hr : run C.ts (n + 1) (.listed .wtype) h k = fListed C.ts (run C.ts n) .wtype h k := rfl
 rw [hr] at hout ⊢
 clear hr
 generalize hR : fListed C.ts (run C.ts n) .wtype h k = r0 at hout ⊢
 have hbl := p.lt
 have htb := ok.lt
 have htf0 := tokF0
 have htf1 := tokF1
 have htf3 := tokF3
 have hmf := hmfL
 have G0 := grown_refl w (some C.b)
 have HR := hide hR
 clear hR
 have HO := hide hout
 clear hout
 have hkl := p.kl
 have hfew := ok.few
 by_cases c0 : isS C.ts k [[41]] = true
 ·skip
  go_enter Tryz.func73, Tryz.ntmps73
  go_wp2_with fail
  refine (skip_yes C ok k h _ [41] (by go_wf) c0).mono ?_
  rintro e w1 ⟨rfl, p1, hg⟩
  have hz1 := hg.size
  (try simp at hz1)
  have G1 : w.grownBy w1 (some C.b) := grown_trans (by go_wf) hg
  clear hg
  have ⟨ne1, nf1⟩ : NN C.b w1.heap.size := by omega
  go_wp2
  go_ret
  refine lpost_ok (hi := w1.heap.size) (s := 0) (k' := k + 1) (l := []) (by rw [← unhide HR]; simp only [fListed, ub, eq_true c0]) (RowI.nil _ _ _) (by omega) ?_ ?_
  ·assumption
  ·assumption
 go_enter Tryz.func73, Tryz.ntmps73
 go_wp2_with fail
 refine (skip_no C ok k h _ [41] (by go_wf) (Bool.eq_false_iff.2 c0)).mono ?_
 rintro e w1 ⟨rfl, hgq⟩
 have p1 := PS.quiet (C := C) (k := k) (h := h) (by go_wf) hgq
 have hg := grown_any (r := some C.b) hgq
 clear hgq
 have hz1 := hg.size
 (try simp at hz1)
 have G1 : w.grownBy w1 (some C.b) := grown_trans (by go_wf) hg
 clear hg
 have ⟨ne1, nf1⟩ : NN C.b w1.heap.size := by omega
 go_wp2_with fail
 refine (ih.at.wtype h k _ (by go_wf) (fun hx => unhide HO ((unhide HR).symm.trans (by simp only [fListed, ub, eq_false c0, hx])))).mono ?_
 rintro e w2 hp
 rcases hp with ⟨kd2, tx2, nm2, ps2, kids2, s2, k2, ao2, cp2, hq, rfl, hrow, p2, hg⟩ | ⟨pb, rule, hq, rfl, hg⟩
 rotate_left
 (exact ⟨rfl, lpost_bad (by rw [← unhide HR]; simp only [fListed, ub, eq_false c0, hq]) (grown_trans (by go_wf) hg)⟩)
 have hz2 := hg.size
 (try simp at hz2)
 have G2 : w.grownBy w2 (some C.b) := grown_trans (by go_wf) hg
 clear p1
 obtain ⟨lo2, hlo2, row2⟩ := hrow.named
 (try simp at hlo2)
 have HQ2 := hide hq
 clear hrow hq
 clear hg
 have ⟨ne2, nf2⟩ : NN C.b w2.heap.size := by omega
 have HR0 : Hid (run C.ts n (.listMore .wtype [.mk kd2 tx2 nm2 ps2 kids2]) h k2 = r0) := hide (by rw [← unhide HR]; simp only [fListed, ub, eq_false c0, unhide HQ2])
 have rowx : RowI (w2.alloc (.cells #[.int .i64 kd2, .string ⟨tx2.toArray⟩, .int .i64 nm2, .int .i64 ps2, .string ⟨#[]⟩, .int .i64 0, .slice ao2 kids2.length cp2] 24)) w.heap.size (w2.heap.size + 1) (.slice (some ⟨w2.heap.size, 0, none⟩) 1 1) [.mk kd2 tx2 nm2 ps2 kids2] := rowB (cur := #[.int .i64 kd2, .string ⟨tx2.toArray⟩, .int .i64 nm2, .int .i64 ps2, .string ⟨#[]⟩, .int .i64 0, .slice ao2 kids2.length cp2]) (BL.new rfl) ((Nd.mk (kd := kd2) (tx := tx2) (nm := nm2) (ps := ps2) row2).ag (aw2 aw0 (by simp <;> omega))) rfl (by omega) (by omega) (by omega) (by omega) (.inr (by omega))
 go_wp2
 go_loopg [5] n (fun gk s wr => ∃ (acc : List Tree) (k' : Nat) (ao : Option Addr) (cp : Nat), s = .slice ao acc.length cp ∧ PS wr C k' h ∧ RowI wr w.heap.size wr.heap.size (.slice ao acc.length cp) acc ∧ w.grownBy wr (some C.b) ∧ Hid (run C.ts gk (.listMore .wtype acc) h k' = r0) ∧ gk ≤ n ∧ acc.length ≤ k' + 1)
 case atStart => exact ⟨[.mk kd2 tx2 nm2 ps2 kids2], k2, some ⟨w2.heap.size, 0, none⟩, 1, rfl, (pw2 (by go_wf)), RowI.wide rowx (Nat.le_refl _) (by simp <;> omega), (gw2 (by go_wf)), HR0, Nat.le_refl _, by simp⟩
 case round =>
  skip
  clear HR p2 row2 rowx HQ2
  obtain ⟨acc, k0, ao0, cp0, rfl, p0, row0, Gr, HRr, hle, hacc⟩ := hrel
  obtain ⟨m, rfl⟩ : ∃ m, gk = m + 1 := (by cases gk with | zero => exact absurd (unhide HRr).symm (unhide HO) | succ m => exact ⟨m, rfl⟩)
  have HR : Hid (fListMore C.ts (run C.ts m) .wtype acc h k0 = r0) := unhide HRr
  have hkl0 := p0.kl
  have hzr := Gr.size
  have ihm := ih m (by omega)
  clear HRr p HR0
  have p2 := p0
  clear p0
  by_cases c1 : isS C.ts k0 [[44]] = true
  rotate_left
  ·skip
   go_wp2_with fail
   refine (skip_no C ok k0 h _ [44] (by go_wf) (Bool.eq_false_iff.2 c1)).mono ?_
   rintro e w3 ⟨rfl, hgq⟩
   have p3 := PS.quiet (C := C) (k := k0) (h := h) (by go_wf) hgq
   have hg := grown_any (r := some C.b) hgq
   clear hgq
   have hz3 := hg.size
   (try simp at hz3)
   have G3 : w.grownBy w3 (some C.b) := grown_trans (by go_wf) hg
   replace row0 := RowI.ag row0 (Ag.grown aw0 hg (by omega) (by omega)) (Nat.le_refl _) (Nat.le_refl _)
   clear p2
   clear hg
   have ⟨ne3, nf3⟩ : NN C.b w3.heap.size := by omega
   by_cases c2 : isS C.ts k0 [[41]] = true
   rotate_left
   ·skip
    go_wp2_with fail
    refine (want_no C ok k0 h _ ⟨#[108, 105, 115, 116]⟩ [41] (by go_wf) (Bool.eq_false_iff.2 c2)).mono ?_
    rintro e w4 ⟨rfl, hgq⟩
    exact ⟨rfl, lpost_bad (by rw [← unhide HR]; simp only [fListMore, ub, eq_false c1, eq_false c2]) (grown_trans (by go_wf) (grown_any hgq))⟩
   go_wp2_with fail
   refine (want_yes C ok k0 h _ ⟨#[108, 105, 115, 116]⟩ [41] (by go_wf) c2).mono ?_
   rintro e w4 ⟨rfl, p4, hg⟩
   have hz4 := hg.size
   (try simp at hz4)
   have G4 : w.grownBy w4 (some C.b) := grown_trans (by go_wf) hg
   replace row0 := RowI.ag row0 (Ag.grown aw0 hg (by omega) (by omega)) (Nat.le_refl _) (Nat.le_refl _)
   clear p3
   clear hg
   have ⟨ne4, nf4⟩ : NN C.b w4.heap.size := by omega
   go_wp2
   go_ret
   refine lpost_ok (hi := wr.heap.size) (s := 0) (k' := k0 + 1) (l := acc) (by rw [← unhide HR]; simp only [fListMore, ub, eq_false c1, eq_true c2]) (row0.ag aw0 (by omega) (Nat.le_refl _)) (by omega) ?_ ?_
   ·assumption
   ·assumption
  go_wp2_with fail
  refine (skip_yes C ok k0 h _ [44] (by go_wf) c1).mono ?_
  rintro e w3 ⟨rfl, p3, hg⟩
  have hz3 := hg.size
  (try simp at hz3)
  have G3 : w.grownBy w3 (some C.b) := grown_trans (by go_wf) hg
  replace row0 := RowI.ag row0 (Ag.grown aw0 hg (by omega) (by omega)) (Nat.le_refl _) (Nat.le_refl _)
  clear p2
  clear hg
  have ⟨ne3, nf3⟩ : NN C.b w3.heap.size := by omega
  go_wp2_with fail
  refine (ihm.wtype h (k0 + 1) _ (by go_wf) (fun hx => unhide HO ((unhide HR).symm.trans (by simp only [fListMore, ub, eq_true c1, hx])))).mono ?_
  rintro e w4 hp
  rcases hp with ⟨kd4, tx4, nm4, ps4, kids4, s4, k4, ao4, cp4, hq, rfl, hrow, p4, hg⟩ | ⟨pb, rule, hq, rfl, hg⟩
  rotate_left
  (exact ⟨rfl, lpost_bad (by rw [← unhide HR]; simp only [fListMore, ub, eq_true c1, hq]) (grown_trans (by go_wf) hg)⟩)
  have hz4 := hg.size
  (try simp at hz4)
  have G4 : w.grownBy w4 (some C.b) := grown_trans (by go_wf) hg
  replace row0 := RowI.ag row0 (Ag.grown aw0 hg (by omega) (by omega)) (Nat.le_refl _) (Nat.le_refl _)
  clear p3
  obtain ⟨lo4, hlo4, row4⟩ := hrow.named
  (try simp at hlo4)
  have HQ4 := hide hq
  clear hrow hq
  clear hg
  have ⟨ne4, nf4⟩ : NN C.b w4.heap.size := by omega
  have hmono := run_fine C.ts m .wtype h (k0 + 1) _ s4 k4 (unhide HQ4)
  simp only [st, bnd] at hmono
  have hmon := hmono.1
  clear hmono
  have hkl2 := p4.kl
  go_wp2_with (first | (at_builtin; (refine wpList_app rfl (.tmp 13) (.tmp 16) rfl (lo := w.heap.size) (hi := wr.heap.size) (ao := ao0) (cp := cp0) (l := acc) (t := .mk kd4 tx4 nm4 ps4 kids4) (A := lo4) (B := w4.heap.size) (g0 := w4.heap.size) (cur := #[.int .i64 kd4, .string ⟨tx4.toArray⟩, .int .i64 nm4, .int .i64 ps4, .string ⟨#[]⟩, .int .i64 0, .slice ao4 kids4.length cp4]) (by simp [Act.eval]) (RowI.ag row0 (aw2 aw0 (by omega)) (Nat.le_refl _) (Nat.le_refl _)) (by simp [Act.eval]) (bw0 (by omega)) ((Nd.mk (kd := kd4) (tx := tx4) (nm := nm4) (ps := ps4) row4).ag (aw2 aw0 (by simp <;> omega))) rfl one7 (by omega) (by simp <;> omega) (by simp <;> omega) (by omega) (by simp <;> omega) (by omega) ?_; intro g5 cp5 w5 hrw5 hgA hat5 hgl5; have hob := row0.own; have hz5 := hgA.size; (try simp at hz5); (try simp at hat5); have G5 : w.grownBy w5 (some C.b) := grown_own (gw2 (by go_wf)) hgA (fun x hx => by have := hob x hx; omega); have p5 := PS.own (C := C) (k := k4) (h := h) (pw2 (by go_wf)) ok hgA (fun x hx => by have := hob x hx; omega); clear p4 hgA hob; have ne5 : ¬ C.b = w5.heap.size := (by omega); have nf5 : ¬ w5.heap.size = C.b := (by omega))))
  have row5 := hrw5 w5 (Nat.le_refl _) rfl (Ag.refl _ _ _) (Ag.refl _ _ _)
  clear hrw5
  go_wp2
  go_roundg m
  case measure => omega
  case rel => exact ⟨acc ++ [.mk kd4 tx4 nm4 ps4 kids4], k4, some ⟨g5, 0, none⟩, cp5, by simp, (by go_wf), by simpa using RowI.ag (hi' := w5.heap.size) row5 aw0 (by omega) (by omega), (by go_wf), hide (by rw [← unhide HR]; simp only [fListMore, ub, eq_true c1, unhide HQ4]), by omega, by simp; omega⟩
set_option maxHeartbeats 800000 in
theorem listedE_w (C : Ctx) (ok : C.Ok) (n : Nat) (ih : All C n) : CL C 73 (.listed .expr) #[.pointer (some ⟨C.b, 0, none⟩), .func (.func 94) #[.pointer (some ⟨C.b, 0, none⟩)] #[]] (n + 1) := by
 intro h k w p hout
 have hr : run C.ts (n + 1) (.listed .expr) h k = fListed C.ts (run C.ts n) .expr h k := rfl
 rw [hr] at hout ⊢
 clear hr
 generalize hR : fListed C.ts (run C.ts n) .expr h k = r0 at hout ⊢
 have hbl := p.lt
 have htb := ok.lt
 have htf0 := tokF0
 have htf1 := tokF1
 have htf3 := tokF3
 have hmf := hmfL
 have G0 := grown_refl w (some C.b)
 have HR := hide hR
 clear hR
 have HO := hide hout
 clear hout
 have hkl := p.kl
 have hfew := ok.few
 by_cases c0 : isS C.ts k [[41]] = true
 ·skip
  go_enter Tryz.func73, Tryz.ntmps73
  go_wp2_with fail
  refine (skip_yes C ok k h _ [41] (by go_wf) c0).mono ?_
  rintro e w1 ⟨rfl, p1, hg⟩
  have hz1 := hg.size
  (try simp at hz1)
  have G1 : w.grownBy w1 (some C.b) := grown_trans (by go_wf) hg
  clear hg
  have ⟨ne1, nf1⟩ : NN C.b w1.heap.size := by omega
  go_wp2
  go_ret
  refine lpost_ok (hi := w1.heap.size) (s := 0) (k' := k + 1) (l := []) (by rw [← unhide HR]; simp only [fListed, ub, eq_true c0]) (RowI.nil _ _ _) (by omega) ?_ ?_
  ·assumption
  ·assumption
 go_enter Tryz.func73, Tryz.ntmps73
 go_wp2_with fail
 refine (skip_no C ok k h _ [41] (by go_wf) (Bool.eq_false_iff.2 c0)).mono ?_
 rintro e w1 ⟨rfl, hgq⟩
 have p1 := PS.quiet (C := C) (k := k) (h := h) (by go_wf) hgq
 have hg := grown_any (r := some C.b) hgq
 clear hgq
 have hz1 := hg.size
 (try simp at hz1)
 have G1 : w.grownBy w1 (some C.b) := grown_trans (by go_wf) hg
 clear hg
 have ⟨ne1, nf1⟩ : NN C.b w1.heap.size := by omega
 go_wp2_with fail
 refine (ih.at.expr h k _ (by go_wf) (fun hx => unhide HO ((unhide HR).symm.trans (by simp only [fListed, ub, eq_false c0, hx])))).mono ?_
 rintro e w2 hp
 rcases hp with ⟨kd2, tx2, nm2, ps2, kids2, s2, k2, ao2, cp2, hq, rfl, hrow, p2, hg⟩ | ⟨pb, rule, hq, rfl, hg⟩
 rotate_left
 (exact ⟨rfl, lpost_bad (by rw [← unhide HR]; simp only [fListed, ub, eq_false c0, hq]) (grown_trans (by go_wf) hg)⟩)
 have hz2 := hg.size
 (try simp at hz2)
 have G2 : w.grownBy w2 (some C.b) := grown_trans (by go_wf) hg
 clear p1
 obtain ⟨lo2, hlo2, row2⟩ := hrow.named
 (try simp at hlo2)
 have HQ2 := hide hq
 clear hrow hq
 clear hg
 have ⟨ne2, nf2⟩ : NN C.b w2.heap.size := by omega
 have HR0 : Hid (run C.ts n (.listMore .expr [.mk kd2 tx2 nm2 ps2 kids2]) h k2 = r0) := hide (by rw [← unhide HR]; simp only [fListed, ub, eq_false c0, unhide HQ2])
 have rowx : RowI (w2.alloc (.cells #[.int .i64 kd2, .string ⟨tx2.toArray⟩, .int .i64 nm2, .int .i64 ps2, .string ⟨#[]⟩, .int .i64 0, .slice ao2 kids2.length cp2] 24)) w.heap.size (w2.heap.size + 1) (.slice (some ⟨w2.heap.size, 0, none⟩) 1 1) [.mk kd2 tx2 nm2 ps2 kids2] := rowB (cur := #[.int .i64 kd2, .string ⟨tx2.toArray⟩, .int .i64 nm2, .int .i64 ps2, .string ⟨#[]⟩, .int .i64 0, .slice ao2 kids2.length cp2]) (BL.new rfl) ((Nd.mk (kd := kd2) (tx := tx2) (nm := nm2) (ps := ps2) row2).ag (aw2 aw0 (by simp <;> omega))) rfl (by omega) (by omega) (by omega) (by omega) (.inr (by omega))
 go_wp2
 go_loopg [5] n (fun gk s wr => ∃ (acc : List Tree) (k' : Nat) (ao : Option Addr) (cp : Nat), s = .slice ao acc.length cp ∧ PS wr C k' h ∧ RowI wr w.heap.size wr.heap.size (.slice ao acc.length cp) acc ∧ w.grownBy wr (some C.b) ∧ Hid (run C.ts gk (.listMore .expr acc) h k' = r0) ∧ gk ≤ n ∧ acc.length ≤ k' + 1)
 case atStart => exact ⟨[.mk kd2 tx2 nm2 ps2 kids2], k2, some ⟨w2.heap.size, 0, none⟩, 1, rfl, (pw2 (by go_wf)), RowI.wide rowx (Nat.le_refl _) (by simp <;> omega), (gw2 (by go_wf)), HR0, Nat.le_refl _, by simp⟩
 case round =>
  skip
  clear HR p2 row2 rowx HQ2
  obtain ⟨acc, k0, ao0, cp0, rfl, p0, row0, Gr, HRr, hle, hacc⟩ := hrel
  obtain ⟨m, rfl⟩ : ∃ m, gk = m + 1 := (by cases gk with | zero => exact absurd (unhide HRr).symm (unhide HO) | succ m => exact ⟨m, rfl⟩)
  have HR : Hid (fListMore C.ts (run C.ts m) .expr acc h k0 = r0) := unhide HRr
  have hkl0 := p0.kl
  have hzr := Gr.size
  have ihm := ih m (by omega)
  clear HRr p HR0
  have p2 := p0
  clear p0
  by_cases c1 : isS C.ts k0 [[44]] = true
  rotate_left
  ·skip
   go_wp2_with fail
   refine (skip_no C ok k0 h _ [44] (by go_wf) (Bool.eq_false_iff.2 c1)).mono ?_
   rintro e w3 ⟨rfl, hgq⟩
   have p3 := PS.quiet (C := C) (k := k0) (h := h) (by go_wf) hgq
   have hg := grown_any (r := some C.b) hgq
   clear hgq
   have hz3 := hg.size
   (try simp at hz3)
   have G3 : w.grownBy w3 (some C.b) := grown_trans (by go_wf) hg
   replace row0 := RowI.ag row0 (Ag.grown aw0 hg (by omega) (by omega)) (Nat.le_refl _) (Nat.le_refl _)
   clear p2
   clear hg
   have ⟨ne3, nf3⟩ : NN C.b w3.heap.size := by omega
   by_cases c2 : isS C.ts k0 [[41]] = true
   rotate_left
   ·skip
    go_wp2_with fail
    refine (want_no C ok k0 h _ ⟨#[108, 105, 115, 116]⟩ [41] (by go_wf) (Bool.eq_false_iff.2 c2)).mono ?_
    rintro e w4 ⟨rfl, hgq⟩
    exact ⟨rfl, lpost_bad (by rw [← unhide HR]; simp only [fListMore, ub, eq_false c1, eq_false c2]) (grown_trans (by go_wf) (grown_any hgq))⟩
   go_wp2_with fail
   refine (want_yes C ok k0 h _ ⟨#[108, 105, 115, 116]⟩ [41] (by go_wf) c2).mono ?_
   rintro e w4 ⟨rfl, p4, hg⟩
   have hz4 := hg.size
   (try simp at hz4)
   have G4 : w.grownBy w4 (some C.b) := grown_trans (by go_wf) hg
   replace row0 := RowI.ag row0 (Ag.grown aw0 hg (by omega) (by omega)) (Nat.le_refl _) (Nat.le_refl _)
   clear p3
   clear hg
   have ⟨ne4, nf4⟩ : NN C.b w4.heap.size := by omega
   go_wp2
   go_ret
   refine lpost_ok (hi := wr.heap.size) (s := 0) (k' := k0 + 1) (l := acc) (by rw [← unhide HR]; simp only [fListMore, ub, eq_false c1, eq_true c2]) (row0.ag aw0 (by omega) (Nat.le_refl _)) (by omega) ?_ ?_
   ·assumption
   ·assumption
  go_wp2_with fail
  refine (skip_yes C ok k0 h _ [44] (by go_wf) c1).mono ?_
  rintro e w3 ⟨rfl, p3, hg⟩
  have hz3 := hg.size
  (try simp at hz3)
  have G3 : w.grownBy w3 (some C.b) := grown_trans (by go_wf) hg
  replace row0 := RowI.ag row0 (Ag.grown aw0 hg (by omega) (by omega)) (Nat.le_refl _) (Nat.le_refl _)
  clear p2
  clear hg
  have ⟨ne3, nf3⟩ : NN C.b w3.heap.size := by omega
  go_wp2_with fail
  refine (ihm.expr h (k0 + 1) _ (by go_wf) (fun hx => unhide HO ((unhide HR).symm.trans (by simp only [fListMore, ub, eq_true c1, hx])))).mono ?_
  rintro e w4 hp
  rcases hp with ⟨kd4, tx4, nm4, ps4, kids4, s4, k4, ao4, cp4, hq, rfl, hrow, p4, hg⟩ | ⟨pb, rule, hq, rfl, hg⟩
  rotate_left
  (exact ⟨rfl, lpost_bad (by rw [← unhide HR]; simp only [fListMore, ub, eq_true c1, hq]) (grown_trans (by go_wf) hg)⟩)
  have hz4 := hg.size
  (try simp at hz4)
  have G4 : w.grownBy w4 (some C.b) := grown_trans (by go_wf) hg
  replace row0 := RowI.ag row0 (Ag.grown aw0 hg (by omega) (by omega)) (Nat.le_refl _) (Nat.le_refl _)
  clear p3
  obtain ⟨lo4, hlo4, row4⟩ := hrow.named
  (try simp at hlo4)
  have HQ4 := hide hq
  clear hrow hq
  clear hg
  have ⟨ne4, nf4⟩ : NN C.b w4.heap.size := by omega
  have hmono := run_fine C.ts m .expr h (k0 + 1) _ s4 k4 (unhide HQ4)
  simp only [st, bnd] at hmono
  have hmon := hmono.1
  clear hmono
  have hkl2 := p4.kl
  go_wp2_with (first | (at_builtin; (refine wpList_app rfl (.tmp 13) (.tmp 16) rfl (lo := w.heap.size) (hi := wr.heap.size) (ao := ao0) (cp := cp0) (l := acc) (t := .mk kd4 tx4 nm4 ps4 kids4) (A := lo4) (B := w4.heap.size) (g0 := w4.heap.size) (cur := #[.int .i64 kd4, .string ⟨tx4.toArray⟩, .int .i64 nm4, .int .i64 ps4, .string ⟨#[]⟩, .int .i64 0, .slice ao4 kids4.length cp4]) (by simp [Act.eval]) (RowI.ag row0 (aw2 aw0 (by omega)) (Nat.le_refl _) (Nat.le_refl _)) (by simp [Act.eval]) (bw0 (by omega)) ((Nd.mk (kd := kd4) (tx := tx4) (nm := nm4) (ps := ps4) row4).ag (aw2 aw0 (by simp <;> omega))) rfl one7 (by omega) (by simp <;> omega) (by simp <;> omega) (by omega) (by simp <;> omega) (by omega) ?_; intro g5 cp5 w5 hrw5 hgA hat5 hgl5; have hob := row0.own; have hz5 := hgA.size; (try simp at hz5); (try simp at hat5); have G5 : w.grownBy w5 (some C.b) := grown_own (gw2 (by go_wf)) hgA (fun x hx => by have := hob x hx; omega); have p5 := PS.own (C := C) (k := k4) (h := h) (pw2 (by go_wf)) ok hgA (fun x hx => by have := hob x hx; omega); clear p4 hgA hob; have ne5 : ¬ C.b = w5.heap.size := (by omega); have nf5 : ¬ w5.heap.size = C.b := (by omega))))
  have row5 := hrw5 w5 (Nat.le_refl _) rfl (Ag.refl _ _ _) (Ag.refl _ _ _)
  clear hrw5
  go_wp2
  go_roundg m
  case measure => omega
  case rel => exact ⟨acc ++ [.mk kd4 tx4 nm4 ps4 kids4], k4, some ⟨g5, 0, none⟩, cp5, by simp, (by go_wf), by simpa using RowI.ag (hi' := w5.heap.size) row5 aw0 (by omega) (by omega), (by go_wf), hide (by rw [← unhide HR]; simp only [fListMore, ub, eq_true c1, unhide HQ4]), by omega, by simp; omega⟩
set_option maxHeartbeats 800000 in
theorem clos_w (C : Ctx) (ok : C.Ok) (m bx : Nat) (cm : Con C m) : ∀ (h : Bool) (k : Nat) (w : World), PS w C k h → BL w bx (.cells #[.pointer (some ⟨C.b, 0, none⟩)] 88) → bx ≠ C.b → run C.ts m (.named 7) h k ≠ .out → Calls Tryz.prog 74 #[.pointer (some ⟨bx, 0, none⟩)] w (NPost C w.heap.size (run C.ts m (.named 7) h k) h w) := by
 intro h k w p hbx hbn hout
 generalize hR : run C.ts m (.named 7) h k = r0 at ⊢
 have hbl := p.lt
 have G0 := grown_refl w (some C.b)
 have HR := hide hR
 clear hR
 have hlx := hbx.lt
 have zx := hbx.cell
 go_enter Tryz.func74, Tryz.ntmps74
 go_wp2_with fail
 refine (cm.named 7 h k _ (pw2 (by go_wf)) hout).mono ?_
 rintro e w1 hp
 rcases hp with ⟨kd1, tx1, nm1, ps1, kids1, s1, k1, ao1, cp1, hq, rfl, hrow, p1, hg⟩ | ⟨pb, rule, hq, rfl, hg⟩
 rotate_left
 (exact ⟨rfl, npost_bad (by rw [← unhide HR]; simp only [step, ub, hq]) (grown_trans (gw2 (by go_wf)) hg)⟩)
 have G1 : w.grownBy w1 (some C.b) := grown_trans (gw2 (by go_wf)) hg
 have bl0_1 : BL w1 w.heap.size (nd0) := BL.grown (bw0 (by omega)) hg (by omega)
 have zc0_1 := bl0_1.cell
 have fz0_1 := bl0_1.frozen
 obtain ⟨lo1, hlo1, row1⟩ := hrow.named
 (try simp at hlo1)
 have HQ1 := hide hq
 clear hrow hq
 clear hg
 go_wp2
 refine bodyPost_ret (v := .agg #[.int .i64 kd1, .string ⟨tx1.toArray⟩, .int .i64 nm1, .int .i64 ps1, .string ⟨#[]⟩, .int .i64 0, .slice ao1 kids1.length cp1]) (by simp [results, Tryz.results74, go_sem, *]) rfl (npost_ok (hi := w1.heap.size) (s := s1) (k' := k1) (tx := tx1) (kids := kids1) (by rw [← unhide HR]; simp only [step, ub, unhide HQ1]) (row1.ag (aw7 aw0 (by first | omega | (simp <;> omega))) (by omega) (Nat.le_refl _)) (by simp <;> omega) ?_ ?_)
 ·exact pw7 (by go_wf) ok (by first | omega | (simp <;> omega))
 ·exact gw7 (by go_wf) (by first | omega | (simp <;> omega))
set_option maxHeartbeats 800000 in
theorem listedN_w (C : Ctx) (ok : C.Ok) (n : Nat) (ih : All C n) (bx : Nat) : CLI C 73 (.listed .named) #[.pointer (some ⟨C.b, 0, none⟩), .func (.func 74) #[] #[.pointer (some ⟨bx, 0, none⟩)]] (n + 1) (fun w => BL w bx (.cells #[.pointer (some ⟨C.b, 0, none⟩)] 88) ∧ bx ≠ C.b) := by
 intro h k w p hI hout
 have hr : run C.ts (n + 1) (.listed .named) h k = fListed C.ts (run C.ts n) .named h k := rfl
 rw [hr] at hout ⊢
 clear hr
 generalize hR : fListed C.ts (run C.ts n) .named h k = r0 at hout ⊢
 have hbl := p.lt
 have htb := ok.lt
 have htf0 := tokF0
 have htf1 := tokF1
 have htf3 := tokF3
 have hmf := hmfL
 have G0 := grown_refl w (some C.b)
 have HR := hide hR
 clear hR
 have HO := hide hout
 clear hout
 obtain ⟨hbx, hbn⟩ := hI
 have hlx := hbx.lt
 have hkl := p.kl
 have hfew := ok.few
 by_cases c0 : isS C.ts k [[41]] = true
 ·skip
  go_enter Tryz.func73, Tryz.ntmps73
  go_wp2_with fail
  refine (skip_yes C ok k h _ [41] (by go_wf) c0).mono ?_
  rintro e w1 ⟨rfl, p1, hg⟩
  have hz1 := hg.size
  (try simp at hz1)
  have G1 : w.grownBy w1 (some C.b) := grown_trans (by go_wf) hg
  have bl0_1 : BL w1 bx (.cells #[.pointer (some ⟨C.b, 0, none⟩)] 88) := BL.grown (by go_wf) hg (by omega)
  have hl0_1 := bl0_1.lt
  clear hg
  have ⟨⟨ne1, nf1⟩, ⟨ne2, nf2⟩, ⟨ne3, nf3⟩⟩ : NN C.b bx ∧ NN C.b w1.heap.size ∧ NN bx w1.heap.size := by omega
  go_wp2
  go_ret
  refine lpost_ok (hi := w1.heap.size) (s := 0) (k' := k + 1) (l := []) (by rw [← unhide HR]; simp only [fListed, ub, eq_true c0]) (RowI.nil _ _ _) (by omega) ?_ ?_
  ·assumption
  ·assumption
 go_enter Tryz.func73, Tryz.ntmps73
 go_wp2_with fail
 refine (skip_no C ok k h _ [41] (by go_wf) (Bool.eq_false_iff.2 c0)).mono ?_
 rintro e w1 ⟨rfl, hgq⟩
 have p1 := PS.quiet (C := C) (k := k) (h := h) (by go_wf) hgq
 have hg := grown_any (r := some C.b) hgq
 clear hgq
 have hz1 := hg.size
 (try simp at hz1)
 have G1 : w.grownBy w1 (some C.b) := grown_trans (by go_wf) hg
 have bl0_1 : BL w1 bx (.cells #[.pointer (some ⟨C.b, 0, none⟩)] 88) := BL.grown (by go_wf) hg (by omega)
 have hl0_1 := bl0_1.lt
 clear hg
 have ⟨⟨ne1, nf1⟩, ⟨ne2, nf2⟩, ⟨ne3, nf3⟩⟩ : NN C.b bx ∧ NN C.b w1.heap.size ∧ NN bx w1.heap.size := by omega
 go_wp2_with fail
 refine (clos_w C ok _ bx ih.at h k _ (by go_wf) (by go_wf) hbn (fun hx => unhide HO ((unhide HR).symm.trans (by simp only [fListed, ub, eq_false c0, hx])))).mono ?_
 rintro e w2 hp
 rcases hp with ⟨kd2, tx2, nm2, ps2, kids2, s2, k2, ao2, cp2, hq, rfl, hrow, p2, hg⟩ | ⟨pb, rule, hq, rfl, hg⟩
 rotate_left
 (exact ⟨rfl, lpost_bad (by rw [← unhide HR]; simp only [fListed, ub, eq_false c0, hq]) (grown_trans (by go_wf) hg)⟩)
 have hz2 := hg.size
 (try simp at hz2)
 have G2 : w.grownBy w2 (some C.b) := grown_trans (by go_wf) hg
 have bl0_2 : BL w2 bx (.cells #[.pointer (some ⟨C.b, 0, none⟩)] 88) := BL.grown (by go_wf) hg (by omega)
 have hl0_2 := bl0_2.lt
 clear bl0_1
 clear p1
 obtain ⟨lo2, hlo2, row2⟩ := hrow.named
 (try simp at hlo2)
 have HQ2 := hide hq
 clear hrow hq
 clear hg
 have ⟨⟨ne4, nf4⟩, ⟨ne5, nf5⟩⟩ : NN C.b w2.heap.size ∧ NN bx w2.heap.size := by omega
 have HR0 : Hid (run C.ts n (.listMore .named [.mk kd2 tx2 nm2 ps2 kids2]) h k2 = r0) := hide (by rw [← unhide HR]; simp only [fListed, ub, eq_false c0, unhide HQ2])
 have rowx : RowI (w2.alloc (.cells #[.int .i64 kd2, .string ⟨tx2.toArray⟩, .int .i64 nm2, .int .i64 ps2, .string ⟨#[]⟩, .int .i64 0, .slice ao2 kids2.length cp2] 24)) w.heap.size (w2.heap.size + 1) (.slice (some ⟨w2.heap.size, 0, none⟩) 1 1) [.mk kd2 tx2 nm2 ps2 kids2] := rowB (cur := #[.int .i64 kd2, .string ⟨tx2.toArray⟩, .int .i64 nm2, .int .i64 ps2, .string ⟨#[]⟩, .int .i64 0, .slice ao2 kids2.length cp2]) (BL.new rfl) ((Nd.mk (kd := kd2) (tx := tx2) (nm := nm2) (ps := ps2) row2).ag (aw2 aw0 (by simp <;> omega))) rfl (by omega) (by omega) (by omega) (by omega) (.inr (by omega))
 go_wp2
 go_loopg [5] n (fun gk s wr => ∃ (acc : List Tree) (k' : Nat) (ao : Option Addr) (cp : Nat), s = .slice ao acc.length cp ∧ PS wr C k' h ∧ RowI wr w.heap.size wr.heap.size (.slice ao acc.length cp) acc ∧ w.grownBy wr (some C.b) ∧ Hid (run C.ts gk (.listMore .named acc) h k' = r0) ∧ gk ≤ n ∧ acc.length ≤ k' + 1 ∧ BL wr bx (.cells #[.pointer (some ⟨C.b, 0, none⟩)] 88))
 case atStart => exact ⟨[.mk kd2 tx2 nm2 ps2 kids2], k2, some ⟨w2.heap.size, 0, none⟩, 1, rfl, (pw2 (by go_wf)), RowI.wide rowx (Nat.le_refl _) (by simp <;> omega), (gw2 (by go_wf)), HR0, Nat.le_refl _, by simp, (bw2 (by go_wf))⟩
 case round =>
  clear bl0_2
  clear HR p2 row2 rowx HQ2
  obtain ⟨acc, k0, ao0, cp0, rfl, p0, row0, Gr, HRr, hle, hacc, bxr⟩ := hrel
  obtain ⟨m, rfl⟩ : ∃ m, gk = m + 1 := (by cases gk with | zero => exact absurd (unhide HRr).symm (unhide HO) | succ m => exact ⟨m, rfl⟩)
  have HR : Hid (fListMore C.ts (run C.ts m) .named acc h k0 = r0) := unhide HRr
  have hkl0 := p0.kl
  have hzr := Gr.size
  have ihm := ih m (by omega)
  clear HRr p HR0
  have hlxr := bxr.lt
  have p2 := p0
  clear p0
  by_cases c1 : isS C.ts k0 [[44]] = true
  rotate_left
  ·skip
   go_wp2_with fail
   refine (skip_no C ok k0 h _ [44] (by go_wf) (Bool.eq_false_iff.2 c1)).mono ?_
   rintro e w3 ⟨rfl, hgq⟩
   have p3 := PS.quiet (C := C) (k := k0) (h := h) (by go_wf) hgq
   have hg := grown_any (r := some C.b) hgq
   clear hgq
   have hz3 := hg.size
   (try simp at hz3)
   have G3 : w.grownBy w3 (some C.b) := grown_trans (by go_wf) hg
   replace row0 := RowI.ag row0 (Ag.grown aw0 hg (by omega) (by omega)) (Nat.le_refl _) (Nat.le_refl _)
   have bl0_3 : BL w3 bx (.cells #[.pointer (some ⟨C.b, 0, none⟩)] 88) := BL.grown (by go_wf) hg (by omega)
   have hl0_3 := bl0_3.lt
   clear p2
   clear hg
   have ⟨⟨ne6, nf6⟩, ⟨ne7, nf7⟩⟩ : NN C.b w3.heap.size ∧ NN bx w3.heap.size := by omega
   by_cases c2 : isS C.ts k0 [[41]] = true
   rotate_left
   ·skip
    go_wp2_with fail
    refine (want_no C ok k0 h _ ⟨#[108, 105, 115, 116]⟩ [41] (by go_wf) (Bool.eq_false_iff.2 c2)).mono ?_
    rintro e w4 ⟨rfl, hgq⟩
    exact ⟨rfl, lpost_bad (by rw [← unhide HR]; simp only [fListMore, ub, eq_false c1, eq_false c2]) (grown_trans (by go_wf) (grown_any hgq))⟩
   go_wp2_with fail
   refine (want_yes C ok k0 h _ ⟨#[108, 105, 115, 116]⟩ [41] (by go_wf) c2).mono ?_
   rintro e w4 ⟨rfl, p4, hg⟩
   have hz4 := hg.size
   (try simp at hz4)
   have G4 : w.grownBy w4 (some C.b) := grown_trans (by go_wf) hg
   replace row0 := RowI.ag row0 (Ag.grown aw0 hg (by omega) (by omega)) (Nat.le_refl _) (Nat.le_refl _)
   have bl0_4 : BL w4 bx (.cells #[.pointer (some ⟨C.b, 0, none⟩)] 88) := BL.grown (by go_wf) hg (by omega)
   have hl0_4 := bl0_4.lt
   clear bl0_3
   clear p3
   clear hg
   have ⟨⟨ne8, nf8⟩, ⟨ne9, nf9⟩⟩ : NN C.b w4.heap.size ∧ NN bx w4.heap.size := by omega
   go_wp2
   go_ret
   refine lpost_ok (hi := wr.heap.size) (s := 0) (k' := k0 + 1) (l := acc) (by rw [← unhide HR]; simp only [fListMore, ub, eq_false c1, eq_true c2]) (row0.ag aw0 (by omega) (Nat.le_refl _)) (by omega) ?_ ?_
   ·assumption
   ·assumption
  go_wp2_with fail
  refine (skip_yes C ok k0 h _ [44] (by go_wf) c1).mono ?_
  rintro e w3 ⟨rfl, p3, hg⟩
  have hz3 := hg.size
  (try simp at hz3)
  have G3 : w.grownBy w3 (some C.b) := grown_trans (by go_wf) hg
  replace row0 := RowI.ag row0 (Ag.grown aw0 hg (by omega) (by omega)) (Nat.le_refl _) (Nat.le_refl _)
  have bl0_3 : BL w3 bx (.cells #[.pointer (some ⟨C.b, 0, none⟩)] 88) := BL.grown (by go_wf) hg (by omega)
  have hl0_3 := bl0_3.lt
  clear p2
  clear hg
  have ⟨⟨ne6, nf6⟩, ⟨ne7, nf7⟩⟩ : NN C.b w3.heap.size ∧ NN bx w3.heap.size := by omega
  go_wp2_with fail
  refine (clos_w C ok _ bx ihm h (k0 + 1) _ (by go_wf) (by go_wf) hbn (fun hx => unhide HO ((unhide HR).symm.trans (by simp only [fListMore, ub, eq_true c1, hx])))).mono ?_
  rintro e w4 hp
  rcases hp with ⟨kd4, tx4, nm4, ps4, kids4, s4, k4, ao4, cp4, hq, rfl, hrow, p4, hg⟩ | ⟨pb, rule, hq, rfl, hg⟩
  rotate_left
  (exact ⟨rfl, lpost_bad (by rw [← unhide HR]; simp only [fListMore, ub, eq_true c1, hq]) (grown_trans (by go_wf) hg)⟩)
  have hz4 := hg.size
  (try simp at hz4)
  have G4 : w.grownBy w4 (some C.b) := grown_trans (by go_wf) hg
  replace row0 := RowI.ag row0 (Ag.grown aw0 hg (by omega) (by omega)) (Nat.le_refl _) (Nat.le_refl _)
  have bl0_4 : BL w4 bx (.cells #[.pointer (some ⟨C.b, 0, none⟩)] 88) := BL.grown (by go_wf) hg (by omega)
  have hl0_4 := bl0_4.lt
  clear bl0_3
  clear p3
  obtain ⟨lo4, hlo4, row4⟩ := hrow.named
  (try simp at hlo4)
  have HQ4 := hide hq
  clear hrow hq
  clear hg
  have ⟨⟨ne8, nf8⟩, ⟨ne9, nf9⟩⟩ : NN C.b w4.heap.size ∧ NN bx w4.heap.size := by omega
  have hmono := run_fine C.ts m (.named 7) h (k0 + 1) _ s4 k4 (unhide HQ4)
  simp only [st, bnd] at hmono
  have hmon := hmono.1
  clear hmono
  have hkl2 := p4.kl
  go_wp2_with (first | (at_builtin; (refine wpList_app rfl (.tmp 13) (.tmp 16) rfl (lo := w.heap.size) (hi := wr.heap.size) (ao := ao0) (cp := cp0) (l := acc) (t := .mk kd4 tx4 nm4 ps4 kids4) (A := lo4) (B := w4.heap.size) (g0 := w4.heap.size) (cur := #[.int .i64 kd4, .string ⟨tx4.toArray⟩, .int .i64 nm4, .int .i64 ps4, .string ⟨#[]⟩, .int .i64 0, .slice ao4 kids4.length cp4]) (by simp [Act.eval]) (RowI.ag row0 (aw2 aw0 (by omega)) (Nat.le_refl _) (Nat.le_refl _)) (by simp [Act.eval]) (bw0 (by omega)) ((Nd.mk (kd := kd4) (tx := tx4) (nm := nm4) (ps := ps4) row4).ag (aw2 aw0 (by simp <;> omega))) rfl one7 (by omega) (by simp <;> omega) (by simp <;> omega) (by omega) (by simp <;> omega) (by omega) ?_; intro g5 cp5 w5 hrw5 hgA hat5 hgl5; have hob := row0.own; have hz5 := hgA.size; (try simp at hz5); (try simp at hat5); have G5 : w.grownBy w5 (some C.b) := grown_own (gw2 (by go_wf)) hgA (fun x hx => by have := hob x hx; omega); have p5 := PS.own (C := C) (k := k4) (h := h) (pw2 (by go_wf)) ok hgA (fun x hx => by have := hob x hx; omega); have bl0_5 : BL w5 bx (.cells #[.pointer (some ⟨C.b, 0, none⟩)] 88) := BL.own (bw2 (by go_wf)) hgA (fun e => by have := hob _ e.symm; omega); have hl0_5 := bl0_5.lt; have zc0_5 := bl0_5.cell; have fz0_5 := bl0_5.frozen; clear bl0_4; clear p4 hgA hob; have ne10 : ¬ C.b = w5.heap.size := (by omega); have nf10 : ¬ w5.heap.size = C.b := (by omega); have ne11 : ¬ bx = w5.heap.size := (by omega); have nf11 : ¬ w5.heap.size = bx := (by omega))))
  have row5 := hrw5 w5 (Nat.le_refl _) rfl (Ag.refl _ _ _) (Ag.refl _ _ _)
  clear hrw5
  go_wp2
  go_roundg m
  case measure => omega
  case rel => exact ⟨acc ++ [.mk kd4 tx4 nm4 ps4 kids4], k4, some ⟨g5, 0, none⟩, cp5, by simp, (by go_wf), by simpa using RowI.ag (hi' := w5.heap.size) row5 aw0 (by omega) (by omega), (by go_wf), hide (by rw [← unhide HR]; simp only [fListMore, ub, eq_true c1, unhide HQ4]), by omega, by simp; omega, (by go_wf)⟩
open Go.RowKit Lx Px
set_option maxHeartbeats 800000 in
theorem clausesF_w (C : Ctx) (ok : C.Ok) (n : Nat) (ih : All C n) : CL C 106 (.clauses false) #[.pointer (some ⟨C.b, 0, none⟩), .func (.func 107) #[.pointer (some ⟨C.b, 0, none⟩)] #[]] (n + 1) := by
 intro h k w p hout
 have hr : run C.ts (n + 1) (.clauses false) h k = fClauses C.ts (run C.ts n) false h k := rfl
 rw [hr] at hout ⊢
 clear hr
 generalize hR : fClauses C.ts (run C.ts n) false h k = r0 at hout ⊢
 have hbl := p.lt
 have htb := ok.lt
 have htf0 := tokF0
 have htf1 := tokF1
 have htf3 := tokF3
 have hmf := hmfL
 have G0 := grown_refl w (some C.b)
 have HR := hide hR
 clear hR
 have HO := hide hout
 clear hout
 have hkl := p.kl
 have hfew := ok.few
 go_enter Tryz.func106, Tryz.ntmps106
 by_cases c0 : isS C.ts k [[123]] = true
 rotate_left
 ·skip
  go_wp2_with fail
  refine (want_no C ok k h _ ⟨#[99, 108, 97, 117, 115, 101, 115]⟩ [123] (by go_wf) (Bool.eq_false_iff.2 c0)).mono ?_
  rintro e w1 ⟨rfl, hgq⟩
  exact ⟨rfl, lpost_bad (by rw [← unhide HR]; simp only [fClauses, ub, eq_false c0]) (grown_trans (by go_wf) (grown_any hgq))⟩
 go_wp2_with fail
 refine (want_yes C ok k h _ ⟨#[99, 108, 97, 117, 115, 101, 115]⟩ [123] (by go_wf) c0).mono ?_
 rintro e w1 ⟨rfl, p1, hg⟩
 have hz1 := hg.size
 (try simp at hz1)
 have G1 : w.grownBy w1 (some C.b) := grown_trans (by go_wf) hg
 clear hg
 have ⟨ne1, nf1⟩ : NN C.b w1.heap.size := by omega
 have HR0 : Hid (run C.ts n (.clausesMore false []) h (k + 1) = r0) := hide (by rw [← unhide HR]; simp only [fClauses, ub, eq_true c0])
 go_wp2
 go_loopg [5] n (fun gk s wr => ∃ (acc : List Tree) (k' : Nat) (ao : Option Addr) (cp : Nat), s = .slice ao acc.length cp ∧ PS wr C k' h ∧ RowI wr w.heap.size wr.heap.size (.slice ao acc.length cp) acc ∧ w.grownBy wr (some C.b) ∧ Hid (run C.ts gk (.clausesMore false acc) h k' = r0) ∧ gk ≤ n ∧ acc.length ≤ k')
 case atStart => exact ⟨[], k + 1, none, 0, rfl, (by go_wf), RowI.nil _ _ _, (by go_wf), HR0, Nat.le_refl _, Nat.zero_le _⟩
 case round =>
  clear HR p1
  obtain ⟨acc, k0, ao0, cp0, rfl, p0, row0, Gr, HRr, hle, hacc⟩ := hrel
  obtain ⟨m, rfl⟩ : ∃ m, gk = m + 1 := (by cases gk with | zero => exact absurd (unhide HRr).symm (unhide HO) | succ m => exact ⟨m, rfl⟩)
  have HR : Hid (fClausesMore C.ts (run C.ts m) false acc h k0 = r0) := unhide HRr
  have hkl0 := p0.kl
  have hzr := Gr.size
  have ihm := ih m (by omega)
  clear HRr p HR0
  have p1 := p0
  clear p0
  by_cases c1 : isS C.ts k0 [[125]] = true
  ·skip
   go_wp2_with fail
   refine (skip_yes C ok k0 h _ [125] (by go_wf) c1).mono ?_
   rintro e w2 ⟨rfl, p2, hg⟩
   have hz2 := hg.size
   (try simp at hz2)
   have G2 : w.grownBy w2 (some C.b) := grown_trans (by go_wf) hg
   replace row0 := RowI.ag row0 (Ag.grown aw0 hg (by omega) (by omega)) (Nat.le_refl _) (Nat.le_refl _)
   clear p1
   clear hg
   have ⟨ne2, nf2⟩ : NN C.b w2.heap.size := by omega
   go_wp2
   go_ret
   refine lpost_ok (hi := wr.heap.size) (s := 0) (k' := k0 + 1) (l := acc) (by rw [← unhide HR]; simp only [fClausesMore, Bool.false_eq_true, ub, eq_true c1]) (row0.ag aw0 (by omega) (Nat.le_refl _)) (by omega) ?_ ?_
   ·assumption
   ·assumption
  go_wp2_with fail
  refine (skip_no C ok k0 h _ [125] (by go_wf) (Bool.eq_false_iff.2 c1)).mono ?_
  rintro e w2 ⟨rfl, hgq⟩
  have p2 := PS.quiet (C := C) (k := k0) (h := h) (by go_wf) hgq
  have hg := grown_any (r := some C.b) hgq
  clear hgq
  have hz2 := hg.size
  (try simp at hz2)
  have G2 : w.grownBy w2 (some C.b) := grown_trans (by go_wf) hg
  replace row0 := RowI.ag row0 (Ag.grown aw0 hg (by omega) (by omega)) (Nat.le_refl _) (Nat.le_refl _)
  clear p1
  clear hg
  have ⟨ne2, nf2⟩ : NN C.b w2.heap.size := by omega
  go_wp2_with fail
  refine (ihm.clause h k0 _ (by go_wf) (fun hx => unhide HO ((unhide HR).symm.trans (by simp only [fClausesMore, Bool.false_eq_true, ub, eq_false c1, hx])))).mono ?_
  rintro e w3 hp
  rcases hp with ⟨kd3, tx3, nm3, ps3, kids3, s3, k3, ao3, cp3, hq, rfl, hrow, p3, hg⟩ | ⟨pb, rule, hq, rfl, hg⟩
  rotate_left
  (exact ⟨rfl, lpost_bad (by rw [← unhide HR]; simp only [fClausesMore, Bool.false_eq_true, ub, eq_false c1, hq]) (grown_trans (by go_wf) hg)⟩)
  have hz3 := hg.size
  (try simp at hz3)
  have G3 : w.grownBy w3 (some C.b) := grown_trans (by go_wf) hg
  replace row0 := RowI.ag row0 (Ag.grown aw0 hg (by omega) (by omega)) (Nat.le_refl _) (Nat.le_refl _)
  clear p2
  obtain ⟨lo3, hlo3, row3⟩ := hrow.named
  (try simp at hlo3)
  have HQ3 := hide hq
  clear hrow hq
  clear hg
  have ⟨ne3, nf3⟩ : NN C.b w3.heap.size := by omega
  have hmono := run_fine C.ts m .clause h k0 _ s3 k3 (unhide HQ3)
  simp only [st, bnd] at hmono
  have hmon := hmono.1
  clear hmono
  have hkl2 := p3.kl
  go_wp2_with (first | (at_builtin; (refine wpList_app rfl (.tmp 11) (.tmp 14) rfl (lo := w.heap.size) (hi := wr.heap.size) (ao := ao0) (cp := cp0) (l := acc) (t := .mk kd3 tx3 nm3 ps3 kids3) (A := lo3) (B := w3.heap.size) (g0 := w3.heap.size) (cur := #[.int .i64 kd3, .string ⟨tx3.toArray⟩, .int .i64 nm3, .int .i64 ps3, .string ⟨#[]⟩, .int .i64 0, .slice ao3 kids3.length cp3]) (by simp [Act.eval]) (RowI.ag row0 (aw2 aw0 (by omega)) (Nat.le_refl _) (Nat.le_refl _)) (by simp [Act.eval]) (bw0 (by omega)) ((Nd.mk (kd := kd3) (tx := tx3) (nm := nm3) (ps := ps3) row3).ag (aw2 aw0 (by simp <;> omega))) rfl one7 (by omega) (by simp <;> omega) (by simp <;> omega) (by omega) (by simp <;> omega) (by omega) ?_; intro g4 cp4 w4 hrw4 hgA hat4 hgl4; have hob := row0.own; have hz4 := hgA.size; (try simp at hz4); (try simp at hat4); have G4 : w.grownBy w4 (some C.b) := grown_own (gw2 (by go_wf)) hgA (fun x hx => by have := hob x hx; omega); have p4 := PS.own (C := C) (k := k3) (h := h) (pw2 (by go_wf)) ok hgA (fun x hx => by have := hob x hx; omega); clear p3 hgA hob; have ne4 : ¬ C.b = w4.heap.size := (by omega); have nf4 : ¬ w4.heap.size = C.b := (by omega))))
  have row4 := hrw4 w4 (Nat.le_refl _) rfl (Ag.refl _ _ _) (Ag.refl _ _ _)
  clear hrw4
  go_wp2
  go_roundg m
  case measure => omega
  case rel => exact ⟨acc ++ [.mk kd3 tx3 nm3 ps3 kids3], k3, some ⟨g4, 0, none⟩, cp4, by simp, (by go_wf), by simpa using RowI.ag (hi' := w4.heap.size) row4 aw0 (by omega) (by omega), (by go_wf), hide (by rw [← unhide HR]; simp only [fClausesMore, Bool.false_eq_true, ub, eq_false c1, unhide HQ3]), by omega, by simp; omega⟩
set_option maxHeartbeats 800000 in
theorem clausesT_w (C : Ctx) (ok : C.Ok) (n : Nat) (ih : All C n) : CL C 106 (.clauses true) #[.pointer (some ⟨C.b, 0, none⟩), .func (.func 108) #[.pointer (some ⟨C.b, 0, none⟩)] #[]] (n + 1) := by
 intro h k w p hout
 have hr : run C.ts (n + 1) (.clauses true) h k = fClauses C.ts (run C.ts n) true h k := rfl
 rw [hr] at hout ⊢
 clear hr
 generalize hR : fClauses C.ts (run C.ts n) true h k = r0 at hout ⊢
 have hbl := p.lt
 have htb := ok.lt
 have htf0 := tokF0
 have htf1 := tokF1
 have htf3 := tokF3
 have hmf := hmfL
 have G0 := grown_refl w (some C.b)
 have HR := hide hR
 clear hR
 have HO := hide hout
 clear hout
 have hkl := p.kl
 have hfew := ok.few
 go_enter Tryz.func106, Tryz.ntmps106
 by_cases c0 : isS C.ts k [[123]] = true
 rotate_left
 ·skip
  go_wp2_with fail
  refine (want_no C ok k h _ ⟨#[99, 108, 97, 117, 115, 101, 115]⟩ [123] (by go_wf) (Bool.eq_false_iff.2 c0)).mono ?_
  rintro e w1 ⟨rfl, hgq⟩
  exact ⟨rfl, lpost_bad (by rw [← unhide HR]; simp only [fClauses, ub, eq_false c0]) (grown_trans (by go_wf) (grown_any hgq))⟩
 go_wp2_with fail
 refine (want_yes C ok k h _ ⟨#[99, 108, 97, 117, 115, 101, 115]⟩ [123] (by go_wf) c0).mono ?_
 rintro e w1 ⟨rfl, p1, hg⟩
 have hz1 := hg.size
 (try simp at hz1)
 have G1 : w.grownBy w1 (some C.b) := grown_trans (by go_wf) hg
 clear hg
 have ⟨ne1, nf1⟩ : NN C.b w1.heap.size := by omega
 have HR0 : Hid (run C.ts n (.clausesMore true []) h (k + 1) = r0) := hide (by rw [← unhide HR]; simp only [fClauses, ub, eq_true c0])
 go_wp2
 go_loopg [5] n (fun gk s wr => ∃ (acc : List Tree) (k' : Nat) (ao : Option Addr) (cp : Nat), s = .slice ao acc.length cp ∧ PS wr C k' h ∧ RowI wr w.heap.size wr.heap.size (.slice ao acc.length cp) acc ∧ w.grownBy wr (some C.b) ∧ Hid (run C.ts gk (.clausesMore true acc) h k' = r0) ∧ gk ≤ n ∧ acc.length ≤ k')
 case atStart => exact ⟨[], k + 1, none, 0, rfl, (by go_wf), RowI.nil _ _ _, (by go_wf), HR0, Nat.le_refl _, Nat.zero_le _⟩
 case round =>
  clear HR p1
  obtain ⟨acc, k0, ao0, cp0, rfl, p0, row0, Gr, HRr, hle, hacc⟩ := hrel
  obtain ⟨m, rfl⟩ : ∃ m, gk = m + 1 := (by cases gk with | zero => exact absurd (unhide HRr).symm (unhide HO) | succ m => exact ⟨m, rfl⟩)
  have HR : Hid (fClausesMore C.ts (run C.ts m) true acc h k0 = r0) := unhide HRr
  have hkl0 := p0.kl
  have hzr := Gr.size
  have ihm := ih m (by omega)
  clear HRr p HR0
  have p1 := p0
  clear p0
  by_cases c1 : isS C.ts k0 [[125]] = true
  ·skip
   go_wp2_with fail
   refine (skip_yes C ok k0 h _ [125] (by go_wf) c1).mono ?_
   rintro e w2 ⟨rfl, p2, hg⟩
   have hz2 := hg.size
   (try simp at hz2)
   have G2 : w.grownBy w2 (some C.b) := grown_trans (by go_wf) hg
   replace row0 := RowI.ag row0 (Ag.grown aw0 hg (by omega) (by omega)) (Nat.le_refl _) (Nat.le_refl _)
   clear p1
   clear hg
   have ⟨ne2, nf2⟩ : NN C.b w2.heap.size := by omega
   go_wp2
   go_ret
   refine lpost_ok (hi := wr.heap.size) (s := 0) (k' := k0 + 1) (l := acc) (by rw [← unhide HR]; simp only [fClausesMore, Bool.false_eq_true, ub, eq_true c1]) (row0.ag aw0 (by omega) (Nat.le_refl _)) (by omega) ?_ ?_
   ·assumption
   ·assumption
  go_wp2_with fail
  refine (skip_no C ok k0 h _ [125] (by go_wf) (Bool.eq_false_iff.2 c1)).mono ?_
  rintro e w2 ⟨rfl, hgq⟩
  have p2 := PS.quiet (C := C) (k := k0) (h := h) (by go_wf) hgq
  have hg := grown_any (r := some C.b) hgq
  clear hgq
  have hz2 := hg.size
  (try simp at hz2)
  have G2 : w.grownBy w2 (some C.b) := grown_trans (by go_wf) hg
  replace row0 := RowI.ag row0 (Ag.grown aw0 hg (by omega) (by omega)) (Nat.le_refl _) (Nat.le_refl _)
  clear p1
  clear hg
  have ⟨ne2, nf2⟩ : NN C.b w2.heap.size := by omega
  go_wp2_with fail
  refine (ihm.comm h k0 _ (by go_wf) (fun hx => unhide HO ((unhide HR).symm.trans (by simp only [fClausesMore, Bool.false_eq_true, ub, eq_false c1, hx])))).mono ?_
  rintro e w3 hp
  rcases hp with ⟨kd3, tx3, nm3, ps3, kids3, s3, k3, ao3, cp3, hq, rfl, hrow, p3, hg⟩ | ⟨pb, rule, hq, rfl, hg⟩
  rotate_left
  (exact ⟨rfl, lpost_bad (by rw [← unhide HR]; simp only [fClausesMore, Bool.false_eq_true, ub, eq_false c1, hq]) (grown_trans (by go_wf) hg)⟩)
  have hz3 := hg.size
  (try simp at hz3)
  have G3 : w.grownBy w3 (some C.b) := grown_trans (by go_wf) hg
  replace row0 := RowI.ag row0 (Ag.grown aw0 hg (by omega) (by omega)) (Nat.le_refl _) (Nat.le_refl _)
  clear p2
  obtain ⟨lo3, hlo3, row3⟩ := hrow.named
  (try simp at hlo3)
  have HQ3 := hide hq
  clear hrow hq
  clear hg
  have ⟨ne3, nf3⟩ : NN C.b w3.heap.size := by omega
  have hmono := run_fine C.ts m .comm h k0 _ s3 k3 (unhide HQ3)
  simp only [st, bnd] at hmono
  have hmon := hmono.1
  clear hmono
  have hkl2 := p3.kl
  go_wp2_with (first | (at_builtin; (refine wpList_app rfl (.tmp 11) (.tmp 14) rfl (lo := w.heap.size) (hi := wr.heap.size) (ao := ao0) (cp := cp0) (l := acc) (t := .mk kd3 tx3 nm3 ps3 kids3) (A := lo3) (B := w3.heap.size) (g0 := w3.heap.size) (cur := #[.int .i64 kd3, .string ⟨tx3.toArray⟩, .int .i64 nm3, .int .i64 ps3, .string ⟨#[]⟩, .int .i64 0, .slice ao3 kids3.length cp3]) (by simp [Act.eval]) (RowI.ag row0 (aw2 aw0 (by omega)) (Nat.le_refl _) (Nat.le_refl _)) (by simp [Act.eval]) (bw0 (by omega)) ((Nd.mk (kd := kd3) (tx := tx3) (nm := nm3) (ps := ps3) row3).ag (aw2 aw0 (by simp <;> omega))) rfl one7 (by omega) (by simp <;> omega) (by simp <;> omega) (by omega) (by simp <;> omega) (by omega) ?_; intro g4 cp4 w4 hrw4 hgA hat4 hgl4; have hob := row0.own; have hz4 := hgA.size; (try simp at hz4); (try simp at hat4); have G4 : w.grownBy w4 (some C.b) := grown_own (gw2 (by go_wf)) hgA (fun x hx => by have := hob x hx; omega); have p4 := PS.own (C := C) (k := k3) (h := h) (pw2 (by go_wf)) ok hgA (fun x hx => by have := hob x hx; omega); clear p3 hgA hob; have ne4 : ¬ C.b = w4.heap.size := (by omega); have nf4 : ¬ w4.heap.size = C.b := (by omega))))
  have row4 := hrw4 w4 (Nat.le_refl _) rfl (Ag.refl _ _ _) (Ag.refl _ _ _)
  clear hrw4
  go_wp2
  go_roundg m
  case measure => omega
  case rel => exact ⟨acc ++ [.mk kd3 tx3 nm3 ps3 kids3], k3, some ⟨g4, 0, none⟩, cp4, by simp, (by go_wf), by simpa using RowI.ag (hi' := w4.heap.size) row4 aw0 (by omega) (by omega), (by go_wf), hide (by rw [← unhide HR]; simp only [fClausesMore, Bool.false_eq_true, ub, eq_false c1, unhide HQ3]), by omega, by simp; omega⟩
set_option maxHeartbeats 800000 in
theorem bracedI_w (C : Ctx) (ok : C.Ok) (n : Nat) (ih : All C n) : CL C 123 (.braced .initial) #[.pointer (some ⟨C.b, 0, none⟩), .func (.func 124) #[.pointer (some ⟨C.b, 0, none⟩)] #[]] (n + 1) := by
 intro h k w p hout
 have hr : run C.ts (n + 1) (.braced .initial) h k = fBraced C.ts (run C.ts n) .initial h k := rfl
 rw [hr] at hout ⊢
 clear hr
 generalize hR : fBraced C.ts (run C.ts n) .initial h k = r0 at hout ⊢
 have hbl := p.lt
 have htb := ok.lt
 have htf0 := tokF0
 have htf1 := tokF1
 have htf3 := tokF3
 have hmf := hmfL
 have G0 := grown_refl w (some C.b)
 have HR := hide hR
 clear hR
 have HO := hide hout
 clear hout
 have hkl := p.kl
 have hfew := ok.few
 go_enter Tryz.func123, Tryz.ntmps123
 by_cases c0 : isS C.ts k [[123]] = true
 rotate_left
 ·skip
  go_wp2_with fail
  refine (want_no C ok k h _ ⟨#[111, 112, 101, 114, 97, 110, 100]⟩ [123] (by go_wf) (Bool.eq_false_iff.2 c0)).mono ?_
  rintro e w1 ⟨rfl, hgq⟩
  exact ⟨rfl, lpost_bad (by rw [← unhide HR]; simp only [fBraced, ub, eq_false c0]) (grown_trans (by go_wf) (grown_any hgq))⟩
 go_wp2_with fail
 refine (want_yes C ok k h _ ⟨#[111, 112, 101, 114, 97, 110, 100]⟩ [123] (by go_wf) c0).mono ?_
 rintro e w1 ⟨rfl, p1, hg⟩
 have hz1 := hg.size
 (try simp at hz1)
 have G1 : w.grownBy w1 (some C.b) := grown_trans (by go_wf) hg
 clear hg
 have ⟨ne1, nf1⟩ : NN C.b w1.heap.size := by omega
 have HR0 : Hid (run C.ts n (.bracedMore .initial []) h (k + 1) = r0) := hide (by rw [← unhide HR]; simp only [fBraced, ub, eq_true c0])
 go_wp2
 go_loopg [5] n (fun gk s wr => ∃ (acc : List Tree) (k' : Nat) (ao : Option Addr) (cp : Nat), s = .slice ao acc.length cp ∧ PS wr C k' h ∧ RowI wr w.heap.size wr.heap.size (.slice ao acc.length cp) acc ∧ w.grownBy wr (some C.b) ∧ Hid (run C.ts gk (.bracedMore .initial acc) h k' = r0) ∧ gk ≤ n ∧ acc.length ≤ k')
 case atStart => exact ⟨[], k + 1, none, 0, rfl, (by go_wf), RowI.nil _ _ _, (by go_wf), HR0, Nat.le_refl _, Nat.zero_le _⟩
 case round =>
  clear HR p1
  obtain ⟨acc, k0, ao0, cp0, rfl, p0, row0, Gr, HRr, hle, hacc⟩ := hrel
  obtain ⟨m, rfl⟩ : ∃ m, gk = m + 1 := (by cases gk with | zero => exact absurd (unhide HRr).symm (unhide HO) | succ m => exact ⟨m, rfl⟩)
  have HR : Hid (fBracedMore C.ts (run C.ts m) .initial acc h k0 = r0) := unhide HRr
  have hkl0 := p0.kl
  have hzr := Gr.size
  have ihm := ih m (by omega)
  clear HRr p HR0
  have p1 := p0
  clear p0
  by_cases c1 : isS C.ts k0 [[125]] = true
  ·skip
   go_wp2_with fail
   refine (skip_yes C ok k0 h _ [125] (by go_wf) c1).mono ?_
   rintro e w2 ⟨rfl, p2, hg⟩
   have hz2 := hg.size
   (try simp at hz2)
   have G2 : w.grownBy w2 (some C.b) := grown_trans (by go_wf) hg
   replace row0 := RowI.ag row0 (Ag.grown aw0 hg (by omega) (by omega)) (Nat.le_refl _) (Nat.le_refl _)
   clear p1
   clear hg
   have ⟨ne2, nf2⟩ : NN C.b w2.heap.size := by omega
   go_wp2
   go_ret
   refine lpost_ok (hi := wr.heap.size) (s := 0) (k' := k0 + 1) (l := acc) (by rw [← unhide HR]; simp only [fBracedMore, ub, eq_true c1]) (row0.ag aw0 (by omega) (Nat.le_refl _)) (by omega) ?_ ?_
   ·assumption
   ·assumption
  go_wp2_with fail
  refine (skip_no C ok k0 h _ [125] (by go_wf) (Bool.eq_false_iff.2 c1)).mono ?_
  rintro e w2 ⟨rfl, hgq⟩
  have p2 := PS.quiet (C := C) (k := k0) (h := h) (by go_wf) hgq
  have hg := grown_any (r := some C.b) hgq
  clear hgq
  have hz2 := hg.size
  (try simp at hz2)
  have G2 : w.grownBy w2 (some C.b) := grown_trans (by go_wf) hg
  replace row0 := RowI.ag row0 (Ag.grown aw0 hg (by omega) (by omega)) (Nat.le_refl _) (Nat.le_refl _)
  clear p1
  clear hg
  have ⟨ne2, nf2⟩ : NN C.b w2.heap.size := by omega
  go_wp2_with fail
  refine (ihm.initial h k0 _ (by go_wf) (fun hx => unhide HO ((unhide HR).symm.trans (by simp only [fBracedMore, ub, eq_false c1, hx])))).mono ?_
  rintro e w3 hp
  rcases hp with ⟨kd3, tx3, nm3, ps3, kids3, s3, k3, ao3, cp3, hq, rfl, hrow, p3, hg⟩ | ⟨pb, rule, hq, rfl, hg⟩
  rotate_left
  (exact ⟨rfl, lpost_bad (by rw [← unhide HR]; simp only [fBracedMore, ub, eq_false c1, hq]) (grown_trans (by go_wf) hg)⟩)
  have hz3 := hg.size
  (try simp at hz3)
  have G3 : w.grownBy w3 (some C.b) := grown_trans (by go_wf) hg
  replace row0 := RowI.ag row0 (Ag.grown aw0 hg (by omega) (by omega)) (Nat.le_refl _) (Nat.le_refl _)
  clear p2
  obtain ⟨lo3, hlo3, row3⟩ := hrow.named
  (try simp at hlo3)
  have HQ3 := hide hq
  clear hrow hq
  clear hg
  have ⟨ne3, nf3⟩ : NN C.b w3.heap.size := by omega
  have hmono := run_fine C.ts m .initial h k0 _ s3 k3 (unhide HQ3)
  simp only [st, bnd] at hmono
  have hmon := hmono.1
  clear hmono
  have hkl2 := p3.kl
  go_wp2_with (first | (at_builtin; (refine wpList_app rfl (.tmp 11) (.tmp 14) rfl (lo := w.heap.size) (hi := wr.heap.size) (ao := ao0) (cp := cp0) (l := acc) (t := .mk kd3 tx3 nm3 ps3 kids3) (A := lo3) (B := w3.heap.size) (g0 := w3.heap.size) (cur := #[.int .i64 kd3, .string ⟨tx3.toArray⟩, .int .i64 nm3, .int .i64 ps3, .string ⟨#[]⟩, .int .i64 0, .slice ao3 kids3.length cp3]) (by simp [Act.eval]) (RowI.ag row0 (aw2 aw0 (by omega)) (Nat.le_refl _) (Nat.le_refl _)) (by simp [Act.eval]) (bw0 (by omega)) ((Nd.mk (kd := kd3) (tx := tx3) (nm := nm3) (ps := ps3) row3).ag (aw2 aw0 (by simp <;> omega))) rfl one7 (by omega) (by simp <;> omega) (by simp <;> omega) (by omega) (by simp <;> omega) (by omega) ?_; intro g4 cp4 w4 hrw4 hgA hat4 hgl4; have hob := row0.own; have hz4 := hgA.size; (try simp at hz4); (try simp at hat4); have G4 : w.grownBy w4 (some C.b) := grown_own (gw2 (by go_wf)) hgA (fun x hx => by have := hob x hx; omega); have p4 := PS.own (C := C) (k := k3) (h := h) (pw2 (by go_wf)) ok hgA (fun x hx => by have := hob x hx; omega); clear p3 hgA hob; have ne4 : ¬ C.b = w4.heap.size := (by omega); have nf4 : ¬ w4.heap.size = C.b := (by omega))))
  have row4 := hrw4 w4 (Nat.le_refl _) rfl (Ag.refl _ _ _) (Ag.refl _ _ _)
  clear hrw4
  by_cases c2 : isS C.ts k3 [[44]] = true
  rotate_left
  ·skip
   go_wp2_with fail
   refine (skip_no C ok k3 h _ [44] (by go_wf) (Bool.eq_false_iff.2 c2)).mono ?_
   rintro e w5 ⟨rfl, hgq⟩
   have p5 := PS.quiet (C := C) (k := k3) (h := h) (by go_wf) hgq
   have hg := grown_any (r := some C.b) hgq
   clear hgq
   have hz5 := hg.size
   (try simp at hz5)
   have G5 : w.grownBy w5 (some C.b) := grown_trans (by go_wf) hg
   replace row4 := RowI.ag row4 (Ag.grown aw0 hg (by omega) (by omega)) (Nat.le_refl _) (Nat.le_refl _)
   clear p4
   clear hg
   have ⟨ne5, nf5⟩ : NN C.b w5.heap.size := by omega
   by_cases c3 : isS C.ts k3 [[125]] = true
   rotate_left
   ·skip
    go_wp2_with fail
    refine (want_no C ok k3 h _ ⟨#[111, 112, 101, 114, 97, 110, 100]⟩ [125] (by go_wf) (Bool.eq_false_iff.2 c3)).mono ?_
    rintro e w6 ⟨rfl, hgq⟩
    exact ⟨rfl, lpost_bad (by rw [← unhide HR]; simp only [fBracedMore, ub, eq_false c1, unhide HQ3, eq_false c2, eq_false c3]) (grown_trans (by go_wf) (grown_any hgq))⟩
   go_wp2_with fail
   refine (want_yes C ok k3 h _ ⟨#[111, 112, 101, 114, 97, 110, 100]⟩ [125] (by go_wf) c3).mono ?_
   rintro e w6 ⟨rfl, p6, hg⟩
   have hz6 := hg.size
   (try simp at hz6)
   have G6 : w.grownBy w6 (some C.b) := grown_trans (by go_wf) hg
   replace row4 := RowI.ag row4 (Ag.grown aw0 hg (by omega) (by omega)) (Nat.le_refl _) (Nat.le_refl _)
   clear p5
   clear hg
   have ⟨ne6, nf6⟩ : NN C.b w6.heap.size := by omega
   go_wp2
   go_ret
   refine lpost_ok (hi := w4.heap.size) (s := 0) (k' := k3 + 1) (l := (acc ++ [.mk kd3 tx3 nm3 ps3 kids3])) (by rw [← unhide HR]; simp only [fBracedMore, ub, eq_false c1, unhide HQ3, eq_false c2, eq_true c3]) (row4.ag aw0 (by omega) (Nat.le_refl _)) (by omega) ?_ ?_
   ·assumption
   ·assumption
  go_wp2_with fail
  refine (skip_yes C ok k3 h _ [44] (by go_wf) c2).mono ?_
  rintro e w5 ⟨rfl, p5, hg⟩
  have hz5 := hg.size
  (try simp at hz5)
  have G5 : w.grownBy w5 (some C.b) := grown_trans (by go_wf) hg
  replace row4 := RowI.ag row4 (Ag.grown aw0 hg (by omega) (by omega)) (Nat.le_refl _) (Nat.le_refl _)
  clear p4
  clear hg
  have ⟨ne5, nf5⟩ : NN C.b w5.heap.size := by omega
  go_wp2
  go_roundg m
  case measure => omega
  case rel => exact ⟨acc ++ [.mk kd3 tx3 nm3 ps3 kids3], k3 + 1, some ⟨g4, 0, none⟩, cp4, by simp, (by go_wf), by simpa using RowI.ag (hi' := w5.heap.size) row4 aw0 (by omega) (by omega), (by go_wf), hide (by rw [← unhide HR]; simp only [fBracedMore, ub, eq_false c1, unhide HQ3, eq_true c2]), by omega, by simp; omega⟩
set_option maxHeartbeats 800000 in
theorem bracedE_w (C : Ctx) (ok : C.Ok) (n : Nat) (ih : All C n) : CL C 123 (.braced .expr) #[.pointer (some ⟨C.b, 0, none⟩), .func (.func 94) #[.pointer (some ⟨C.b, 0, none⟩)] #[]] (n + 1) := by
 intro h k w p hout
 have hr : run C.ts (n + 1) (.braced .expr) h k = fBraced C.ts (run C.ts n) .expr h k := rfl
 rw [hr] at hout ⊢
 clear hr
 generalize hR : fBraced C.ts (run C.ts n) .expr h k = r0 at hout ⊢
 have hbl := p.lt
 have htb := ok.lt
 have htf0 := tokF0
 have htf1 := tokF1
 have htf3 := tokF3
 have hmf := hmfL
 have G0 := grown_refl w (some C.b)
 have HR := hide hR
 clear hR
 have HO := hide hout
 clear hout
 have hkl := p.kl
 have hfew := ok.few
 go_enter Tryz.func123, Tryz.ntmps123
 by_cases c0 : isS C.ts k [[123]] = true
 rotate_left
 ·skip
  go_wp2_with fail
  refine (want_no C ok k h _ ⟨#[111, 112, 101, 114, 97, 110, 100]⟩ [123] (by go_wf) (Bool.eq_false_iff.2 c0)).mono ?_
  rintro e w1 ⟨rfl, hgq⟩
  exact ⟨rfl, lpost_bad (by rw [← unhide HR]; simp only [fBraced, ub, eq_false c0]) (grown_trans (by go_wf) (grown_any hgq))⟩
 go_wp2_with fail
 refine (want_yes C ok k h _ ⟨#[111, 112, 101, 114, 97, 110, 100]⟩ [123] (by go_wf) c0).mono ?_
 rintro e w1 ⟨rfl, p1, hg⟩
 have hz1 := hg.size
 (try simp at hz1)
 have G1 : w.grownBy w1 (some C.b) := grown_trans (by go_wf) hg
 clear hg
 have ⟨ne1, nf1⟩ : NN C.b w1.heap.size := by omega
 have HR0 : Hid (run C.ts n (.bracedMore .expr []) h (k + 1) = r0) := hide (by rw [← unhide HR]; simp only [fBraced, ub, eq_true c0])
 go_wp2
 go_loopg [5] n (fun gk s wr => ∃ (acc : List Tree) (k' : Nat) (ao : Option Addr) (cp : Nat), s = .slice ao acc.length cp ∧ PS wr C k' h ∧ RowI wr w.heap.size wr.heap.size (.slice ao acc.length cp) acc ∧ w.grownBy wr (some C.b) ∧ Hid (run C.ts gk (.bracedMore .expr acc) h k' = r0) ∧ gk ≤ n ∧ acc.length ≤ k')
 case atStart => exact ⟨[], k + 1, none, 0, rfl, (by go_wf), RowI.nil _ _ _, (by go_wf), HR0, Nat.le_refl _, Nat.zero_le _⟩
 case round =>
  clear HR p1
  obtain ⟨acc, k0, ao0, cp0, rfl, p0, row0, Gr, HRr, hle, hacc⟩ := hrel
  obtain ⟨m, rfl⟩ : ∃ m, gk = m + 1 := (by cases gk with | zero => exact absurd (unhide HRr).symm (unhide HO) | succ m => exact ⟨m, rfl⟩)
  have HR : Hid (fBracedMore C.ts (run C.ts m) .expr acc h k0 = r0) := unhide HRr
  have hkl0 := p0.kl
  have hzr := Gr.size
  have ihm := ih m (by omega)
  clear HRr p HR0
  have p1 := p0
  clear p0
  by_cases c1 : isS C.ts k0 [[125]] = true
  ·skip
   go_wp2_with fail
   refine (skip_yes C ok k0 h _ [125] (by go_wf) c1).mono ?_
   rintro e w2 ⟨rfl, p2, hg⟩
   have hz2 := hg.size
   (try simp at hz2)
   have G2 : w.grownBy w2 (some C.b) := grown_trans (by go_wf) hg
   replace row0 := RowI.ag row0 (Ag.grown aw0 hg (by omega) (by omega)) (Nat.le_refl _) (Nat.le_refl _)
   clear p1
   clear hg
   have ⟨ne2, nf2⟩ : NN C.b w2.heap.size := by omega
   go_wp2
   go_ret
   refine lpost_ok (hi := wr.heap.size) (s := 0) (k' := k0 + 1) (l := acc) (by rw [← unhide HR]; simp only [fBracedMore, ub, eq_true c1]) (row0.ag aw0 (by omega) (Nat.le_refl _)) (by omega) ?_ ?_
   ·assumption
   ·assumption
  go_wp2_with fail
  refine (skip_no C ok k0 h _ [125] (by go_wf) (Bool.eq_false_iff.2 c1)).mono ?_
  rintro e w2 ⟨rfl, hgq⟩
  have p2 := PS.quiet (C := C) (k := k0) (h := h) (by go_wf) hgq
  have hg := grown_any (r := some C.b) hgq
  clear hgq
  have hz2 := hg.size
  (try simp at hz2)
  have G2 : w.grownBy w2 (some C.b) := grown_trans (by go_wf) hg
  replace row0 := RowI.ag row0 (Ag.grown aw0 hg (by omega) (by omega)) (Nat.le_refl _) (Nat.le_refl _)
  clear p1
  clear hg
  have ⟨ne2, nf2⟩ : NN C.b w2.heap.size := by omega
  go_wp2_with fail
  refine (ihm.expr h k0 _ (by go_wf) (fun hx => unhide HO ((unhide HR).symm.trans (by simp only [fBracedMore, ub, eq_false c1, hx])))).mono ?_
  rintro e w3 hp
  rcases hp with ⟨kd3, tx3, nm3, ps3, kids3, s3, k3, ao3, cp3, hq, rfl, hrow, p3, hg⟩ | ⟨pb, rule, hq, rfl, hg⟩
  rotate_left
  (exact ⟨rfl, lpost_bad (by rw [← unhide HR]; simp only [fBracedMore, ub, eq_false c1, hq]) (grown_trans (by go_wf) hg)⟩)
  have hz3 := hg.size
  (try simp at hz3)
  have G3 : w.grownBy w3 (some C.b) := grown_trans (by go_wf) hg
  replace row0 := RowI.ag row0 (Ag.grown aw0 hg (by omega) (by omega)) (Nat.le_refl _) (Nat.le_refl _)
  clear p2
  obtain ⟨lo3, hlo3, row3⟩ := hrow.named
  (try simp at hlo3)
  have HQ3 := hide hq
  clear hrow hq
  clear hg
  have ⟨ne3, nf3⟩ : NN C.b w3.heap.size := by omega
  have hmono := run_fine C.ts m .expr h k0 _ s3 k3 (unhide HQ3)
  simp only [st, bnd] at hmono
  have hmon := hmono.1
  clear hmono
  have hkl2 := p3.kl
  go_wp2_with (first | (at_builtin; (refine wpList_app rfl (.tmp 11) (.tmp 14) rfl (lo := w.heap.size) (hi := wr.heap.size) (ao := ao0) (cp := cp0) (l := acc) (t := .mk kd3 tx3 nm3 ps3 kids3) (A := lo3) (B := w3.heap.size) (g0 := w3.heap.size) (cur := #[.int .i64 kd3, .string ⟨tx3.toArray⟩, .int .i64 nm3, .int .i64 ps3, .string ⟨#[]⟩, .int .i64 0, .slice ao3 kids3.length cp3]) (by simp [Act.eval]) (RowI.ag row0 (aw2 aw0 (by omega)) (Nat.le_refl _) (Nat.le_refl _)) (by simp [Act.eval]) (bw0 (by omega)) ((Nd.mk (kd := kd3) (tx := tx3) (nm := nm3) (ps := ps3) row3).ag (aw2 aw0 (by simp <;> omega))) rfl one7 (by omega) (by simp <;> omega) (by simp <;> omega) (by omega) (by simp <;> omega) (by omega) ?_; intro g4 cp4 w4 hrw4 hgA hat4 hgl4; have hob := row0.own; have hz4 := hgA.size; (try simp at hz4); (try simp at hat4); have G4 : w.grownBy w4 (some C.b) := grown_own (gw2 (by go_wf)) hgA (fun x hx => by have := hob x hx; omega); have p4 := PS.own (C := C) (k := k3) (h := h) (pw2 (by go_wf)) ok hgA (fun x hx => by have := hob x hx; omega); clear p3 hgA hob; have ne4 : ¬ C.b = w4.heap.size := (by omega); have nf4 : ¬ w4.heap.size = C.b := (by omega))))
  have row4 := hrw4 w4 (Nat.le_refl _) rfl (Ag.refl _ _ _) (Ag.refl _ _ _)
  clear hrw4
  by_cases c2 : isS C.ts k3 [[44]] = true
  rotate_left
  ·skip
   go_wp2_with fail
   refine (skip_no C ok k3 h _ [44] (by go_wf) (Bool.eq_false_iff.2 c2)).mono ?_
   rintro e w5 ⟨rfl, hgq⟩
   have p5 := PS.quiet (C := C) (k := k3) (h := h) (by go_wf) hgq
   have hg := grown_any (r := some C.b) hgq
   clear hgq
   have hz5 := hg.size
   (try simp at hz5)
   have G5 : w.grownBy w5 (some C.b) := grown_trans (by go_wf) hg
   replace row4 := RowI.ag row4 (Ag.grown aw0 hg (by omega) (by omega)) (Nat.le_refl _) (Nat.le_refl _)
   clear p4
   clear hg
   have ⟨ne5, nf5⟩ : NN C.b w5.heap.size := by omega
   by_cases c3 : isS C.ts k3 [[125]] = true
   rotate_left
   ·skip
    go_wp2_with fail
    refine (want_no C ok k3 h _ ⟨#[111, 112, 101, 114, 97, 110, 100]⟩ [125] (by go_wf) (Bool.eq_false_iff.2 c3)).mono ?_
    rintro e w6 ⟨rfl, hgq⟩
    exact ⟨rfl, lpost_bad (by rw [← unhide HR]; simp only [fBracedMore, ub, eq_false c1, unhide HQ3, eq_false c2, eq_false c3]) (grown_trans (by go_wf) (grown_any hgq))⟩
   go_wp2_with fail
   refine (want_yes C ok k3 h _ ⟨#[111, 112, 101, 114, 97, 110, 100]⟩ [125] (by go_wf) c3).mono ?_
   rintro e w6 ⟨rfl, p6, hg⟩
   have hz6 := hg.size
   (try simp at hz6)
   have G6 : w.grownBy w6 (some C.b) := grown_trans (by go_wf) hg
   replace row4 := RowI.ag row4 (Ag.grown aw0 hg (by omega) (by omega)) (Nat.le_refl _) (Nat.le_refl _)
   clear p5
   clear hg
   have ⟨ne6, nf6⟩ : NN C.b w6.heap.size := by omega
   go_wp2
   go_ret
   refine lpost_ok (hi := w4.heap.size) (s := 0) (k' := k3 + 1) (l := (acc ++ [.mk kd3 tx3 nm3 ps3 kids3])) (by rw [← unhide HR]; simp only [fBracedMore, ub, eq_false c1, unhide HQ3, eq_false c2, eq_true c3]) (row4.ag aw0 (by omega) (Nat.le_refl _)) (by omega) ?_ ?_
   ·assumption
   ·assumption
  go_wp2_with fail
  refine (skip_yes C ok k3 h _ [44] (by go_wf) c2).mono ?_
  rintro e w5 ⟨rfl, p5, hg⟩
  have hz5 := hg.size
  (try simp at hz5)
  have G5 : w.grownBy w5 (some C.b) := grown_trans (by go_wf) hg
  replace row4 := RowI.ag row4 (Ag.grown aw0 hg (by omega) (by omega)) (Nat.le_refl _) (Nat.le_refl _)
  clear p4
  clear hg
  have ⟨ne5, nf5⟩ : NN C.b w5.heap.size := by omega
  go_wp2
  go_roundg m
  case measure => omega
  case rel => exact ⟨acc ++ [.mk kd3 tx3 nm3 ps3 kids3], k3 + 1, some ⟨g4, 0, none⟩, cp4, by simp, (by go_wf), by simpa using RowI.ag (hi' := w5.heap.size) row4 aw0 (by omega) (by omega), (by go_wf), hide (by rw [← unhide HR]; simp only [fBracedMore, ub, eq_false c1, unhide HQ3, eq_true c2]), by omega, by simp; omega⟩
end Go.Proofs.YtgckmkiiheaeaaaGreatDoor
