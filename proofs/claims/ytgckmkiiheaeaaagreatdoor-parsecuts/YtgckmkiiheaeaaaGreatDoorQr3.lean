import Derived.Test.YtgckmkiiheaeaaaGreatDoorQg
import Derived.Test.YtgckmkiiheaeaaaGreatDoorParW
import Derived.Test.YtgckmkiiheaeaaaGreatDoorParA
import Derived.Test.YtgckmkiiheaeaaaGreatDoorParB
set_option linter.unusedVariables false
set_option linter.unusedSimpArgs false
set_option maxRecDepth 100000
namespace Go.Proofs.YtgckmkiiheaeaaaGreatDoor
open Go.RowKit Lx Px
set_option maxHeartbeats 4000000 in
theorem acting_3T_w (C : Ctx) (ok : C.Ok) (n : Nat) (ih : All C n) (kd : Int) (tx : List UInt8) (nm ps : Int) (kids : List Tree) (s : Int) (ao : Option Addr) (cp : Nat) : ∀ (h : Bool) (k : Nat) (w : World) (lo hi : Nat), PS w C k h → C.b < lo → hi ≤ w.heap.size → lo ≤ w.heap.size → RowI w lo hi (.slice ao kids.length cp) kids → (h3 : s = 3) → (c0 : ¬ isS C.ts k [[58, 61]] = true) → (c4 : ¬ isS C.ts k [[61], [43, 61], [45, 61], [42, 61]] = true) → (c2 : isS C.ts k [[43, 43], [45, 45]] = true) → run C.ts (n + 1) (.acting (.mk kd tx nm ps kids) s) h k ≠ .out → Calls Tryz.prog 100 #[.pointer (some ⟨C.b, 0, none⟩), .agg #[.int .i64 kd, .string ⟨tx.toArray⟩, .int .i64 nm, .int .i64 ps, .string ⟨#[]⟩, .int .i64 0, .slice ao kids.length cp], .int .i64 s] w (APost C lo (run C.ts (n + 1) (.acting (.mk kd tx nm ps kids) s) h k) h w) := by
 intro h k w lo hi p hblo hhi hlow rowa h3 c0 c4 c2 hout
 have hr : run C.ts (n + 1) (.acting (.mk kd tx nm ps kids) s) h k = fActing C.ts (run C.ts n) (.mk kd tx nm ps kids) s h k := rfl
 rw [hr] at hout ⊢
 clear hr
 generalize hR : fActing C.ts (run C.ts n) (.mk kd tx nm ps kids) s h k = r0 at hout ⊢
 have hbl := p.lt
 have G0 := grown_refl w (some C.b)
 have HR := hide hR
 clear hR
 clear hout
 have b3 : (s == 3) = true := by simp [h3]
 have hs2 : 2 ≤ s := by omega
 have H3 := hide h3
 clear h3
 go_enter Tryz.func100, Tryz.ntmps100
 go_wp2_with fail
 refine (token_any C ok k h _ (pw2 (pw2 (by go_wf)))).mono ?_
 rintro e w1 ⟨rfl, hgq⟩
 have p1 := PS.quiet (C := C) (k := k) (h := h) (pw2 (pw2 (by go_wf))) hgq
 have hg := grown_any (r := some C.b) hgq
 clear hgq
 have hz1 := hg.size
 (try simp at hz1)
 have G1 : w.grownBy w1 (some C.b) := grown_trans (gw2 (gw2 (by go_wf))) hg
 replace rowa := RowI.ag rowa (Ag.grown (aw2 (aw2 aw0 (by omega)) (by simp <;> omega)) hg (by simp <;> omega) (by omega)) (Nat.le_refl _) (Nat.le_refl _)
 have bl0_1 : BL w1 (w.heap.size) (nqC kd ⟨tx.toArray⟩ nm ps ao kids.length cp) := BL.grown (bw2 (bw0 (by omega))) hg (by omega)
 have hl0_1 := bl0_1.lt
 have zc0_1 := bl0_1.cell
 have bl1_1 : BL w1 (w.heap.size + 1) (nd0) := BL.grown (bw0 (by simp <;> omega)) hg (by omega)
 clear hg
 have nf2 : ¬ w.heap.size + 1 = C.b := by omega
 go_wp2_with fail
 refine (skip_no C ok k h _ [58, 61] (pw2 (pw2 (pw2 (by go_wf)))) (Bool.eq_false_iff.2 c0)).mono ?_
 rintro e w2 ⟨rfl, hgq⟩
 have p2 := PS.quiet (C := C) (k := k) (h := h) (pw2 (pw2 (pw2 (by go_wf)))) hgq
 have hg := grown_any (r := some C.b) hgq
 clear hgq
 have G2 : w.grownBy w2 (some C.b) := grown_trans (gw2 (gw2 (gw2 (by go_wf)))) hg
 replace rowa := RowI.ag rowa (Ag.grown (aw2 (aw2 (aw2 aw0 (by omega)) (by simp <;> omega)) (by simp <;> omega)) hg (by simp <;> omega) (by omega)) (Nat.le_refl _) (Nat.le_refl _)
 have bl1_2 : BL w2 (w.heap.size + 1) (nd0) := BL.grown (bw2 (bw2 (bw2 (by go_wf)))) hg (by omega)
 have hl1_2 := bl1_2.lt
 have bl2_2 : BL w2 (w1.heap.size + 1) (nqC kd ⟨tx.toArray⟩ nm ps ao kids.length cp) := BL.grown (bw2 (bw0 (by simp <;> omega))) hg (by omega)
 have bl3_2 : BL w2 (w1.heap.size + 1 + 1) (nqC 0 ⟨(tok C.ts k).text.toArray⟩ 0 (tok C.ts k).pos (some ⟨w1.heap.size + 1, 0, none⟩) 1 1) := BL.grown (bw0 (by simp <;> omega)) hg (by omega)
 clear bl0_1 zc0_1
 clear bl1_1
 clear p1
 clear hg
 have ⟨nf7, nf8, ne13, nf16⟩ : ¬ w1.heap.size + 1 = C.b ∧ ¬ w1.heap.size + 1 + 1 = C.b ∧ ¬ w.heap.size + 1 = w1.heap.size + 1 ∧ ¬ w1.heap.size + 1 + 1 = w1.heap.size + 1 := by omega
 go_wp2_with fail
 refine (isL C ok k h _ w2.heap.size [[61], [43, 61], [45, 61], [42, 61]] (by decide) (by go_wf) (by simp)).mono ?_
 rintro e w3 ⟨rfl, hgq⟩
 have p3 := PS.quiet (C := C) (k := k) (h := h) (by go_wf) hgq
 have hg := grown_any (r := some C.b) hgq
 clear hgq
 have G3 : w.grownBy w3 (some C.b) := grown_trans (by go_wf) hg
 replace rowa := RowI.ag rowa (Ag.grown aw0 hg (by omega) (by omega)) (Nat.le_refl _) (Nat.le_refl _)
 have bl1_3 : BL w3 (w.heap.size + 1) (nd0) := BL.grown (by go_wf) hg (by omega)
 have hl1_3 := bl1_3.lt
 have bl2_3 : BL w3 (w1.heap.size + 1) (nqC kd ⟨tx.toArray⟩ nm ps ao kids.length cp) := BL.grown (by go_wf) hg (by omega)
 have bl3_3 : BL w3 (w1.heap.size + 1 + 1) (nqC 0 ⟨(tok C.ts k).text.toArray⟩ 0 (tok C.ts k).pos (some ⟨w1.heap.size + 1, 0, none⟩) 1 1) := BL.grown (by go_wf) hg (by omega)
 clear bl1_2
 clear bl2_2
 clear bl3_2
 clear p2
 clear hg
 go_wp2_with fail
 refine (isL C ok k h _ w3.heap.size [[43, 43], [45, 45]] (by decide) (by go_wf) (by simp)).mono ?_
 rintro e w4 ⟨rfl, hgq⟩
 have p4 := PS.quiet (C := C) (k := k) (h := h) (by go_wf) hgq
 have hg := grown_any (r := some C.b) hgq
 clear hgq
 have G4 : w.grownBy w4 (some C.b) := grown_trans (by go_wf) hg
 replace rowa := RowI.ag rowa (Ag.grown aw0 hg (by omega) (by omega)) (Nat.le_refl _) (Nat.le_refl _)
 have bl1_4 : BL w4 (w.heap.size + 1) (nd0) := BL.grown (by go_wf) hg (by omega)
 have hl1_4 := bl1_4.lt
 have bl2_4 : BL w4 (w1.heap.size + 1) (nqC kd ⟨tx.toArray⟩ nm ps ao kids.length cp) := BL.grown (by go_wf) hg (by omega)
 have bl3_4 : BL w4 (w1.heap.size + 1 + 1) (nqC 0 ⟨(tok C.ts k).text.toArray⟩ 0 (tok C.ts k).pos (some ⟨w1.heap.size + 1, 0, none⟩) 1 1) := BL.grown (by go_wf) hg (by omega)
 clear bl1_3
 clear bl2_3
 clear bl3_3
 clear p3
 clear hg
 go_wp2_with fail
 refine (take_any C ok k h _ (by go_wf) (isS_ne c2)).mono ?_
 rintro e w5 ⟨rfl, p5, hg⟩
 have G5 : w.grownBy w5 (some C.b) := grown_trans (by go_wf) hg
 replace rowa := RowI.ag rowa (Ag.grown aw0 hg (by omega) (by omega)) (Nat.le_refl _) (Nat.le_refl _)
 have bl1_5 : BL w5 (w.heap.size + 1) (nd0) := BL.grown (by go_wf) hg (by omega)
 have hl1_5 := bl1_5.lt
 have zc1_5 := bl1_5.cell
 have fz1_5 := bl1_5.frozen
 have bl2_5 : BL w5 (w1.heap.size + 1) (nqC kd ⟨tx.toArray⟩ nm ps ao kids.length cp) := BL.grown (by go_wf) hg (by omega)
 have bl3_5 : BL w5 (w1.heap.size + 1 + 1) (nqC 0 ⟨(tok C.ts k).text.toArray⟩ 0 (tok C.ts k).pos (some ⟨w1.heap.size + 1, 0, none⟩) 1 1) := BL.grown (by go_wf) hg (by omega)
 have hl3_5 := bl3_5.lt
 have zc3_5 := bl3_5.cell
 have fz3_5 := bl3_5.frozen
 clear bl1_4
 clear bl2_4
 clear bl3_4
 clear p4
 clear hg
 go_wp2
 refine bodyPost_ret (v := .tuple #[.agg #[.int .i64 20, .string ⟨(tok C.ts k).text.toArray⟩, .int .i64 0, .int .i64 (tok C.ts k).pos, .string ⟨#[]⟩, .int .i64 0, .slice (some ⟨w1.heap.size + 1, 0, none⟩) 1 1], .bool true]) (by simp [results, Tryz.results100, go_sem, *]) rfl (apost_ok (hi := w5.heap.size)  (k' := k + 1) (tx := (tok C.ts k).text) (kids := [.mk kd tx nm ps kids])  (by rw [← unhide HR]; simp only [fActing, ub, eq_true (unhide H3), eq_true hs2, eq_false c0, eq_false c4, eq_true c2]) (RowJ.toI (z := w5.heap.size) (rowJ1 (kd := kd) (tx := tx) (nm := nm) (ps := ps) (cur := #[.int .i64 kd, .string ⟨tx.toArray⟩, .int .i64 nm, .int .i64 ps, .string ⟨#[]⟩, .int .i64 0, .slice ao kids.length cp]) (bw7 (bw3 (by go_wf) (by omega)) (by first | omega | (simp <;> omega))) (rowa.ag (aw8 (aw4 aw0 (by simp <;> omega)) (by first | omega | (simp <;> omega))) (Nat.le_refl _) (Nat.le_refl _)) rfl (by omega) (by omega)) (by omega) (by omega) (by omega)) (by simp <;> omega) ?_ ?_)
 ·exact pw7 (pw3 (by go_wf) ok (by simp <;> omega)) ok (by first | omega | (simp <;> omega))
 ·exact gw7 (gw3 (by go_wf) (by simp <;> omega)) (by first | omega | (simp <;> omega))
set_option maxHeartbeats 4000000 in
theorem acting_3S_w (C : Ctx) (ok : C.Ok) (n : Nat) (ih : All C n) (kd : Int) (tx : List UInt8) (nm ps : Int) (kids : List Tree) (s : Int) (ao : Option Addr) (cp : Nat) : ∀ (h : Bool) (k : Nat) (w : World) (lo hi : Nat), PS w C k h → C.b < lo → hi ≤ w.heap.size → lo ≤ w.heap.size → RowI w lo hi (.slice ao kids.length cp) kids → (h3 : s = 3) → (c0 : ¬ isS C.ts k [[58, 61]] = true) → (c4 : ¬ isS C.ts k [[61], [43, 61], [45, 61], [42, 61]] = true) → (c2 : ¬ isS C.ts k [[43, 43], [45, 45]] = true) → (csend : isS C.ts k [[60, 45]] = true) → run C.ts (n + 1) (.acting (.mk kd tx nm ps kids) s) h k ≠ .out → Calls Tryz.prog 100 #[.pointer (some ⟨C.b, 0, none⟩), .agg #[.int .i64 kd, .string ⟨tx.toArray⟩, .int .i64 nm, .int .i64 ps, .string ⟨#[]⟩, .int .i64 0, .slice ao kids.length cp], .int .i64 s] w (APost C lo (run C.ts (n + 1) (.acting (.mk kd tx nm ps kids) s) h k) h w) := by
 intro h k w lo hi p hblo hhi hlow rowa h3 c0 c4 c2 csend hout
 have hr : run C.ts (n + 1) (.acting (.mk kd tx nm ps kids) s) h k = fActing C.ts (run C.ts n) (.mk kd tx nm ps kids) s h k := rfl
 rw [hr] at hout ⊢
 clear hr
 generalize hR : fActing C.ts (run C.ts n) (.mk kd tx nm ps kids) s h k = r0 at hout ⊢
 have hbl := p.lt
 have htb := ok.lt
 have htf0 := tokF0
 have htf1 := tokF1
 have htf3 := tokF3
 have hmf := hmfL
 have G0 := grown_refl w (some C.b)
 have HR := hide hR
 clear hR
 have HO := hide hout
 clear hout
 have b3 : (s == 3) = true := by simp [h3]
 have hs2 : 2 ≤ s := by omega
 have H3 := hide h3
 clear h3
 go_enter Tryz.func100, Tryz.ntmps100
 go_wp2_with fail
 refine (token_any C ok k h _ (pw2 (pw2 (by go_wf)))).mono ?_
 rintro e w1 ⟨rfl, hgq⟩
 have p1 := PS.quiet (C := C) (k := k) (h := h) (pw2 (pw2 (by go_wf))) hgq
 have hg := grown_any (r := some C.b) hgq
 clear hgq
 have hz1 := hg.size
 (try simp at hz1)
 have G1 : w.grownBy w1 (some C.b) := grown_trans (gw2 (gw2 (by go_wf))) hg
 replace rowa := RowI.ag rowa (Ag.grown (aw2 (aw2 aw0 (by omega)) (by simp <;> omega)) hg (by simp <;> omega) (by omega)) (Nat.le_refl _) (Nat.le_refl _)
 have bl0_1 : BL w1 (w.heap.size) (nqC kd ⟨tx.toArray⟩ nm ps ao kids.length cp) := BL.grown (bw2 (bw0 (by omega))) hg (by omega)
 have hl0_1 := bl0_1.lt
 have zc0_1 := bl0_1.cell
 have bl1_1 : BL w1 (w.heap.size + 1) (nd0) := BL.grown (bw0 (by simp <;> omega)) hg (by omega)
 have hl1_1 := bl1_1.lt
 clear hg
 have ⟨⟨ne1, nf1⟩, ⟨ne2, nf2⟩, ⟨ne3, nf3⟩, ⟨ne4, nf4⟩, ⟨ne5, nf5⟩, ⟨ne6, nf6⟩⟩ : NN C.b w.heap.size ∧ NN C.b (w.heap.size + 1) ∧ NN C.b w1.heap.size ∧ NN w.heap.size (w.heap.size + 1) ∧ NN w.heap.size w1.heap.size ∧ NN (w.heap.size + 1) w1.heap.size := by omega
 go_wp2_with fail
 refine (skip_no C ok k h _ [58, 61] (pw2 (pw2 (pw2 (by go_wf)))) (Bool.eq_false_iff.2 c0)).mono ?_
 rintro e w2 ⟨rfl, hgq⟩
 have p2 := PS.quiet (C := C) (k := k) (h := h) (pw2 (pw2 (pw2 (by go_wf)))) hgq
 have hg := grown_any (r := some C.b) hgq
 clear hgq
 have hz2 := hg.size
 (try simp at hz2)
 have G2 : w.grownBy w2 (some C.b) := grown_trans (gw2 (gw2 (gw2 (by go_wf)))) hg
 replace rowa := RowI.ag rowa (Ag.grown (aw2 (aw2 (aw2 aw0 (by omega)) (by simp <;> omega)) (by simp <;> omega)) hg (by simp <;> omega) (by omega)) (Nat.le_refl _) (Nat.le_refl _)
 have bl0_2 : BL w2 (w.heap.size) (nqC kd ⟨tx.toArray⟩ nm ps ao kids.length cp) := BL.grown (bw2 (bw2 (bw2 (by go_wf)))) hg (by omega)
 have hl0_2 := bl0_2.lt
 have bl1_2 : BL w2 (w.heap.size + 1) (nd0) := BL.grown (bw2 (bw2 (bw2 (by go_wf)))) hg (by omega)
 have hl1_2 := bl1_2.lt
 have bl2_2 : BL w2 (w1.heap.size + 1) (nqC kd ⟨tx.toArray⟩ nm ps ao kids.length cp) := BL.grown (bw2 (bw0 (by simp <;> omega))) hg (by omega)
 have hl2_2 := bl2_2.lt
 have bl3_2 : BL w2 (w1.heap.size + 1 + 1) (nqC 0 ⟨(tok C.ts k).text.toArray⟩ 0 (tok C.ts k).pos (some ⟨w1.heap.size + 1, 0, none⟩) 1 1) := BL.grown (bw0 (by simp <;> omega)) hg (by omega)
 have hl3_2 := bl3_2.lt
 clear bl0_1 zc0_1
 clear bl1_1
 clear p1
 clear hg
 have ⟨⟨ne7, nf7⟩, ⟨ne8, nf8⟩, ⟨ne9, nf9⟩, ⟨ne10, nf10⟩, ⟨ne11, nf11⟩, ⟨ne12, nf12⟩, ⟨ne13, nf13⟩, ⟨ne14, nf14⟩, ⟨ne15, nf15⟩, ⟨ne16, nf16⟩, ⟨ne17, nf17⟩, ⟨ne18, nf18⟩⟩ : NN C.b (w1.heap.size + 1) ∧ NN C.b (w1.heap.size + 1 + 1) ∧ NN C.b w2.heap.size ∧ NN w.heap.size (w1.heap.size + 1) ∧ NN w.heap.size (w1.heap.size + 1 + 1) ∧ NN w.heap.size w2.heap.size ∧ NN (w.heap.size + 1) (w1.heap.size + 1) ∧ NN (w.heap.size + 1) (w1.heap.size + 1 + 1) ∧ NN (w.heap.size + 1) w2.heap.size ∧ NN (w1.heap.size + 1) (w1.heap.size + 1 + 1) ∧ NN (w1.heap.size + 1) w2.heap.size ∧ NN (w1.heap.size + 1 + 1) w2.heap.size := by omega
 go_wp2_with fail
 refine (isL C ok k h _ w2.heap.size [[61], [43, 61], [45, 61], [42, 61]] (by decide) (by go_wf) (by simp)).mono ?_
 rintro e w3 ⟨rfl, hgq⟩
 have p3 := PS.quiet (C := C) (k := k) (h := h) (by go_wf) hgq
 have hg := grown_any (r := some C.b) hgq
 clear hgq
 have hz3 := hg.size
 (try simp at hz3)
 have G3 : w.grownBy w3 (some C.b) := grown_trans (by go_wf) hg
 replace rowa := RowI.ag rowa (Ag.grown aw0 hg (by omega) (by omega)) (Nat.le_refl _) (Nat.le_refl _)
 have bl0_3 : BL w3 (w.heap.size) (nqC kd ⟨tx.toArray⟩ nm ps ao kids.length cp) := BL.grown (by go_wf) hg (by omega)
 have hl0_3 := bl0_3.lt
 have bl1_3 : BL w3 (w.heap.size + 1) (nd0) := BL.grown (by go_wf) hg (by omega)
 have hl1_3 := bl1_3.lt
 have bl2_3 : BL w3 (w1.heap.size + 1) (nqC kd ⟨tx.toArray⟩ nm ps ao kids.length cp) := BL.grown (by go_wf) hg (by omega)
 have hl2_3 := bl2_3.lt
 have bl3_3 : BL w3 (w1.heap.size + 1 + 1) (nqC 0 ⟨(tok C.ts k).text.toArray⟩ 0 (tok C.ts k).pos (some ⟨w1.heap.size + 1, 0, none⟩) 1 1) := BL.grown (by go_wf) hg (by omega)
 have hl3_3 := bl3_3.lt
 clear bl0_2
 clear bl1_2
 clear bl2_2
 clear bl3_2
 clear p2
 clear hg
 have ⟨⟨ne19, nf19⟩, ⟨ne20, nf20⟩, ⟨ne21, nf21⟩, ⟨ne22, nf22⟩, ⟨ne23, nf23⟩⟩ : NN C.b w3.heap.size ∧ NN w.heap.size w3.heap.size ∧ NN (w.heap.size + 1) w3.heap.size ∧ NN (w1.heap.size + 1) w3.heap.size ∧ NN (w1.heap.size + 1 + 1) w3.heap.size := by omega
 go_wp2_with fail
 refine (isL C ok k h _ w3.heap.size [[43, 43], [45, 45]] (by decide) (by go_wf) (by simp)).mono ?_
 rintro e w4 ⟨rfl, hgq⟩
 have p4 := PS.quiet (C := C) (k := k) (h := h) (by go_wf) hgq
 have hg := grown_any (r := some C.b) hgq
 clear hgq
 have hz4 := hg.size
 (try simp at hz4)
 have G4 : w.grownBy w4 (some C.b) := grown_trans (by go_wf) hg
 replace rowa := RowI.ag rowa (Ag.grown aw0 hg (by omega) (by omega)) (Nat.le_refl _) (Nat.le_refl _)
 have bl0_4 : BL w4 (w.heap.size) (nqC kd ⟨tx.toArray⟩ nm ps ao kids.length cp) := BL.grown (by go_wf) hg (by omega)
 have hl0_4 := bl0_4.lt
 have bl1_4 : BL w4 (w.heap.size + 1) (nd0) := BL.grown (by go_wf) hg (by omega)
 have hl1_4 := bl1_4.lt
 have bl2_4 : BL w4 (w1.heap.size + 1) (nqC kd ⟨tx.toArray⟩ nm ps ao kids.length cp) := BL.grown (by go_wf) hg (by omega)
 have hl2_4 := bl2_4.lt
 have bl3_4 : BL w4 (w1.heap.size + 1 + 1) (nqC 0 ⟨(tok C.ts k).text.toArray⟩ 0 (tok C.ts k).pos (some ⟨w1.heap.size + 1, 0, none⟩) 1 1) := BL.grown (by go_wf) hg (by omega)
 have hl3_4 := bl3_4.lt
 clear bl0_3
 clear bl1_3
 clear bl2_3
 clear bl3_3
 clear p3
 clear hg
 have ⟨⟨ne24, nf24⟩, ⟨ne25, nf25⟩, ⟨ne26, nf26⟩, ⟨ne27, nf27⟩, ⟨ne28, nf28⟩⟩ : NN C.b w4.heap.size ∧ NN w.heap.size w4.heap.size ∧ NN (w.heap.size + 1) w4.heap.size ∧ NN (w1.heap.size + 1) w4.heap.size ∧ NN (w1.heap.size + 1 + 1) w4.heap.size := by omega
 go_wp2_with fail
 refine (skip_yes C ok k h _ [60, 45] (by go_wf) csend).mono ?_
 rintro e w5 ⟨rfl, p5, hg⟩
 have hz5 := hg.size
 (try simp at hz5)
 have G5 : w.grownBy w5 (some C.b) := grown_trans (by go_wf) hg
 replace rowa := RowI.ag rowa (Ag.grown aw0 hg (by omega) (by omega)) (Nat.le_refl _) (Nat.le_refl _)
 have bl0_5 : BL w5 (w.heap.size) (nqC kd ⟨tx.toArray⟩ nm ps ao kids.length cp) := BL.grown (by go_wf) hg (by omega)
 have hl0_5 := bl0_5.lt
 have bl1_5 : BL w5 (w.heap.size + 1) (nd0) := BL.grown (by go_wf) hg (by omega)
 have hl1_5 := bl1_5.lt
 have bl2_5 : BL w5 (w1.heap.size + 1) (nqC kd ⟨tx.toArray⟩ nm ps ao kids.length cp) := BL.grown (by go_wf) hg (by omega)
 have hl2_5 := bl2_5.lt
 have bl3_5 : BL w5 (w1.heap.size + 1 + 1) (nqC 0 ⟨(tok C.ts k).text.toArray⟩ 0 (tok C.ts k).pos (some ⟨w1.heap.size + 1, 0, none⟩) 1 1) := BL.grown (by go_wf) hg (by omega)
 have hl3_5 := bl3_5.lt
 have zc3_5 := bl3_5.cell
 have fz3_5 := bl3_5.frozen
 clear bl0_4
 clear bl1_4
 clear bl2_4
 clear bl3_4
 clear p4
 clear hg
 have ⟨⟨ne29, nf29⟩, ⟨ne30, nf30⟩, ⟨ne31, nf31⟩, ⟨ne32, nf32⟩, ⟨ne33, nf33⟩⟩ : NN C.b w5.heap.size ∧ NN w.heap.size w5.heap.size ∧ NN (w.heap.size + 1) w5.heap.size ∧ NN (w1.heap.size + 1) w5.heap.size ∧ NN (w1.heap.size + 1 + 1) w5.heap.size := by omega
 go_wp2
 go_region_law (first | (refine step_appJ rfl (.tmp 79) (.tmp 82) rfl (lo := lo) (hi := hi) (p := w1.heap.size + 1) (q := w1.heap.size + 1 + 1) (ao := some ⟨w1.heap.size + 1, 0, none⟩) (cp := 1) (l := [.mk kd tx nm ps kids]) (t := .mk kd6 tx6 nm6 ps6 kids6) (A := lo6) (B := w6.heap.size) (g0 := w6.heap.size) (cur := #[.int .i64 kd6, .string ⟨tx6.toArray⟩, .int .i64 nm6, .int .i64 ps6, .string ⟨#[]⟩, .int .i64 0, .slice ao6 kids6.length cp6]) (by simp [Act.eval]) (rowJ1 (kd := kd) (tx := tx) (nm := nm) (ps := ps) (cur := #[.int .i64 kd, .string ⟨tx.toArray⟩, .int .i64 nm, .int .i64 ps, .string ⟨#[]⟩, .int .i64 0, .slice ao kids.length cp]) (bw2 (by go_wf)) (rowa.ag (aw2 aw0 (by omega)) (Nat.le_refl _) (Nat.le_refl _)) rfl (by omega) (by omega)) (by simp [Act.eval]) (bw0 (by omega)) ((Nd.mk (kd := kd6) (tx := tx6) (nm := nm6) (ps := ps6) row6).ag (aw2 aw0 (by simp <;> omega))) rfl one7 (by simp) (by simp <;> omega) (by simp <;> omega) (by omega) (by simp <;> omega) (by omega) (by simp <;> omega) (by omega) (by omega) ?_; intro g7 cp7 w7 hrw7 hgA hat7 hgl7; have hob : ∀ x, (Value.slice (some ⟨w1.heap.size + 1, 0, none⟩) ([.mk kd tx nm ps kids] : List Tree).length 1).ownBlock = some x → x = w1.heap.size + 1 := (fun x hx => by simp only [Value.ownBlock, Option.some.injEq] at hx; omega); have hz7 := hgA.size; (try simp at hz7); have hat : (lo ≤ g7 ∧ g7 < hi) ∨ (w1.heap.size + 1 ≤ g7 ∧ g7 < w1.heap.size + 1 + 1) ∨ g7 = w6.heap.size + 1 := (by rcases hat7 with (e | e) | e; exact Or.inl e; exact Or.inr (Or.inl e); exact Or.inr (Or.inr (by simpa using e))); have G7 : w.grownBy w7 (some C.b) := grown_own (gw2 (by go_wf)) hgA (fun x hx => by have := hob x hx; omega); have p7 := PS.own (C := C) (k := k6) (h := h) (pw2 (by go_wf)) ok hgA (fun x hx => by have := hob x hx; omega); replace rowa := RowI.ag rowa (Ag.own (aw2 aw0 (by omega)) hgA (by simp <;> omega) (fun x hx => by have := hob x hx; omega)) (Nat.le_refl _) (Nat.le_refl _); have bl1_7 : BL w7 (w.heap.size + 1) (nd0) := BL.own (bw2 (by go_wf)) hgA (fun e => by have := hob _ e.symm; omega); have hl1_7 := bl1_7.lt; have zc1_7 := bl1_7.cell; have fz1_7 := bl1_7.frozen; have bl3_7 : BL w7 (w1.heap.size + 1 + 1) (.cells #[.int .i64 33, .string ⟨#[]⟩, .int .i64 0, .int .i64 (tok C.ts k).pos, .string ⟨#[]⟩, .int .i64 0, .slice (some ⟨w1.heap.size + 1, 0, none⟩) 1 1] 24) := BL.own (bw2 (by go_wf)) hgA (fun e => by have := hob _ e.symm; omega); have hl3_7 := bl3_7.lt; have zc3_7 := bl3_7.cell; have fz3_7 := bl3_7.frozen; clear p6 hgA hob; have nz0 : ¬ C.b = w7.heap.size := (by omega); have ny0 : ¬ w7.heap.size = C.b := (by omega); have nz1 : ¬ w.heap.size + 1 = w7.heap.size := (by omega); have ny1 : ¬ w7.heap.size = w.heap.size + 1 := (by omega); have nz2 : ¬ w1.heap.size + 1 + 1 = w7.heap.size := (by omega); have ny2 : ¬ w7.heap.size = w1.heap.size + 1 + 1 := (by omega)) | (go_simp; go_at_call 94; refine (ih.at.expr h (k + 1) _ (pw1 (pw3 (pw3 (by go_wf) ok (by simp <;> omega)) ok (by simp <;> omega))) (fun hx => unhide HO ((unhide HR).symm.trans (by simp only [fActing, ub, eq_true (unhide H3), eq_true hs2, eq_false c0, eq_false c4, eq_false c2, eq_true csend, hx])))).mono ?_; rintro e w6 hp; rcases hp with ⟨kd6, tx6, nm6, ps6, kids6, s6, k6, ao6, cp6, hq, rfl, hrow, p6, hg⟩ | ⟨pb, rule, hq, rfl, hg⟩; rotate_left; (exact ⟨rfl, apost_bad (by rw [← unhide HR]; simp only [fActing, ub, eq_true (unhide H3), eq_true hs2, eq_false c0, eq_false c4, eq_false c2, eq_true csend, hq]) (grown_trans (gw1 (gw3 (gw3 (by go_wf) (by simp <;> omega)) (by simp <;> omega))) hg)⟩); have hz6 := hg.size; (try simp at hz6); have G6 : w.grownBy w6 (some C.b) := grown_trans (gw1 (gw3 (gw3 (by go_wf) (by simp <;> omega)) (by simp <;> omega))) hg; replace rowa := RowI.ag rowa (Ag.grown (aw1 (aw4 (aw4 aw0 (by simp <;> omega)) (by simp <;> omega))) hg (by simp <;> omega) (by omega)) (Nat.le_refl _) (Nat.le_refl _); have bl0_6 : BL w6 (w.heap.size) (.cells #[.int .i64 kd, .string ⟨tx.toArray⟩, .int .i64 nm, .int .i64 ps, .string ⟨#[]⟩, .int .i64 0, .slice ao kids.length cp] 24) := BL.grown (bw1 (bw3 (bw3 (by go_wf) (by omega)) (by omega))) hg (by omega); have hl0_6 := bl0_6.lt; have zc0_6 := bl0_6.cell; have fz0_6 := bl0_6.frozen; have bl1_6 : BL w6 (w.heap.size + 1) (nd0) := BL.grown (bw1 (bw3 (bw3 (by go_wf) (by omega)) (by omega))) hg (by omega); have hl1_6 := bl1_6.lt; have zc1_6 := bl1_6.cell; have fz1_6 := bl1_6.frozen; have bl2_6 : BL w6 (w1.heap.size + 1) (.cells #[.int .i64 kd, .string ⟨tx.toArray⟩, .int .i64 nm, .int .i64 ps, .string ⟨#[]⟩, .int .i64 0, .slice ao kids.length cp] 24) := BL.grown (bw1 (bw3 (bw3 (by go_wf) (by omega)) (by omega))) hg (by omega); have hl2_6 := bl2_6.lt; have zc2_6 := bl2_6.cell; have fz2_6 := bl2_6.frozen; have bl3_6 : BL w6 (w1.heap.size + 1 + 1) (.cells #[.int .i64 33, .string ⟨#[]⟩, .int .i64 0, .int .i64 (tok C.ts k).pos, .string ⟨#[]⟩, .int .i64 0, .slice (some ⟨w1.heap.size + 1, 0, none⟩) 1 1] 24) := BL.grown (bw1 (by apply BL.put01 (by go_wf); rfl)) hg (by omega); have hl3_6 := bl3_6.lt; have zc3_6 := bl3_6.cell; have fz3_6 := bl3_6.frozen; clear bl0_5; clear bl1_5; clear bl2_5; clear bl3_5 zc3_5 fz3_5; clear p5; obtain ⟨lo6, hlo6, row6⟩ := hrow.named; (try simp at hlo6); have HQ6 := hide hq; clear hrow hq; clear hg; have ne34 : ¬ C.b = w6.heap.size := (by omega); have nf34 : ¬ w6.heap.size = C.b := (by omega); have ne35 : ¬ w.heap.size = w6.heap.size := (by omega); have nf35 : ¬ w6.heap.size = w.heap.size := (by omega); have ne36 : ¬ w.heap.size + 1 = w6.heap.size := (by omega); have nf36 : ¬ w6.heap.size = w.heap.size + 1 := (by omega); have ne37 : ¬ w1.heap.size + 1 = w6.heap.size := (by omega); have nf37 : ¬ w6.heap.size = w1.heap.size + 1 := (by omega); have ne38 : ¬ w1.heap.size + 1 + 1 = w6.heap.size := (by omega); have nf38 : ¬ w6.heap.size = w1.heap.size + 1 + 1 := (by omega)))
 all_goals
  go_wp2
  refine bodyPost_ret (v := .tuple #[.agg #[.int .i64 33, .string ⟨#[]⟩, .int .i64 0, .int .i64 (tok C.ts k).pos, .string ⟨#[]⟩, .int .i64 0, .slice (some ⟨g7, 0, none⟩) (([.mk kd tx nm ps kids] : List Tree).length + 1) cp7], .bool true]) (by simp [results, Tryz.results100, go_sem, *]) rfl (apost_ok (hi := (World.heap _).size)  (k' := k6) (tx := []) (kids := [.mk kd tx nm ps kids, .mk kd6 tx6 nm6 ps6 kids6])  (by rw [← unhide HR]; simp only [fActing, ub, eq_true (unhide H3), eq_true hs2, eq_false c0, eq_false c4, eq_false c2, eq_true csend, unhide HQ6]) (hrw7 _ (by simp <;> omega) (Ag.one (by (repeat (first | with_reducible exact Ag.refl _ _ _ | with_reducible refine Ag.drew ?_ | with_reducible refine Ag.alloc ?_ _ (by first | (simp <;> omega) | omega) | with_reducible refine Ag.set ?_ _ (by first | (left; simp <;> omega) | (left; omega) | (right; simp <;> omega) | (right; omega) | (dsimp only; omega)))))) (aw8 (aw4 aw0 (by simp <;> omega)) (by first | omega | (simp <;> omega))) (aw7 (aw4 aw0 (by simp <;> omega)) (by first | omega | (simp <;> omega))) (aw7 (aw3 aw0 (by simp <;> omega)) (by first | omega | (simp <;> omega)))) (by omega) ?_ ?_)
  ·exact pw7 (pw3 (by go_wf) ok (by simp <;> omega)) ok (by first | omega | (simp <;> omega))
  ·exact gw7 (gw3 (by go_wf) (by simp <;> omega)) (by first | omega | (simp <;> omega))
open Go.RowKit Lx Px
set_option maxHeartbeats 4000000 in
theorem acting_4T_w (C : Ctx) (ok : C.Ok) (n : Nat) (ih : All C n) (kd : Int) (tx : List UInt8) (nm ps : Int) (kids : List Tree) (s : Int) (ao : Option Addr) (cp : Nat) : ∀ (h : Bool) (k : Nat) (w : World) (lo hi : Nat), PS w C k h → C.b < lo → hi ≤ w.heap.size → lo ≤ w.heap.size → RowI w lo hi (.slice ao kids.length cp) kids → (h3 : ¬ s = 3) → (h4 : s = 4) → (c4 : ¬ isS C.ts k [[61], [43, 61], [45, 61], [42, 61]] = true) → (c2 : isS C.ts k [[43, 43], [45, 45]] = true) → run C.ts (n + 1) (.acting (.mk kd tx nm ps kids) s) h k ≠ .out → Calls Tryz.prog 100 #[.pointer (some ⟨C.b, 0, none⟩), .agg #[.int .i64 kd, .string ⟨tx.toArray⟩, .int .i64 nm, .int .i64 ps, .string ⟨#[]⟩, .int .i64 0, .slice ao kids.length cp], .int .i64 s] w (APost C lo (run C.ts (n + 1) (.acting (.mk kd tx nm ps kids) s) h k) h w) := by
 intro h k w lo hi p hblo hhi hlow rowa h3 h4 c4 c2 hout
 have hr : run C.ts (n + 1) (.acting (.mk kd tx nm ps kids) s) h k = fActing C.ts (run C.ts n) (.mk kd tx nm ps kids) s h k := rfl
 rw [hr] at hout ⊢
 clear hr
 generalize hR : fActing C.ts (run C.ts n) (.mk kd tx nm ps kids) s h k = r0 at hout ⊢
 have hbl := p.lt
 have G0 := grown_refl w (some C.b)
 have HR := hide hR
 clear hR
 clear hout
 have b3 : (s == 3) = false := by simp [h3]
 have b4 : (s == 4) = true := by simp [h4]
 have hs2 : 2 ≤ s := by omega
 have H4 := hide h4
 clear h4
 go_enter Tryz.func100, Tryz.ntmps100
 go_wp2_with fail
 refine (token_any C ok k h _ (pw2 (pw2 (by go_wf)))).mono ?_
 rintro e w1 ⟨rfl, hgq⟩
 have p1 := PS.quiet (C := C) (k := k) (h := h) (pw2 (pw2 (by go_wf))) hgq
 have hg := grown_any (r := some C.b) hgq
 clear hgq
 have hz1 := hg.size
 (try simp at hz1)
 have G1 : w.grownBy w1 (some C.b) := grown_trans (gw2 (gw2 (by go_wf))) hg
 replace rowa := RowI.ag rowa (Ag.grown (aw2 (aw2 aw0 (by omega)) (by simp <;> omega)) hg (by simp <;> omega) (by omega)) (Nat.le_refl _) (Nat.le_refl _)
 have bl0_1 : BL w1 (w.heap.size) (nqC kd ⟨tx.toArray⟩ nm ps ao kids.length cp) := BL.grown (bw2 (bw0 (by omega))) hg (by omega)
 have hl0_1 := bl0_1.lt
 have zc0_1 := bl0_1.cell
 have bl1_1 : BL w1 (w.heap.size + 1) (nd0) := BL.grown (bw0 (by simp <;> omega)) hg (by omega)
 clear hg
 have nf2 : ¬ w.heap.size + 1 = C.b := by omega
 go_wp2_with fail
 refine (isL C ok k h _ (w1.heap.size + 3) [[61], [43, 61], [45, 61], [42, 61]] (by decide) (pw2 (pw2 (pw2 (by go_wf)))) (by simp)).mono ?_
 rintro e w2 ⟨rfl, hgq⟩
 have p2 := PS.quiet (C := C) (k := k) (h := h) (pw2 (pw2 (pw2 (by go_wf)))) hgq
 have hg := grown_any (r := some C.b) hgq
 clear hgq
 have G2 : w.grownBy w2 (some C.b) := grown_trans (gw2 (gw2 (gw2 (by go_wf)))) hg
 replace rowa := RowI.ag rowa (Ag.grown (aw2 (aw2 (aw2 aw0 (by omega)) (by simp <;> omega)) (by simp <;> omega)) hg (by simp <;> omega) (by omega)) (Nat.le_refl _) (Nat.le_refl _)
 have bl1_2 : BL w2 (w.heap.size + 1) (nd0) := BL.grown (bw2 (bw2 (bw2 (by go_wf)))) hg (by omega)
 have hl1_2 := bl1_2.lt
 have bl2_2 : BL w2 (w1.heap.size + 1) (nqC kd ⟨tx.toArray⟩ nm ps ao kids.length cp) := BL.grown (bw2 (bw0 (by simp <;> omega))) hg (by omega)
 have bl3_2 : BL w2 (w1.heap.size + 1 + 1) (nqC 0 ⟨(tok C.ts k).text.toArray⟩ 0 (tok C.ts k).pos (some ⟨w1.heap.size + 1, 0, none⟩) 1 1) := BL.grown (bw0 (by simp <;> omega)) hg (by omega)
 clear bl0_1 zc0_1
 clear bl1_1
 clear p1
 clear hg
 have ⟨nf7, nf8, ne13, nf16⟩ : ¬ w1.heap.size + 1 = C.b ∧ ¬ w1.heap.size + 1 + 1 = C.b ∧ ¬ w.heap.size + 1 = w1.heap.size + 1 ∧ ¬ w1.heap.size + 1 + 1 = w1.heap.size + 1 := by omega
 go_wp2_with fail
 refine (isL C ok k h _ w2.heap.size [[43, 43], [45, 45]] (by decide) (by go_wf) (by simp)).mono ?_
 rintro e w3 ⟨rfl, hgq⟩
 have p3 := PS.quiet (C := C) (k := k) (h := h) (by go_wf) hgq
 have hg := grown_any (r := some C.b) hgq
 clear hgq
 have G3 : w.grownBy w3 (some C.b) := grown_trans (by go_wf) hg
 replace rowa := RowI.ag rowa (Ag.grown aw0 hg (by omega) (by omega)) (Nat.le_refl _) (Nat.le_refl _)
 have bl1_3 : BL w3 (w.heap.size + 1) (nd0) := BL.grown (by go_wf) hg (by omega)
 have hl1_3 := bl1_3.lt
 have bl2_3 : BL w3 (w1.heap.size + 1) (nqC kd ⟨tx.toArray⟩ nm ps ao kids.length cp) := BL.grown (by go_wf) hg (by omega)
 have bl3_3 : BL w3 (w1.heap.size + 1 + 1) (nqC 0 ⟨(tok C.ts k).text.toArray⟩ 0 (tok C.ts k).pos (some ⟨w1.heap.size + 1, 0, none⟩) 1 1) := BL.grown (by go_wf) hg (by omega)
 clear bl1_2
 clear bl2_2
 clear bl3_2
 clear p2
 clear hg
 go_wp2_with fail
 refine (take_any C ok k h _ (by go_wf) (isS_ne c2)).mono ?_
 rintro e w4 ⟨rfl, p4, hg⟩
 have G4 : w.grownBy w4 (some C.b) := grown_trans (by go_wf) hg
 replace rowa := RowI.ag rowa (Ag.grown aw0 hg (by omega) (by omega)) (Nat.le_refl _) (Nat.le_refl _)
 have bl1_4 : BL w4 (w.heap.size + 1) (nd0) := BL.grown (by go_wf) hg (by omega)
 have hl1_4 := bl1_4.lt
 have zc1_4 := bl1_4.cell
 have fz1_4 := bl1_4.frozen
 have bl2_4 : BL w4 (w1.heap.size + 1) (nqC kd ⟨tx.toArray⟩ nm ps ao kids.length cp) := BL.grown (by go_wf) hg (by omega)
 have bl3_4 : BL w4 (w1.heap.size + 1 + 1) (nqC 0 ⟨(tok C.ts k).text.toArray⟩ 0 (tok C.ts k).pos (some ⟨w1.heap.size + 1, 0, none⟩) 1 1) := BL.grown (by go_wf) hg (by omega)
 have hl3_4 := bl3_4.lt
 have zc3_4 := bl3_4.cell
 have fz3_4 := bl3_4.frozen
 clear bl1_3
 clear bl2_3
 clear bl3_3
 clear p3
 clear hg
 go_wp2
 refine bodyPost_ret (v := .tuple #[.agg #[.int .i64 20, .string ⟨(tok C.ts k).text.toArray⟩, .int .i64 0, .int .i64 (tok C.ts k).pos, .string ⟨#[]⟩, .int .i64 0, .slice (some ⟨w1.heap.size + 1, 0, none⟩) 1 1], .bool true]) (by simp [results, Tryz.results100, go_sem, *]) rfl (apost_ok (hi := w4.heap.size)  (k' := k + 1) (tx := (tok C.ts k).text) (kids := [.mk kd tx nm ps kids])  (by rw [← unhide HR]; simp only [fActing, ub, eq_false h3, eq_true (unhide H4), eq_true hs2, eq_false c4, eq_true c2]) (RowJ.toI (z := w4.heap.size) (rowJ1 (kd := kd) (tx := tx) (nm := nm) (ps := ps) (cur := #[.int .i64 kd, .string ⟨tx.toArray⟩, .int .i64 nm, .int .i64 ps, .string ⟨#[]⟩, .int .i64 0, .slice ao kids.length cp]) (bw7 (bw3 (by go_wf) (by omega)) (by first | omega | (simp <;> omega))) (rowa.ag (aw8 (aw4 aw0 (by simp <;> omega)) (by first | omega | (simp <;> omega))) (Nat.le_refl _) (Nat.le_refl _)) rfl (by omega) (by omega)) (by omega) (by omega) (by omega)) (by simp <;> omega) ?_ ?_)
 ·exact pw7 (pw3 (by go_wf) ok (by simp <;> omega)) ok (by first | omega | (simp <;> omega))
 ·exact gw7 (gw3 (by go_wf) (by simp <;> omega)) (by first | omega | (simp <;> omega))
set_option maxHeartbeats 4000000 in
theorem acting_4S_w (C : Ctx) (ok : C.Ok) (n : Nat) (ih : All C n) (kd : Int) (tx : List UInt8) (nm ps : Int) (kids : List Tree) (s : Int) (ao : Option Addr) (cp : Nat) : ∀ (h : Bool) (k : Nat) (w : World) (lo hi : Nat), PS w C k h → C.b < lo → hi ≤ w.heap.size → lo ≤ w.heap.size → RowI w lo hi (.slice ao kids.length cp) kids → (h3 : ¬ s = 3) → (h4 : s = 4) → (c4 : ¬ isS C.ts k [[61], [43, 61], [45, 61], [42, 61]] = true) → (c2 : ¬ isS C.ts k [[43, 43], [45, 45]] = true) → (csend : isS C.ts k [[60, 45]] = true) → run C.ts (n + 1) (.acting (.mk kd tx nm ps kids) s) h k ≠ .out → Calls Tryz.prog 100 #[.pointer (some ⟨C.b, 0, none⟩), .agg #[.int .i64 kd, .string ⟨tx.toArray⟩, .int .i64 nm, .int .i64 ps, .string ⟨#[]⟩, .int .i64 0, .slice ao kids.length cp], .int .i64 s] w (APost C lo (run C.ts (n + 1) (.acting (.mk kd tx nm ps kids) s) h k) h w) := by
 intro h k w lo hi p hblo hhi hlow rowa h3 h4 c4 c2 csend hout
 have hr : run C.ts (n + 1) (.acting (.mk kd tx nm ps kids) s) h k = fActing C.ts (run C.ts n) (.mk kd tx nm ps kids) s h k := rfl
 rw [hr] at hout ⊢
 clear hr
 generalize hR : fActing C.ts (run C.ts n) (.mk kd tx nm ps kids) s h k = r0 at hout ⊢
 have hbl := p.lt
 have htb := ok.lt
 have htf0 := tokF0
 have htf1 := tokF1
 have htf3 := tokF3
 have hmf := hmfL
 have G0 := grown_refl w (some C.b)
 have HR := hide hR
 clear hR
 have HO := hide hout
 clear hout
 have b3 : (s == 3) = false := by simp [h3]
 have b4 : (s == 4) = true := by simp [h4]
 have hs2 : 2 ≤ s := by omega
 have H4 := hide h4
 clear h4
 go_enter Tryz.func100, Tryz.ntmps100
 go_wp2_with fail
 refine (token_any C ok k h _ (pw2 (pw2 (by go_wf)))).mono ?_
 rintro e w1 ⟨rfl, hgq⟩
 have p1 := PS.quiet (C := C) (k := k) (h := h) (pw2 (pw2 (by go_wf))) hgq
 have hg := grown_any (r := some C.b) hgq
 clear hgq
 have hz1 := hg.size
 (try simp at hz1)
 have G1 : w.grownBy w1 (some C.b) := grown_trans (gw2 (gw2 (by go_wf))) hg
 replace rowa := RowI.ag rowa (Ag.grown (aw2 (aw2 aw0 (by omega)) (by simp <;> omega)) hg (by simp <;> omega) (by omega)) (Nat.le_refl _) (Nat.le_refl _)
 have bl0_1 : BL w1 (w.heap.size) (nqC kd ⟨tx.toArray⟩ nm ps ao kids.length cp) := BL.grown (bw2 (bw0 (by omega))) hg (by omega)
 have hl0_1 := bl0_1.lt
 have zc0_1 := bl0_1.cell
 have bl1_1 : BL w1 (w.heap.size + 1) (nd0) := BL.grown (bw0 (by simp <;> omega)) hg (by omega)
 have hl1_1 := bl1_1.lt
 clear hg
 have ⟨⟨ne1, nf1⟩, ⟨ne2, nf2⟩, ⟨ne3, nf3⟩, ⟨ne4, nf4⟩, ⟨ne5, nf5⟩, ⟨ne6, nf6⟩⟩ : NN C.b w.heap.size ∧ NN C.b (w.heap.size + 1) ∧ NN C.b w1.heap.size ∧ NN w.heap.size (w.heap.size + 1) ∧ NN w.heap.size w1.heap.size ∧ NN (w.heap.size + 1) w1.heap.size := by omega
 go_wp2_with fail
 refine (isL C ok k h _ (w1.heap.size + 3) [[61], [43, 61], [45, 61], [42, 61]] (by decide) (pw2 (pw2 (pw2 (by go_wf)))) (by simp)).mono ?_
 rintro e w2 ⟨rfl, hgq⟩
 have p2 := PS.quiet (C := C) (k := k) (h := h) (pw2 (pw2 (pw2 (by go_wf)))) hgq
 have hg := grown_any (r := some C.b) hgq
 clear hgq
 have hz2 := hg.size
 (try simp at hz2)
 have G2 : w.grownBy w2 (some C.b) := grown_trans (gw2 (gw2 (gw2 (by go_wf)))) hg
 replace rowa := RowI.ag rowa (Ag.grown (aw2 (aw2 (aw2 aw0 (by omega)) (by simp <;> omega)) (by simp <;> omega)) hg (by simp <;> omega) (by omega)) (Nat.le_refl _) (Nat.le_refl _)
 have bl0_2 : BL w2 (w.heap.size) (nqC kd ⟨tx.toArray⟩ nm ps ao kids.length cp) := BL.grown (bw2 (bw2 (bw2 (by go_wf)))) hg (by omega)
 have hl0_2 := bl0_2.lt
 have bl1_2 : BL w2 (w.heap.size + 1) (nd0) := BL.grown (bw2 (bw2 (bw2 (by go_wf)))) hg (by omega)
 have hl1_2 := bl1_2.lt
 have bl2_2 : BL w2 (w1.heap.size + 1) (nqC kd ⟨tx.toArray⟩ nm ps ao kids.length cp) := BL.grown (bw2 (bw0 (by simp <;> omega))) hg (by omega)
 have hl2_2 := bl2_2.lt
 have bl3_2 : BL w2 (w1.heap.size + 1 + 1) (nqC 0 ⟨(tok C.ts k).text.toArray⟩ 0 (tok C.ts k).pos (some ⟨w1.heap.size + 1, 0, none⟩) 1 1) := BL.grown (bw0 (by simp <;> omega)) hg (by omega)
 have hl3_2 := bl3_2.lt
 clear bl0_1 zc0_1
 clear bl1_1
 clear p1
 clear hg
 have ⟨⟨ne7, nf7⟩, ⟨ne8, nf8⟩, ⟨ne9, nf9⟩, ⟨ne10, nf10⟩, ⟨ne11, nf11⟩, ⟨ne12, nf12⟩, ⟨ne13, nf13⟩, ⟨ne14, nf14⟩, ⟨ne15, nf15⟩, ⟨ne16, nf16⟩, ⟨ne17, nf17⟩, ⟨ne18, nf18⟩⟩ : NN C.b (w1.heap.size + 1) ∧ NN C.b (w1.heap.size + 1 + 1) ∧ NN C.b w2.heap.size ∧ NN w.heap.size (w1.heap.size + 1) ∧ NN w.heap.size (w1.heap.size + 1 + 1) ∧ NN w.heap.size w2.heap.size ∧ NN (w.heap.size + 1) (w1.heap.size + 1) ∧ NN (w.heap.size + 1) (w1.heap.size + 1 + 1) ∧ NN (w.heap.size + 1) w2.heap.size ∧ NN (w1.heap.size + 1) (w1.heap.size + 1 + 1) ∧ NN (w1.heap.size + 1) w2.heap.size ∧ NN (w1.heap.size + 1 + 1) w2.heap.size := by omega
 go_wp2_with fail
 refine (isL C ok k h _ w2.heap.size [[43, 43], [45, 45]] (by decide) (by go_wf) (by simp)).mono ?_
 rintro e w3 ⟨rfl, hgq⟩
 have p3 := PS.quiet (C := C) (k := k) (h := h) (by go_wf) hgq
 have hg := grown_any (r := some C.b) hgq
 clear hgq
 have hz3 := hg.size
 (try simp at hz3)
 have G3 : w.grownBy w3 (some C.b) := grown_trans (by go_wf) hg
 replace rowa := RowI.ag rowa (Ag.grown aw0 hg (by omega) (by omega)) (Nat.le_refl _) (Nat.le_refl _)
 have bl0_3 : BL w3 (w.heap.size) (nqC kd ⟨tx.toArray⟩ nm ps ao kids.length cp) := BL.grown (by go_wf) hg (by omega)
 have hl0_3 := bl0_3.lt
 have bl1_3 : BL w3 (w.heap.size + 1) (nd0) := BL.grown (by go_wf) hg (by omega)
 have hl1_3 := bl1_3.lt
 have bl2_3 : BL w3 (w1.heap.size + 1) (nqC kd ⟨tx.toArray⟩ nm ps ao kids.length cp) := BL.grown (by go_wf) hg (by omega)
 have hl2_3 := bl2_3.lt
 have bl3_3 : BL w3 (w1.heap.size + 1 + 1) (nqC 0 ⟨(tok C.ts k).text.toArray⟩ 0 (tok C.ts k).pos (some ⟨w1.heap.size + 1, 0, none⟩) 1 1) := BL.grown (by go_wf) hg (by omega)
 have hl3_3 := bl3_3.lt
 clear bl0_2
 clear bl1_2
 clear bl2_2
 clear bl3_2
 clear p2
 clear hg
 have ⟨⟨ne19, nf19⟩, ⟨ne20, nf20⟩, ⟨ne21, nf21⟩, ⟨ne22, nf22⟩, ⟨ne23, nf23⟩⟩ : NN C.b w3.heap.size ∧ NN w.heap.size w3.heap.size ∧ NN (w.heap.size + 1) w3.heap.size ∧ NN (w1.heap.size + 1) w3.heap.size ∧ NN (w1.heap.size + 1 + 1) w3.heap.size := by omega
 go_wp2_with fail
 refine (skip_yes C ok k h _ [60, 45] (by go_wf) csend).mono ?_
 rintro e w4 ⟨rfl, p4, hg⟩
 have hz4 := hg.size
 (try simp at hz4)
 have G4 : w.grownBy w4 (some C.b) := grown_trans (by go_wf) hg
 replace rowa := RowI.ag rowa (Ag.grown aw0 hg (by omega) (by omega)) (Nat.le_refl _) (Nat.le_refl _)
 have bl0_4 : BL w4 (w.heap.size) (nqC kd ⟨tx.toArray⟩ nm ps ao kids.length cp) := BL.grown (by go_wf) hg (by omega)
 have hl0_4 := bl0_4.lt
 have bl1_4 : BL w4 (w.heap.size + 1) (nd0) := BL.grown (by go_wf) hg (by omega)
 have hl1_4 := bl1_4.lt
 have bl2_4 : BL w4 (w1.heap.size + 1) (nqC kd ⟨tx.toArray⟩ nm ps ao kids.length cp) := BL.grown (by go_wf) hg (by omega)
 have hl2_4 := bl2_4.lt
 have bl3_4 : BL w4 (w1.heap.size + 1 + 1) (nqC 0 ⟨(tok C.ts k).text.toArray⟩ 0 (tok C.ts k).pos (some ⟨w1.heap.size + 1, 0, none⟩) 1 1) := BL.grown (by go_wf) hg (by omega)
 have hl3_4 := bl3_4.lt
 have zc3_4 := bl3_4.cell
 have fz3_4 := bl3_4.frozen
 clear bl0_3
 clear bl1_3
 clear bl2_3
 clear bl3_3
 clear p3
 clear hg
 have ⟨⟨ne24, nf24⟩, ⟨ne25, nf25⟩, ⟨ne26, nf26⟩, ⟨ne27, nf27⟩, ⟨ne28, nf28⟩⟩ : NN C.b w4.heap.size ∧ NN w.heap.size w4.heap.size ∧ NN (w.heap.size + 1) w4.heap.size ∧ NN (w1.heap.size + 1) w4.heap.size ∧ NN (w1.heap.size + 1 + 1) w4.heap.size := by omega
 go_wp2
 go_region_law (first | (refine step_appJ rfl (.tmp 79) (.tmp 82) rfl (lo := lo) (hi := hi) (p := w1.heap.size + 1) (q := w1.heap.size + 1 + 1) (ao := some ⟨w1.heap.size + 1, 0, none⟩) (cp := 1) (l := [.mk kd tx nm ps kids]) (t := .mk kd5 tx5 nm5 ps5 kids5) (A := lo5) (B := w5.heap.size) (g0 := w5.heap.size) (cur := #[.int .i64 kd5, .string ⟨tx5.toArray⟩, .int .i64 nm5, .int .i64 ps5, .string ⟨#[]⟩, .int .i64 0, .slice ao5 kids5.length cp5]) (by simp [Act.eval]) (rowJ1 (kd := kd) (tx := tx) (nm := nm) (ps := ps) (cur := #[.int .i64 kd, .string ⟨tx.toArray⟩, .int .i64 nm, .int .i64 ps, .string ⟨#[]⟩, .int .i64 0, .slice ao kids.length cp]) (bw2 (by go_wf)) (rowa.ag (aw2 aw0 (by omega)) (Nat.le_refl _) (Nat.le_refl _)) rfl (by omega) (by omega)) (by simp [Act.eval]) (bw0 (by omega)) ((Nd.mk (kd := kd5) (tx := tx5) (nm := nm5) (ps := ps5) row5).ag (aw2 aw0 (by simp <;> omega))) rfl one7 (by simp) (by simp <;> omega) (by simp <;> omega) (by omega) (by simp <;> omega) (by omega) (by simp <;> omega) (by omega) (by omega) ?_; intro g6 cp6 w6 hrw6 hgA hat6 hgl6; have hob : ∀ x, (Value.slice (some ⟨w1.heap.size + 1, 0, none⟩) ([.mk kd tx nm ps kids] : List Tree).length 1).ownBlock = some x → x = w1.heap.size + 1 := (fun x hx => by simp only [Value.ownBlock, Option.some.injEq] at hx; omega); have hz6 := hgA.size; (try simp at hz6); have hat : (lo ≤ g6 ∧ g6 < hi) ∨ (w1.heap.size + 1 ≤ g6 ∧ g6 < w1.heap.size + 1 + 1) ∨ g6 = w5.heap.size + 1 := (by rcases hat6 with (e | e) | e; exact Or.inl e; exact Or.inr (Or.inl e); exact Or.inr (Or.inr (by simpa using e))); have G6 : w.grownBy w6 (some C.b) := grown_own (gw2 (by go_wf)) hgA (fun x hx => by have := hob x hx; omega); have p6 := PS.own (C := C) (k := k5) (h := h) (pw2 (by go_wf)) ok hgA (fun x hx => by have := hob x hx; omega); replace rowa := RowI.ag rowa (Ag.own (aw2 aw0 (by omega)) hgA (by simp <;> omega) (fun x hx => by have := hob x hx; omega)) (Nat.le_refl _) (Nat.le_refl _); have bl1_6 : BL w6 (w.heap.size + 1) (nd0) := BL.own (bw2 (by go_wf)) hgA (fun e => by have := hob _ e.symm; omega); have hl1_6 := bl1_6.lt; have zc1_6 := bl1_6.cell; have fz1_6 := bl1_6.frozen; have bl3_6 : BL w6 (w1.heap.size + 1 + 1) (.cells #[.int .i64 33, .string ⟨#[]⟩, .int .i64 0, .int .i64 (tok C.ts k).pos, .string ⟨#[]⟩, .int .i64 0, .slice (some ⟨w1.heap.size + 1, 0, none⟩) 1 1] 24) := BL.own (bw2 (by go_wf)) hgA (fun e => by have := hob _ e.symm; omega); have hl3_6 := bl3_6.lt; have zc3_6 := bl3_6.cell; have fz3_6 := bl3_6.frozen; clear p5 hgA hob; have nz0 : ¬ C.b = w6.heap.size := (by omega); have ny0 : ¬ w6.heap.size = C.b := (by omega); have nz1 : ¬ w.heap.size + 1 = w6.heap.size := (by omega); have ny1 : ¬ w6.heap.size = w.heap.size + 1 := (by omega); have nz2 : ¬ w1.heap.size + 1 + 1 = w6.heap.size := (by omega); have ny2 : ¬ w6.heap.size = w1.heap.size + 1 + 1 := (by omega)) | (go_simp; go_at_call 94; refine (ih.at.expr h (k + 1) _ (pw1 (pw3 (pw3 (by go_wf) ok (by simp <;> omega)) ok (by simp <;> omega))) (fun hx => unhide HO ((unhide HR).symm.trans (by simp only [fActing, ub, eq_false h3, eq_true (unhide H4), eq_true hs2, eq_false c4, eq_false c2, eq_true csend, hx])))).mono ?_; rintro e w5 hp; rcases hp with ⟨kd5, tx5, nm5, ps5, kids5, s5, k5, ao5, cp5, hq, rfl, hrow, p5, hg⟩ | ⟨pb, rule, hq, rfl, hg⟩; rotate_left; (exact ⟨rfl, apost_bad (by rw [← unhide HR]; simp only [fActing, ub, eq_false h3, eq_true (unhide H4), eq_true hs2, eq_false c4, eq_false c2, eq_true csend, hq]) (grown_trans (gw1 (gw3 (gw3 (by go_wf) (by simp <;> omega)) (by simp <;> omega))) hg)⟩); have hz5 := hg.size; (try simp at hz5); have G5 : w.grownBy w5 (some C.b) := grown_trans (gw1 (gw3 (gw3 (by go_wf) (by simp <;> omega)) (by simp <;> omega))) hg; replace rowa := RowI.ag rowa (Ag.grown (aw1 (aw4 (aw4 aw0 (by simp <;> omega)) (by simp <;> omega))) hg (by simp <;> omega) (by omega)) (Nat.le_refl _) (Nat.le_refl _); have bl0_5 : BL w5 (w.heap.size) (.cells #[.int .i64 kd, .string ⟨tx.toArray⟩, .int .i64 nm, .int .i64 ps, .string ⟨#[]⟩, .int .i64 0, .slice ao kids.length cp] 24) := BL.grown (bw1 (bw3 (bw3 (by go_wf) (by omega)) (by omega))) hg (by omega); have hl0_5 := bl0_5.lt; have zc0_5 := bl0_5.cell; have fz0_5 := bl0_5.frozen; have bl1_5 : BL w5 (w.heap.size + 1) (nd0) := BL.grown (bw1 (bw3 (bw3 (by go_wf) (by omega)) (by omega))) hg (by omega); have hl1_5 := bl1_5.lt; have zc1_5 := bl1_5.cell; have fz1_5 := bl1_5.frozen; have bl2_5 : BL w5 (w1.heap.size + 1) (.cells #[.int .i64 kd, .string ⟨tx.toArray⟩, .int .i64 nm, .int .i64 ps, .string ⟨#[]⟩, .int .i64 0, .slice ao kids.length cp] 24) := BL.grown (bw1 (bw3 (bw3 (by go_wf) (by omega)) (by omega))) hg (by omega); have hl2_5 := bl2_5.lt; have zc2_5 := bl2_5.cell; have fz2_5 := bl2_5.frozen; have bl3_5 : BL w5 (w1.heap.size + 1 + 1) (.cells #[.int .i64 33, .string ⟨#[]⟩, .int .i64 0, .int .i64 (tok C.ts k).pos, .string ⟨#[]⟩, .int .i64 0, .slice (some ⟨w1.heap.size + 1, 0, none⟩) 1 1] 24) := BL.grown (bw1 (by apply BL.put01 (by go_wf); rfl)) hg (by omega); have hl3_5 := bl3_5.lt; have zc3_5 := bl3_5.cell; have fz3_5 := bl3_5.frozen; clear bl0_4; clear bl1_4; clear bl2_4; clear bl3_4 zc3_4 fz3_4; clear p4; obtain ⟨lo5, hlo5, row5⟩ := hrow.named; (try simp at hlo5); have HQ5 := hide hq; clear hrow hq; clear hg; have ne29 : ¬ C.b = w5.heap.size := (by omega); have nf29 : ¬ w5.heap.size = C.b := (by omega); have ne30 : ¬ w.heap.size = w5.heap.size := (by omega); have nf30 : ¬ w5.heap.size = w.heap.size := (by omega); have ne31 : ¬ w.heap.size + 1 = w5.heap.size := (by omega); have nf31 : ¬ w5.heap.size = w.heap.size + 1 := (by omega); have ne32 : ¬ w1.heap.size + 1 = w5.heap.size := (by omega); have nf32 : ¬ w5.heap.size = w1.heap.size + 1 := (by omega); have ne33 : ¬ w1.heap.size + 1 + 1 = w5.heap.size := (by omega); have nf33 : ¬ w5.heap.size = w1.heap.size + 1 + 1 := (by omega)))
 all_goals
  go_wp2
  refine bodyPost_ret (v := .tuple #[.agg #[.int .i64 33, .string ⟨#[]⟩, .int .i64 0, .int .i64 (tok C.ts k).pos, .string ⟨#[]⟩, .int .i64 0, .slice (some ⟨g6, 0, none⟩) (([.mk kd tx nm ps kids] : List Tree).length + 1) cp6], .bool true]) (by simp [results, Tryz.results100, go_sem, *]) rfl (apost_ok (hi := (World.heap _).size)  (k' := k5) (tx := []) (kids := [.mk kd tx nm ps kids, .mk kd5 tx5 nm5 ps5 kids5])  (by rw [← unhide HR]; simp only [fActing, ub, eq_false h3, eq_true (unhide H4), eq_true hs2, eq_false c4, eq_false c2, eq_true csend, unhide HQ5]) (hrw6 _ (by simp <;> omega) (Ag.one (by (repeat (first | with_reducible exact Ag.refl _ _ _ | with_reducible refine Ag.drew ?_ | with_reducible refine Ag.alloc ?_ _ (by first | (simp <;> omega) | omega) | with_reducible refine Ag.set ?_ _ (by first | (left; simp <;> omega) | (left; omega) | (right; simp <;> omega) | (right; omega) | (dsimp only; omega)))))) (aw8 (aw4 aw0 (by simp <;> omega)) (by first | omega | (simp <;> omega))) (aw7 (aw4 aw0 (by simp <;> omega)) (by first | omega | (simp <;> omega))) (aw7 (aw3 aw0 (by simp <;> omega)) (by first | omega | (simp <;> omega)))) (by omega) ?_ ?_)
  ·exact pw7 (pw3 (by go_wf) ok (by simp <;> omega)) ok (by first | omega | (simp <;> omega))
  ·exact gw7 (gw3 (by go_wf) (by simp <;> omega)) (by first | omega | (simp <;> omega))
open Go.RowKit Lx Px
set_option maxHeartbeats 800000 in
theorem selectStmt_w (C : Ctx) (ok : C.Ok) (n : Nat) (ih : All C n) : CNt C 97 .selectStmt #[.pointer (some ⟨C.b, 0, none⟩)] (n + 1) := by
 intro h k w p h6 hout
 have hr : run C.ts (n + 1) .selectStmt h k = fSelectStmt C.ts (run C.ts n) h k := rfl
 rw [hr] at hout ⊢
 clear hr
 generalize hR : fSelectStmt C.ts (run C.ts n) h k = r0 at hout ⊢
 have H6 := hide h6
 clear h6
 have hbl := p.lt
 have htf3 := tokF3
 have G0 := grown_refl w (some C.b)
 have HR := hide hR
 clear hR
 have HO := hide hout
 clear hout
 go_enter Tryz.func97, Tryz.ntmps97
 go_wp2_with fail
 refine (take_any C ok k h _ (pw2 (by go_wf)) (unhide H6)).mono ?_
 rintro e w1 ⟨rfl, p1, hg⟩
 have hz1 := hg.size
 (try simp at hz1)
 have G1 : w.grownBy w1 (some C.b) := grown_trans (gw2 (by go_wf)) hg
 have bl0_1 : BL w1 w.heap.size (nd0) := BL.grown (bw0 (by omega)) hg (by omega)
 clear hg
 have nf1 : ¬ w.heap.size = C.b := by omega
 go_wp2_with fail
 refine (ih.at.clausesT h (k + 1) _ (by go_wf) (fun hx => unhide HO ((unhide HR).symm.trans (by simp only [fSelectStmt, ub, hx])))).mono ?_
 rintro e w2 hp
 rcases hp with ⟨l2, s2, k2, ao2, cp2, hq, rfl, hrow, p2, hg⟩ | ⟨pb, rule, hq, rfl, hg⟩
 rotate_left
 (exact ⟨rfl, npost_bad (by rw [← unhide HR]; simp only [fSelectStmt, ub, hq]) (grown_trans (by go_wf) hg)⟩)
 have G2 : w.grownBy w2 (some C.b) := grown_trans (by go_wf) hg
 have bl0_2 : BL w2 w.heap.size (nd0) := BL.grown (by go_wf) hg (by omega)
 have zc0_2 := bl0_2.cell
 have fz0_2 := bl0_2.frozen
 clear bl0_1
 clear p1
 obtain ⟨lo2, hlo2, row2⟩ := hrow.named
 (try simp at hlo2)
 have HQ2 := hide hq
 clear hrow hq
 clear hg
 go_wp2
 refine bodyPost_ret (v := .agg #[.int .i64 25, .string ⟨#[]⟩, .int .i64 0, .int .i64 (tok C.ts k).pos, .string ⟨#[]⟩, .int .i64 0, .slice ao2 l2.length cp2]) (by simp [results, Tryz.results97, go_sem, *]) rfl (npost_ok (hi := w2.heap.size) (s := 0) (k' := k2) (tx := []) (kids := l2) (by rw [← unhide HR]; simp only [fSelectStmt, ub, unhide HQ2]) (row2.ag (aw7 aw0 (by first | omega | (simp <;> omega))) (by omega) (Nat.le_refl _)) (by simp <;> omega) ?_ ?_)
 ·exact pw7 (by go_wf) ok (by first | omega | (simp <;> omega))
 ·exact gw7 (by go_wf) (by first | omega | (simp <;> omega))
set_option maxHeartbeats 800000 in
theorem callStmt_w (C : Ctx) (ok : C.Ok) (n : Nat) (ih : All C n) (kd : Int) : CNt C 90 (.callStmt kd) #[.pointer (some ⟨C.b, 0, none⟩), .int .i64 kd] (n + 1) := by
 intro h k w p h6 hout
 have hr : run C.ts (n + 1) (.callStmt kd) h k = fCallStmt C.ts (run C.ts n) kd h k := rfl
 rw [hr] at hout ⊢
 clear hr
 generalize hR : fCallStmt C.ts (run C.ts n) kd h k = r0 at hout ⊢
 have H6 := hide h6
 clear h6
 have hbl := p.lt
 have htf3 := tokF3
 have G0 := grown_refl w (some C.b)
 have HR := hide hR
 clear hR
 have HO := hide hout
 clear hout
 go_enter Tryz.func90, Tryz.ntmps90
 go_wp2_with fail
 refine (take_any C ok k h _ (pw2 (by go_wf)) (unhide H6)).mono ?_
 rintro e w1 ⟨rfl, p1, hg⟩
 have hz1 := hg.size
 (try simp at hz1)
 have G1 : w.grownBy w1 (some C.b) := grown_trans (gw2 (by go_wf)) hg
 have bl0_1 : BL w1 w.heap.size (nd0) := BL.grown (bw0 (by omega)) hg (by omega)
 clear hg
 have nf1 : ¬ w.heap.size = C.b := by omega
 go_wp2_with fail
 refine (ih.at.primary h (k + 1) _ (by go_wf) (fun hx => unhide HO ((unhide HR).symm.trans (by simp only [fCallStmt, ub, hx])))).mono ?_
 rintro e w2 hp
 rcases hp with ⟨kd2, tx2, nm2, ps2, kids2, s2, k2, ao2, cp2, hq, rfl, hrow, p2, hg⟩ | ⟨pb, rule, hq, rfl, hg⟩
 rotate_left
 (exact ⟨rfl, npost_bad (by rw [← unhide HR]; simp only [fCallStmt, ub, hq]) (grown_trans (by go_wf) hg)⟩)
 have G2 : w.grownBy w2 (some C.b) := grown_trans (by go_wf) hg
 have bl0_2 : BL w2 w.heap.size (nd0) := BL.grown (by go_wf) hg (by omega)
 have hl0_2 := bl0_2.lt
 have zc0_2 := bl0_2.cell
 have fz0_2 := bl0_2.frozen
 clear bl0_1
 clear p1
 obtain ⟨lo2, hlo2, row2⟩ := hrow.named
 (try simp at hlo2)
 have HQ2 := hide hq
 clear hrow hq
 clear hg
 by_cases c5 : s2 = 5
 rotate_left
 ·skip
  have b5 : (s2 == 5) = false := by simp [c5]
  go_wp2_with fail
  refine (broken_any C ok k2 h _ ⟨#[99, 97, 108, 108]⟩ (pw2 (by go_wf))).mono ?_
  rintro e w3 ⟨rfl, hgq⟩
  have hg := grown_any (r := some C.b) hgq
  clear hgq
  have G3 : w.grownBy w3 (some C.b) := grown_trans (gw2 (by go_wf)) hg
  clear bl0_2 zc0_2 fz0_2
  clear p2
  clear hg
  go_wp2
  exact bodyPost_panic rfl (npost_bad (by rw [← unhide HR]; simp only [fCallStmt, ub, unhide HQ2, eq_false c5]) (by go_wf))
 have b5 : (s2 == 5) = true := by simp [c5]
 have C5 := hide c5
 clear c5
 go_wp2
 refine bodyPost_ret (v := .agg #[.int .i64 kd, .string ⟨#[]⟩, .int .i64 0, .int .i64 (tok C.ts k).pos, .string ⟨#[]⟩, .int .i64 0, .slice (some ⟨w2.heap.size + 1, 0, none⟩) 1 1]) (by simp [results, Tryz.results90, go_sem, *]) rfl (npost_ok (hi := w2.heap.size + 2) (s := 0) (k' := k2) (tx := []) (kids := [.mk kd2 tx2 nm2 ps2 kids2]) (by rw [← unhide HR]; simp only [fCallStmt, ub, unhide HQ2, eq_true (unhide C5)]) (rowB (cur := #[.int .i64 kd2, .string ⟨tx2.toArray⟩, .int .i64 nm2, .int .i64 ps2, .string ⟨#[]⟩, .int .i64 0, .slice ao2 kids2.length cp2]) (bw0 (by simp <;> omega)) ((Nd.mk (kd := kd2) (tx := tx2) (nm := nm2) (ps := ps2) row2).ag (aw2 (aw2 (aw7 aw0 (by first | omega | (simp <;> omega))) (by simp <;> omega)) (by simp <;> omega))) rfl (by omega) (by omega) (by omega) (by omega) (.inr (by omega))) (by simp <;> omega) ?_ ?_)
 ·exact pw2 (pw2 (pw7 (by go_wf) ok (by first | omega | (simp <;> omega))))
 ·exact gw2 (gw2 (gw7 (by go_wf) (by first | omega | (simp <;> omega))))
set_option maxHeartbeats 800000 in
theorem returnStmt_w (C : Ctx) (ok : C.Ok) (n : Nat) (ih : All C n) : CNt C 89 .returnStmt #[.pointer (some ⟨C.b, 0, none⟩)] (n + 1) := by
 intro h k w p h6 hout
 have hr : run C.ts (n + 1) .returnStmt h k = fReturnStmt C.ts (run C.ts n) h k := rfl
 rw [hr] at hout ⊢
 clear hr
 generalize hR : fReturnStmt C.ts (run C.ts n) h k = r0 at hout ⊢
 have H6 := hide h6
 clear h6
 have hbl := p.lt
 have htf3 := tokF3
 have G0 := grown_refl w (some C.b)
 have HR := hide hR
 clear hR
 have HO := hide hout
 clear hout
 go_enter Tryz.func89, Tryz.ntmps89
 go_wp2_with fail
 refine (take_any C ok k h _ (pw2 (by go_wf)) (unhide H6)).mono ?_
 rintro e w1 ⟨rfl, p1, hg⟩
 have G1 : w.grownBy w1 (some C.b) := grown_trans (gw2 (by go_wf)) hg
 have bl0_1 : BL w1 w.heap.size (nd0) := BL.grown (bw0 (by omega)) hg (by omega)
 clear hg
 have nf1 : ¬ w.heap.size = C.b := by omega
 go_wp2_with fail
 refine (none_any _).mono ?_
 rintro e w2 ⟨rfl, hgq⟩
 have p2 := PS.quiet (C := C) (k := (k + 1)) (h := h) (by go_wf) hgq
 have hg := grown_any (r := some C.b) hgq
 clear hgq
 have G2 : w.grownBy w2 (some C.b) := grown_trans (by go_wf) hg
 have bl0_2 : BL w2 w.heap.size (nd0) := BL.grown (by go_wf) hg (by omega)
 have hl0_2 := bl0_2.lt
 clear bl0_1
 clear p1
 clear hg
 have nf4 : ¬ w2.heap.size = C.b := by omega
 by_cases cb : behind C.ts (k + 1) = true
 rotate_left
 ·skip
  go_wp2_with fail
  refine (behind_any C ok (k + 1) h _ (pw2 (by go_wf))).mono ?_
  rintro e w3 ⟨rfl, hgq⟩
  have p3 := PS.quiet (C := C) (k := (k + 1)) (h := h) (pw2 (by go_wf)) hgq
  have hg := grown_any (r := some C.b) hgq
  clear hgq
  have hz3 := hg.size
  (try simp at hz3)
  have G3 : w.grownBy w3 (some C.b) := grown_trans (gw2 (by go_wf)) hg
  have bl0_3 : BL w3 w.heap.size (nd0) := BL.grown (bw2 (by go_wf)) hg (by omega)
  have hl0_3 := bl0_3.lt
  have bl1_3 : BL w3 w2.heap.size (nqC 8 ⟨#[]⟩ 0 0 none 0 0) := BL.grown (bw0 (by omega)) hg (by omega)
  clear bl0_2
  clear p2
  clear hg
  go_wp2_with fail
  refine (ih.at.expr h (k + 1) _ (by go_wf) (fun hx => unhide HO ((unhide HR).symm.trans (by simp only [fReturnStmt, ub, eq_false cb, hx])))).mono ?_
  rintro e w4 hp
  rcases hp with ⟨kd4, tx4, nm4, ps4, kids4, s4, k4, ao4, cp4, hq, rfl, hrow, p4, hg⟩ | ⟨pb, rule, hq, rfl, hg⟩
  rotate_left
  (exact ⟨rfl, npost_bad (by rw [← unhide HR]; simp only [fReturnStmt, ub, eq_false cb, hq]) (grown_trans (by go_wf) hg)⟩)
  have G4 : w.grownBy w4 (some C.b) := grown_trans (by go_wf) hg
  have bl0_4 : BL w4 w.heap.size (nd0) := BL.grown (by go_wf) hg (by omega)
  have hl0_4 := bl0_4.lt
  have zc0_4 := bl0_4.cell
  have fz0_4 := bl0_4.frozen
  have bl1_4 : BL w4 w2.heap.size (nqC 8 ⟨#[]⟩ 0 0 none 0 0) := BL.grown (by go_wf) hg (by omega)
  have zc1_4 := bl1_4.cell
  have fz1_4 := bl1_4.frozen
  clear bl0_3
  clear bl1_3
  clear p3
  obtain ⟨lo4, hlo4, row4⟩ := hrow.named
  (try simp at hlo4)
  have HQ4 := hide hq
  clear hrow hq
  clear hg
  go_wp2
  refine bodyPost_ret (v := .agg #[.int .i64 30, .string ⟨#[]⟩, .int .i64 0, .int .i64 (tok C.ts k).pos, .string ⟨#[]⟩, .int .i64 0, .slice (some ⟨w4.heap.size, 0, none⟩) 1 1]) (by simp [results, Tryz.results89, go_sem, *]) rfl (npost_ok (hi := w4.heap.size + 1) (s := 0) (k' := k4) (tx := []) (kids := [.mk kd4 tx4 nm4 ps4 kids4]) (by rw [← unhide HR]; simp only [fReturnStmt, ub, eq_false cb, unhide HQ4]) (rowB (cur := #[.int .i64 kd4, .string ⟨tx4.toArray⟩, .int .i64 nm4, .int .i64 ps4, .string ⟨#[]⟩, .int .i64 0, .slice ao4 kids4.length cp4]) (bw0 (by simp <;> omega)) ((Nd.mk (kd := kd4) (tx := tx4) (nm := nm4) (ps := ps4) row4).ag (aw2 (aw7 (aw7 aw0 (by first | omega | (simp <;> omega))) (by first | omega | (simp <;> omega))) (by simp <;> omega))) rfl (by omega) (by omega) (by omega) (by omega) (.inr (by omega))) (by simp <;> omega) ?_ ?_)
  ·exact pw2 (pw7 (pw7 (by go_wf) ok (by first | omega | (simp <;> omega))) ok (by first | omega | (simp <;> omega)))
  ·exact gw2 (gw7 (gw7 (by go_wf) (by first | omega | (simp <;> omega))) (by first | omega | (simp <;> omega)))
 go_wp2_with fail
 refine (behind_any C ok (k + 1) h _ (pw2 (by go_wf))).mono ?_
 rintro e w3 ⟨rfl, hgq⟩
 have p3 := PS.quiet (C := C) (k := (k + 1)) (h := h) (pw2 (by go_wf)) hgq
 have hg := grown_any (r := some C.b) hgq
 clear hgq
 have G3 : w.grownBy w3 (some C.b) := grown_trans (gw2 (by go_wf)) hg
 have bl0_3 : BL w3 w.heap.size (nd0) := BL.grown (bw2 (by go_wf)) hg (by omega)
 have hl0_3 := bl0_3.lt
 have zc0_3 := bl0_3.cell
 have fz0_3 := bl0_3.frozen
 have bl1_3 : BL w3 w2.heap.size (nqC 8 ⟨#[]⟩ 0 0 none 0 0) := BL.grown (bw0 (by omega)) hg (by omega)
 have zc1_3 := bl1_3.cell
 clear bl0_2
 clear p2
 clear hg
 go_wp2
 refine bodyPost_ret (v := .agg #[.int .i64 30, .string ⟨#[]⟩, .int .i64 0, .int .i64 (tok C.ts k).pos, .string ⟨#[]⟩, .int .i64 0, .slice (some ⟨w3.heap.size, 0, none⟩) 1 1]) (by simp [results, Tryz.results89, go_sem, *]) rfl (npost_ok (hi := w3.heap.size + 1) (s := 0) (k' := k + 1) (tx := []) (kids := [.mk 8 [] 0 0 []]) (by rw [← unhide HR]; simp only [fReturnStmt, ub, eq_true cb]) (rowB (cur := #[.int .i64 8, .string ⟨#[]⟩, .int .i64 0, .int .i64 0, .string ⟨#[]⟩, .int .i64 0, .slice none 0 0]) (bw0 (by simp <;> omega)) (Nd.mk (kd := 8) (tx := []) (nm := 0) (ps := 0) (RowI.nil _ w.heap.size w.heap.size)) rfl (by omega) (by omega) (by omega) (by omega) (.inr (by omega))) (by simp <;> omega) ?_ ?_)
 ·exact pw2 (pw7 (by go_wf) ok (by first | omega | (simp <;> omega)))
 ·exact gw2 (gw7 (by go_wf) (by first | omega | (simp <;> omega)))
set_option maxHeartbeats 800000 in
theorem forStmt_w (C : Ctx) (ok : C.Ok) (n : Nat) (ih : All C n) : CNt C 95 .forStmt #[.pointer (some ⟨C.b, 0, none⟩)] (n + 1) := by
 intro h k w p h6 hout
 have hr : run C.ts (n + 1) .forStmt h k = fForStmt C.ts (run C.ts n) h k := rfl
 rw [hr] at hout ⊢
 clear hr
 generalize hR : fForStmt C.ts (run C.ts n) h k = r0 at hout ⊢
 have H6 := hide h6
 clear h6
 have hbl := p.lt
 have htb := ok.lt
 have htf0 := tokF0
 have htf1 := tokF1
 have htf3 := tokF3
 have hmf := hmfL
 have G0 := grown_refl w (some C.b)
 have HR := hide hR
 clear hR
 have HO := hide hout
 clear hout
 go_enter Tryz.func95, Tryz.ntmps95
 go_wp2_with fail
 refine (take_any C ok k h _ (pw2 (by go_wf)) (unhide H6)).mono ?_
 rintro e w1 ⟨rfl, p1, hg⟩
 have hz1 := hg.size
 (try simp at hz1)
 have G1 : w.grownBy w1 (some C.b) := grown_trans (gw2 (by go_wf)) hg
 have bl0_1 : BL w1 w.heap.size (nd0) := BL.grown (bw0 (by omega)) hg (by omega)
 have hl0_1 := bl0_1.lt
 clear hg
 have ⟨⟨ne1, nf1⟩, ⟨ne2, nf2⟩, ⟨ne3, nf3⟩⟩ : NN C.b w.heap.size ∧ NN C.b w1.heap.size ∧ NN w.heap.size w1.heap.size := by omega
 go_wp2_with fail
 refine (withinL C ok 105 #[.pointer (some ⟨C.b, 0, none⟩)] #[] en103 (run C.ts n .forHead true (k + 1)) true h (k + 1) _ (by go_wf) (fun w0 _ q0 => ih.at.forHead true (k + 1) w0 q0 (fun hx => unhide HO ((unhide HR).symm.trans (by simp only [fForStmt, ub, hx]))))).mono ?_
 rintro e w2 hp
 rcases hp with ⟨l2, s2, k2, ao2, cp2, hq, rfl, hrow, p2, hg⟩ | ⟨pb, rule, hq, rfl, hg⟩
 rotate_left
 (exact ⟨rfl, npost_bad (by rw [← unhide HR]; simp only [fForStmt, ub, hq]) (grown_trans (by go_wf) hg)⟩)
 have hz2 := hg.size
 (try simp at hz2)
 have G2 : w.grownBy w2 (some C.b) := grown_trans (by go_wf) hg
 have bl0_2 : BL w2 w.heap.size (nd0) := BL.grown (by go_wf) hg (by omega)
 have hl0_2 := bl0_2.lt
 clear bl0_1
 clear p1
 obtain ⟨lo2, hlo2, row2⟩ := hrow.named
 (try simp at hlo2)
 have HQ2 := hide hq
 clear hrow hq
 clear hg
 have ⟨⟨ne4, nf4⟩, ⟨ne5, nf5⟩⟩ : NN C.b w2.heap.size ∧ NN w.heap.size w2.heap.size := by omega
 go_wp2_with fail
 refine (ih.at.block h k2 _ (by go_wf) (fun hx => unhide HO ((unhide HR).symm.trans (by simp only [fForStmt, ub, unhide HQ2, hx])))).mono ?_
 rintro e w3 hp
 rcases hp with ⟨kd3, tx3, nm3, ps3, kids3, s3, k3, ao3, cp3, hq, rfl, hrow, p3, hg⟩ | ⟨pb, rule, hq, rfl, hg⟩
 rotate_left
 (exact ⟨rfl, npost_bad (by rw [← unhide HR]; simp only [fForStmt, ub, unhide HQ2, hq]) (grown_trans (by go_wf) hg)⟩)
 have hz3 := hg.size
 (try simp at hz3)
 have G3 : w.grownBy w3 (some C.b) := grown_trans (by go_wf) hg
 replace row2 := RowI.ag row2 (Ag.grown aw0 hg (by omega) (by omega)) (Nat.le_refl _) (Nat.le_refl _)
 have bl0_3 : BL w3 w.heap.size (nd0) := BL.grown (by go_wf) hg (by omega)
 have hl0_3 := bl0_3.lt
 clear bl0_2
 clear p2
 obtain ⟨lo3, hlo3, row3⟩ := hrow.named
 (try simp at hlo3)
 have HQ3 := hide hq
 clear hrow hq
 clear hg
 have ⟨⟨ne6, nf6⟩, ⟨ne7, nf7⟩⟩ : NN C.b w3.heap.size ∧ NN w.heap.size w3.heap.size := by omega
 have hn2 : l2.length ≤ 1000000 := (by have h1 := run_fine C.ts n .forHead true (k + 1) l2 s2 k2 (unhide HQ2); have h2 := ok.few; have h3 := p3.kl; have h4 := run_fine C.ts n .block h k2 _ s3 k3 (unhide HQ3); simp only [st, bnd] at h1 h4; omega)
 go_wp2_with (first | (at_builtin; (refine wpList_app rfl (.tmp 13) (.tmp 16) rfl (lo := lo2) (hi := w2.heap.size) (ao := ao2) (cp := cp2) (l := l2) (t := .mk kd3 tx3 nm3 ps3 kids3) (A := lo3) (B := w3.heap.size) (g0 := w3.heap.size) (cur := #[.int .i64 kd3, .string ⟨tx3.toArray⟩, .int .i64 nm3, .int .i64 ps3, .string ⟨#[]⟩, .int .i64 0, .slice ao3 kids3.length cp3]) (by simp [Act.eval]) (RowI.ag row2 (aw2 aw0 (by omega)) (Nat.le_refl _) (Nat.le_refl _)) (by simp [Act.eval]) (bw0 (by omega)) ((Nd.mk (kd := kd3) (tx := tx3) (nm := nm3) (ps := ps3) row3).ag (aw2 aw0 (by simp <;> omega))) rfl one7 hn2 (by simp <;> omega) (by simp <;> omega) (by omega) (by simp <;> omega) (by omega) ?_; intro g4 cp4 w4 hrw4 hgA hat4 hgl4; have hob := row2.own; have hz4 := hgA.size; (try simp at hz4); (try simp at hat4); have G4 : w.grownBy w4 (some C.b) := grown_own (gw2 (by go_wf)) hgA (fun x hx => by have := hob x hx; omega); have p4 := PS.own (C := C) (k := k3) (h := h) (pw2 (by go_wf)) ok hgA (fun x hx => by have := hob x hx; omega); have bl0_4 : BL w4 w.heap.size (nd0) := BL.own (bw2 (by go_wf)) hgA (fun e => by have := hob _ e.symm; omega); have hl0_4 := bl0_4.lt; have zc0_4 := bl0_4.cell; have fz0_4 := bl0_4.frozen; clear bl0_3; clear p3 hgA hob; have ne8 : ¬ C.b = w4.heap.size := (by omega); have nf8 : ¬ w4.heap.size = C.b := (by omega); have ne9 : ¬ w.heap.size = w4.heap.size := (by omega); have nf9 : ¬ w4.heap.size = w.heap.size := (by omega))))
 have row4 := hrw4 w4 (Nat.le_refl _) rfl (Ag.refl _ _ _) (Ag.refl _ _ _)
 clear hrw4
 refine bodyPost_ret (v := .agg #[.int .i64 22, .string ⟨#[]⟩, .int .i64 0, .int .i64 (tok C.ts k).pos, .string ⟨#[]⟩, .int .i64 0, .slice (some ⟨g4, 0, none⟩) (l2.length + 1) cp4]) (by simp [results, Tryz.results95, go_sem, *]) rfl (npost_ok (hi := w4.heap.size) (s := 0) (k' := k3) (tx := []) (kids := (l2 ++ [.mk kd3 tx3 nm3 ps3 kids3])) (by rw [← unhide HR]; simp only [fForStmt, ub, unhide HQ2, unhide HQ3]) (row4.ag (aw7 aw0 (by first | omega | (simp <;> omega))) (by omega) (Nat.le_refl _)) (by simp <;> omega) ?_ ?_)
 ·exact pw7 (by go_wf) ok (by first | omega | (simp <;> omega))
 ·exact gw7 (by go_wf) (by first | omega | (simp <;> omega))
end Go.Proofs.YtgckmkiiheaeaaaGreatDoor
