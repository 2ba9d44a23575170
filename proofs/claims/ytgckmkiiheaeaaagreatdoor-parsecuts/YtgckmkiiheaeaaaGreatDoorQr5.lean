import Derived.Test.YtgckmkiiheaeaaaGreatDoorQg
import Derived.Test.YtgckmkiiheaeaaaGreatDoorParW
import Derived.Test.YtgckmkiiheaeaaaGreatDoorParB
import Derived.Test.YtgckmkiiheaeaaaGreatDoorParA
set_option linter.unusedVariables false
set_option linter.unusedSimpArgs false
set_option maxRecDepth 100000
namespace Go.Proofs.YtgckmkiiheaeaaaGreatDoor
open Go.RowKit Lx Px
set_option maxHeartbeats 4000000 in
theorem decl_w (C : Ctx) (ok : C.Ok) (n : Nat) (ih : All C n) : CN C 40 .decl #[.pointer (some ⟨C.b, 0, none⟩)] (n + 1) := by
 intro h k w p hout
 have hr : run C.ts (n + 1) .decl h k = fDecl C.ts (run C.ts n) h k := rfl
 rw [hr] at hout ⊢
 clear hr
 generalize hR : fDecl C.ts (run C.ts n) h k = r0 at hout ⊢
 have hbl := p.lt
 have htf1 := tokF1
 have htf3 := tokF3
 have G0 := grown_refl w (some C.b)
 have HR := hide hR
 clear hR
 have HO := hide hout
 clear hout
 by_cases stype : sign C.ts k = [116, 121, 112, 101]
 ·skip
  have h6 := hide (sign_ne stype)
  go_enter Tryz.func40, Tryz.ntmps40
  go_wp2_with fail
  refine (sign_any C ok k h _ (pw2 (by go_wf))).mono ?_
  rintro e w1 ⟨rfl, hgq⟩
  have p1 := PS.quiet (C := C) (k := k) (h := h) (pw2 (by go_wf)) hgq
  have hg := grown_any (r := some C.b) hgq
  clear hgq
  have hz1 := hg.size
  (try simp at hz1)
  have G1 : w.grownBy w1 (some C.b) := grown_trans (gw2 (by go_wf)) hg
  have bl0_1 : BL w1 w.heap.size (nd0) := BL.grown (bw0 (by omega)) hg (by omega)
  clear hg
  have nf1 : ¬ w.heap.size = C.b := by omega
  go_wp2_with fail
  refine (ih.at.typeDecl h k _ (by go_wf) (unhide h6) (fun hx => unhide HO ((unhide HR).symm.trans (by simp only [fDecl, ub, eq_true stype, hx])))).mono ?_
  rintro e w2 hp
  rcases hp with ⟨kd2, tx2, nm2, ps2, kids2, s2, k2, ao2, cp2, hq, rfl, hrow, p2, hg⟩ | ⟨pb, rule, hq, rfl, hg⟩
  rotate_left
  (exact ⟨rfl, npost_bad (by rw [← unhide HR]; simp only [fDecl, ub, eq_true stype, hq]) (grown_trans (by go_wf) hg)⟩)
  have G2 : w.grownBy w2 (some C.b) := grown_trans (by go_wf) hg
  have bl0_2 : BL w2 w.heap.size (nd0) := BL.grown (by go_wf) hg (by omega)
  have zc0_2 := bl0_2.cell
  have fz0_2 := bl0_2.frozen
  clear bl0_1
  clear p1
  obtain ⟨lo2, hlo2, row2⟩ := hrow.named
  (try simp at hlo2)
  have HQ2 := hide hq
  clear hrow hq
  clear hg
  go_wp2
  refine bodyPost_ret (v := .agg #[.int .i64 kd2, .string ⟨tx2.toArray⟩, .int .i64 nm2, .int .i64 ps2, .string ⟨#[]⟩, .int .i64 0, .slice ao2 kids2.length cp2]) (by simp [results, Tryz.results40, go_sem, *]) rfl (npost_ok (hi := w2.heap.size) (s := s2) (k' := k2) (tx := tx2) (kids := kids2) (by rw [← unhide HR]; simp only [fDecl, ub, eq_true stype, unhide HQ2]) (row2.ag (aw7 aw0 (by first | omega | (simp <;> omega))) (by omega) (Nat.le_refl _)) (by simp <;> omega) ?_ ?_)
  ·exact pw7 (by go_wf) ok (by first | omega | (simp <;> omega))
  ·exact gw7 (by go_wf) (by first | omega | (simp <;> omega))
 by_cases svar : sign C.ts k = [118, 97, 114]
 ·skip
  have h6 := hide (sign_ne svar)
  go_enter Tryz.func40, Tryz.ntmps40
  go_wp2_with fail
  refine (sign_any C ok k h _ (pw2 (by go_wf))).mono ?_
  rintro e w1 ⟨rfl, hgq⟩
  have p1 := PS.quiet (C := C) (k := k) (h := h) (pw2 (by go_wf)) hgq
  have hg := grown_any (r := some C.b) hgq
  clear hgq
  have G1 : w.grownBy w1 (some C.b) := grown_trans (gw2 (by go_wf)) hg
  have bl0_1 : BL w1 w.heap.size (nd0) := BL.grown (bw0 (by omega)) hg (by omega)
  clear hg
  have nf1 : ¬ w.heap.size = C.b := by omega
  go_wp2_with fail
  refine (take_any C ok k h _ (by go_wf) (unhide h6)).mono ?_
  rintro e w2 ⟨rfl, p2, hg⟩
  have G2 : w.grownBy w2 (some C.b) := grown_trans (by go_wf) hg
  have bl0_2 : BL w2 w.heap.size (nd0) := BL.grown (by go_wf) hg (by omega)
  have hl0_2 := bl0_2.lt
  clear bl0_1
  clear p1
  clear hg
  go_wp2_with fail
  refine (ih.at.named 3 h (k + 1) _ (by go_wf) (fun hx => unhide HO ((unhide HR).symm.trans (by simp only [fDecl, ub, eq_false stype, eq_true svar, hx])))).mono ?_
  rintro e w3 hp
  rcases hp with ⟨kd3, tx3, nm3, ps3, kids3, s3, k3, ao3, cp3, hq, rfl, hrow, p3, hg⟩ | ⟨pb, rule, hq, rfl, hg⟩
  rotate_left
  (exact ⟨rfl, npost_bad (by rw [← unhide HR]; simp only [fDecl, ub, eq_false stype, eq_true svar, hq]) (grown_trans (by go_wf) hg)⟩)
  have G3 : w.grownBy w3 (some C.b) := grown_trans (by go_wf) hg
  have bl0_3 : BL w3 w.heap.size (nd0) := BL.grown (by go_wf) hg (by omega)
  have hl0_3 := bl0_3.lt
  have zc0_3 := bl0_3.cell
  have fz0_3 := bl0_3.frozen
  clear bl0_2
  clear p2
  obtain ⟨lo3, hlo3, row3⟩ := hrow.named
  (try simp at hlo3)
  have HQ3 := hide hq
  clear hrow hq
  clear hg
  obtain ⟨e1, e2⟩ := named_shape (unhide HQ3)
  subst e1
  subst e2
  go_wp2
  refine bodyPost_ret (v := .agg #[.int .i64 3, .string ⟨tx3.toArray⟩, .int .i64 0, .int .i64 (tok C.ts k).pos, .string ⟨#[]⟩, .int .i64 0, .slice ao3 kids3.length cp3]) (by simp [results, Tryz.results40, go_sem, *]) rfl (npost_ok (hi := w3.heap.size) (s := 0) (k' := k3) (tx := tx3) (kids := kids3) (by rw [← unhide HR]; simp only [fDecl, ub, eq_false stype, eq_true svar, unhide HQ3]) (row3.ag (aw2 (aw7 aw0 (by first | omega | (simp <;> omega))) (by simp <;> omega)) (by omega) (Nat.le_refl _)) (by simp <;> omega) ?_ ?_)
  ·exact pw2 (pw7 (by go_wf) ok (by first | omega | (simp <;> omega)))
  ·exact gw2 (gw7 (by go_wf) (by first | omega | (simp <;> omega)))
 by_cases sfunc : sign C.ts k = [102, 117, 110, 99]
 ·skip
  have h6 := hide (sign_ne sfunc)
  go_enter Tryz.func40, Tryz.ntmps40
  go_wp2_with fail
  refine (sign_any C ok k h _ (pw2 (by go_wf))).mono ?_
  rintro e w1 ⟨rfl, hgq⟩
  have p1 := PS.quiet (C := C) (k := k) (h := h) (pw2 (by go_wf)) hgq
  have hg := grown_any (r := some C.b) hgq
  clear hgq
  have G1 : w.grownBy w1 (some C.b) := grown_trans (gw2 (by go_wf)) hg
  have bl0_1 : BL w1 w.heap.size (nd0) := BL.grown (bw0 (by omega)) hg (by omega)
  clear hg
  have nf1 : ¬ w.heap.size = C.b := by omega
  go_wp2_with fail
  refine (take_any C ok k h _ (by go_wf) (unhide h6)).mono ?_
  rintro e w2 ⟨rfl, p2, hg⟩
  have G2 : w.grownBy w2 (some C.b) := grown_trans (by go_wf) hg
  have bl0_2 : BL w2 w.heap.size (nd0) := BL.grown (by go_wf) hg (by omega)
  clear bl0_1
  clear p1
  clear hg
  by_cases n1 : (tok C.ts (k + 1)).kind = 1
  rotate_left
  ·skip
   go_wp2_with fail
   refine (name_no C ok (k + 1) h _ ⟨#[100, 101, 99, 108]⟩ (by go_wf) n1).mono ?_
   rintro e w3 ⟨rfl, hgq⟩
   exact ⟨rfl, npost_bad (by rw [← unhide HR]; simp only [fDecl, ub, eq_false stype, eq_false svar, eq_true sfunc, eq_false n1]) (grown_trans (by go_wf) (grown_any hgq))⟩
  have Hn1 := hide n1
  clear n1
  go_wp2_with fail
  refine (name_yes C ok (k + 1) h _ ⟨#[100, 101, 99, 108]⟩ (by go_wf) (unhide Hn1)).mono ?_
  rintro e w3 ⟨rfl, p3, hg⟩
  have G3 : w.grownBy w3 (some C.b) := grown_trans (by go_wf) hg
  have bl0_3 : BL w3 w.heap.size (nd0) := BL.grown (by go_wf) hg (by omega)
  have hl0_3 := bl0_3.lt
  clear bl0_2
  clear p2
  clear hg
  go_wp2_with fail
  refine (ih.at.function h (k + 1 + 1) _ (by go_wf) (fun hx => unhide HO ((unhide HR).symm.trans (by simp only [fDecl, ub, eq_false stype, eq_false svar, eq_true sfunc, eq_true (unhide Hn1), hx])))).mono ?_
  rintro e w4 hp
  rcases hp with ⟨l4, s4, k4, ao4, cp4, hq, rfl, hrow, p4, hg⟩ | ⟨pb, rule, hq, rfl, hg⟩
  rotate_left
  (exact ⟨rfl, npost_bad (by rw [← unhide HR]; simp only [fDecl, ub, eq_false stype, eq_false svar, eq_true sfunc, eq_true (unhide Hn1), hq]) (grown_trans (by go_wf) hg)⟩)
  have G4 : w.grownBy w4 (some C.b) := grown_trans (by go_wf) hg
  have bl0_4 : BL w4 w.heap.size (nd0) := BL.grown (by go_wf) hg (by omega)
  have zc0_4 := bl0_4.cell
  have fz0_4 := bl0_4.frozen
  clear bl0_3
  clear p3
  obtain ⟨lo4, hlo4, row4⟩ := hrow.named
  (try simp at hlo4)
  have HQ4 := hide hq
  clear hrow hq
  clear hg
  go_wp2
  refine bodyPost_ret (v := .agg #[.int .i64 4, .string ⟨(tok C.ts (k + 1)).text.toArray⟩, .int .i64 0, .int .i64 (tok C.ts k).pos, .string ⟨#[]⟩, .int .i64 0, .slice ao4 l4.length cp4]) (by simp [results, Tryz.results40, go_sem, *]) rfl (npost_ok (hi := w4.heap.size) (s := 0) (k' := k4) (tx := (tok C.ts (k + 1)).text) (kids := l4) (by rw [← unhide HR]; simp only [fDecl, ub, eq_false stype, eq_false svar, eq_true sfunc, eq_true (unhide Hn1), unhide HQ4]) (row4.ag (aw7 aw0 (by first | omega | (simp <;> omega))) (by omega) (Nat.le_refl _)) (by simp <;> omega) ?_ ?_)
  ·exact pw7 (by go_wf) ok (by first | omega | (simp <;> omega))
  ·exact gw7 (by go_wf) (by first | omega | (simp <;> omega))
 have bstype : (sign C.ts k == [116, 121, 112, 101]) = false := beq_eq_false_iff_ne.2 stype
 have bsvar : (sign C.ts k == [118, 97, 114]) = false := beq_eq_false_iff_ne.2 svar
 have bsfunc : (sign C.ts k == [102, 117, 110, 99]) = false := beq_eq_false_iff_ne.2 sfunc
 go_enter Tryz.func40, Tryz.ntmps40
 go_wp2_with fail
 refine (sign_any C ok k h _ (pw2 (by go_wf))).mono ?_
 rintro e w1 ⟨rfl, hgq⟩
 have p1 := PS.quiet (C := C) (k := k) (h := h) (pw2 (by go_wf)) hgq
 have hg := grown_any (r := some C.b) hgq
 clear hgq
 have G1 : w.grownBy w1 (some C.b) := grown_trans (gw2 (by go_wf)) hg
 clear hg
 go_wp2_with fail
 refine (broken_any C ok k h _ ⟨#[100, 101, 99, 108]⟩ (by go_wf)).mono ?_
 rintro e w2 ⟨rfl, hgq⟩
 have hg := grown_any (r := some C.b) hgq
 clear hgq
 have G2 : w.grownBy w2 (some C.b) := grown_trans (by go_wf) hg
 clear p1
 clear hg
 go_wp2
 exact bodyPost_panic rfl (npost_bad (by rw [← unhide HR]; simp only [fDecl, ub, eq_false stype, eq_false svar, eq_false sfunc]) (by go_wf))
set_option maxHeartbeats 4000000 in
theorem ifStmt_w (C : Ctx) (ok : C.Ok) (n : Nat) (ih : All C n) : CNt C 86 .ifStmt #[.pointer (some ⟨C.b, 0, none⟩)] (n + 1) := by
 intro h k w p h6 hout
 have hr : run C.ts (n + 1) .ifStmt h k = fIfStmt C.ts (run C.ts n) h k := rfl
 rw [hr] at hout ⊢
 clear hr
 generalize hR : fIfStmt C.ts (run C.ts n) h k = r0 at hout ⊢
 have H6 := hide h6
 clear h6
 have hbl := p.lt
 have htf3 := tokF3
 have G0 := grown_refl w (some C.b)
 have HR := hide hR
 clear hR
 have HO := hide hout
 clear hout
 go_enter Tryz.func86, Tryz.ntmps86
 go_wp2_with fail
 refine (take_any C ok k h _ (pw2 (by go_wf)) (unhide H6)).mono ?_
 rintro e w1 ⟨rfl, p1, hg⟩
 have hz1 := hg.size
 (try simp at hz1)
 have G1 : w.grownBy w1 (some C.b) := grown_trans (gw2 (by go_wf)) hg
 have bl0_1 : BL w1 w.heap.size (nd0) := BL.grown (bw0 (by omega)) hg (by omega)
 clear hg
 have nf1 : ¬ w.heap.size = C.b := by omega
 go_wp2_with fail
 refine (withinN C ok 94 #[.pointer (some ⟨C.b, 0, none⟩)] #[] en92 (run C.ts n .expr true (k + 1)) true h (k + 1) _ (by go_wf) (fun w0 _ q0 => ih.at.expr true (k + 1) w0 q0 (fun hx => unhide HO ((unhide HR).symm.trans (by simp only [fIfStmt, ub, hx]))))).mono ?_
 rintro e w2 hp
 rcases hp with ⟨kd2, tx2, nm2, ps2, kids2, s2, k2, ao2, cp2, hq, rfl, hrow, p2, hg⟩ | ⟨pb, rule, hq, rfl, hg⟩
 rotate_left
 (exact ⟨rfl, npost_bad (by rw [← unhide HR]; simp only [fIfStmt, ub, hq]) (grown_trans (by go_wf) hg)⟩)
 have G2 : w.grownBy w2 (some C.b) := grown_trans (by go_wf) hg
 have bl0_2 : BL w2 w.heap.size (nd0) := BL.grown (by go_wf) hg (by omega)
 have hl0_2 := bl0_2.lt
 clear bl0_1
 clear p1
 obtain ⟨lo2, hlo2, row2⟩ := hrow.named
 (try simp at hlo2)
 have HQ2 := hide hq
 clear hrow hq
 clear hg
 have nf4 : ¬ w2.heap.size = C.b := by omega
 go_wp2_with fail
 refine (ih.at.block h k2 _ (pw2 (by go_wf)) (fun hx => unhide HO ((unhide HR).symm.trans (by simp only [fIfStmt, ub, unhide HQ2, hx])))).mono ?_
 rintro e w3 hp
 rcases hp with ⟨kd3, tx3, nm3, ps3, kids3, s3, k3, ao3, cp3, hq, rfl, hrow, p3, hg⟩ | ⟨pb, rule, hq, rfl, hg⟩
 rotate_left
 (exact ⟨rfl, npost_bad (by rw [← unhide HR]; simp only [fIfStmt, ub, unhide HQ2, hq]) (grown_trans (gw2 (by go_wf)) hg)⟩)
 have hz3 := hg.size
 (try simp at hz3)
 have G3 : w.grownBy w3 (some C.b) := grown_trans (gw2 (by go_wf)) hg
 replace row2 := RowI.ag row2 (Ag.grown (aw2 aw0 (by simp <;> omega)) hg (by simp <;> omega) (by omega)) (Nat.le_refl _) (Nat.le_refl _)
 have bl0_3 : BL w3 w.heap.size (nd0) := BL.grown (bw2 (by go_wf)) hg (by omega)
 have hl0_3 := bl0_3.lt
 have bl1_3 : BL w3 w2.heap.size (nqC kd2 ⟨tx2.toArray⟩ nm2 ps2 ao2 kids2.length cp2) := BL.grown (bw0 (by omega)) hg (by omega)
 clear bl0_2
 clear p2
 obtain ⟨lo3, hlo3, row3⟩ := hrow.named
 (try simp at hlo3)
 have HQ3 := hide hq
 clear hrow hq
 clear hg
 have nf6 : ¬ w3.heap.size = C.b := by omega
 go_wp2_with fail
 refine (none_any _).mono ?_
 rintro e w4 ⟨rfl, hgq⟩
 have p4 := PS.quiet (C := C) (k := k3) (h := h) (pw2 (by go_wf)) hgq
 have hg := grown_any (r := some C.b) hgq
 clear hgq
 have hz4 := hg.size
 (try simp at hz4)
 have G4 : w.grownBy w4 (some C.b) := grown_trans (gw2 (by go_wf)) hg
 replace row2 := RowI.ag row2 (Ag.grown (aw2 aw0 (by omega)) hg (by simp <;> omega) (by omega)) (Nat.le_refl _) (Nat.le_refl _)
 replace row3 := RowI.ag row3 (Ag.grown (aw2 aw0 (by simp <;> omega)) hg (by simp <;> omega) (by omega)) (Nat.le_refl _) (Nat.le_refl _)
 have bl0_4 : BL w4 w.heap.size (nd0) := BL.grown (bw2 (by go_wf)) hg (by omega)
 have hl0_4 := bl0_4.lt
 have bl1_4 : BL w4 w2.heap.size (nqC kd2 ⟨tx2.toArray⟩ nm2 ps2 ao2 kids2.length cp2) := BL.grown (bw2 (by go_wf)) hg (by omega)
 have hl1_4 := bl1_4.lt
 have bl2_4 : BL w4 w3.heap.size (nqC kd3 ⟨tx3.toArray⟩ nm3 ps3 ao3 kids3.length cp3) := BL.grown (bw0 (by omega)) hg (by omega)
 clear bl0_3
 clear bl1_3
 clear p3
 clear hg
 have nf9 : ¬ w4.heap.size = C.b := by omega
 by_cases ce : isS C.ts k3 [[101, 108, 115, 101]] = true
 rotate_left
 ·skip
  go_wp2_with fail
  refine (skip_no C ok k3 h _ [101, 108, 115, 101] (pw2 (by go_wf)) (Bool.eq_false_iff.2 ce)).mono ?_
  rintro e w5 ⟨rfl, hgq⟩
  have p5 := PS.quiet (C := C) (k := k3) (h := h) (pw2 (by go_wf)) hgq
  have hg := grown_any (r := some C.b) hgq
  clear hgq
  have G5 : w.grownBy w5 (some C.b) := grown_trans (gw2 (by go_wf)) hg
  replace row2 := RowI.ag row2 (Ag.grown (aw2 aw0 (by omega)) hg (by simp <;> omega) (by omega)) (Nat.le_refl _) (Nat.le_refl _)
  replace row3 := RowI.ag row3 (Ag.grown (aw2 aw0 (by omega)) hg (by simp <;> omega) (by omega)) (Nat.le_refl _) (Nat.le_refl _)
  have bl0_5 : BL w5 w.heap.size (nd0) := BL.grown (bw2 (by go_wf)) hg (by omega)
  have hl0_5 := bl0_5.lt
  have zc0_5 := bl0_5.cell
  have fz0_5 := bl0_5.frozen
  have bl1_5 : BL w5 w2.heap.size (nqC kd2 ⟨tx2.toArray⟩ nm2 ps2 ao2 kids2.length cp2) := BL.grown (bw2 (by go_wf)) hg (by omega)
  have hl1_5 := bl1_5.lt
  have zc1_5 := bl1_5.cell
  have bl2_5 : BL w5 w3.heap.size (nqC kd3 ⟨tx3.toArray⟩ nm3 ps3 ao3 kids3.length cp3) := BL.grown (bw2 (by go_wf)) hg (by omega)
  have hl2_5 := bl2_5.lt
  have zc2_5 := bl2_5.cell
  have bl3_5 : BL w5 w4.heap.size (nqC 8 ⟨#[]⟩ 0 0 none 0 0) := BL.grown (bw0 (by omega)) hg (by omega)
  have zc3_5 := bl3_5.cell
  clear bl0_4
  clear bl1_4
  clear bl2_4
  clear p4
  clear hg
  go_wp2
  refine bodyPost_ret (v := .agg #[.int .i64 21, .string ⟨#[]⟩, .int .i64 0, .int .i64 (tok C.ts k).pos, .string ⟨#[]⟩, .int .i64 0, .slice (some ⟨w5.heap.size, 0, none⟩) 3 3]) (by simp [results, Tryz.results86, go_sem, *]) rfl (npost_ok (hi := w5.heap.size + 1) (s := 0) (k' := k3) (tx := []) (kids := [.mk kd2 tx2 nm2 ps2 kids2, .mk kd3 tx3 nm3 ps3 kids3, .mk 8 [] 0 0 []]) (by rw [← unhide HR]; simp only [fIfStmt, ub, unhide HQ2, unhide HQ3, eq_false ce]) (rowL (cur := #[.int .i64 kd2, .string ⟨tx2.toArray⟩, .int .i64 nm2, .int .i64 ps2, .string ⟨#[]⟩, .int .i64 0, .slice ao2 kids2.length cp2, .int .i64 kd3, .string ⟨tx3.toArray⟩, .int .i64 nm3, .int .i64 ps3, .string ⟨#[]⟩, .int .i64 0, .slice ao3 kids3.length cp3, .int .i64 8, .string ⟨#[]⟩, .int .i64 0, .int .i64 0, .string ⟨#[]⟩, .int .i64 0, .slice none 0 0]) (bw0 (by simp <;> omega)) rfl rfl (by decide) (by omega) (by omega) (Kids.snoc (Kids.snoc (Kids.one ((Nd.mk (kd := kd2) (tx := tx2) (nm := nm2) (ps := ps2) row2).ag (aw2 (aw7 aw0 (by first | omega | (simp <;> omega))) (by simp <;> omega))) (by omega) (by omega) (.inr (by omega))) ((Nd.mk (kd := kd3) (tx := tx3) (nm := nm3) (ps := ps3) row3).ag (aw2 (aw7 aw0 (by first | omega | (simp <;> omega))) (by simp <;> omega))) (by omega) (by omega) (.inr (by omega))) (Nd.mk (kd := 8) (tx := []) (nm := 0) (ps := 0) (RowI.nil _ w.heap.size w.heap.size)) (by omega) (by omega) (.inr (by omega)))) (by simp <;> omega) ?_ ?_)
  ·exact pw2 (pw7 (by go_wf) ok (by first | omega | (simp <;> omega)))
  ·exact gw2 (gw7 (by go_wf) (by first | omega | (simp <;> omega)))
 go_wp2_with fail
 refine (skip_yes C ok k3 h _ [101, 108, 115, 101] (pw2 (by go_wf)) ce).mono ?_
 rintro e w5 ⟨rfl, p5, hg⟩
 have G5 : w.grownBy w5 (some C.b) := grown_trans (gw2 (by go_wf)) hg
 replace row2 := RowI.ag row2 (Ag.grown (aw2 aw0 (by omega)) hg (by simp <;> omega) (by omega)) (Nat.le_refl _) (Nat.le_refl _)
 replace row3 := RowI.ag row3 (Ag.grown (aw2 aw0 (by omega)) hg (by simp <;> omega) (by omega)) (Nat.le_refl _) (Nat.le_refl _)
 have bl0_5 : BL w5 w.heap.size (nd0) := BL.grown (bw2 (by go_wf)) hg (by omega)
 have bl1_5 : BL w5 w2.heap.size (nqC kd2 ⟨tx2.toArray⟩ nm2 ps2 ao2 kids2.length cp2) := BL.grown (bw2 (by go_wf)) hg (by omega)
 have hl1_5 := bl1_5.lt
 have bl2_5 : BL w5 w3.heap.size (nqC kd3 ⟨tx3.toArray⟩ nm3 ps3 ao3 kids3.length cp3) := BL.grown (bw2 (by go_wf)) hg (by omega)
 have hl2_5 := bl2_5.lt
 have bl3_5 : BL w5 w4.heap.size (nqC 8 ⟨#[]⟩ 0 0 none 0 0) := BL.grown (bw0 (by omega)) hg (by omega)
 clear bl0_4
 clear bl1_4
 clear bl2_4
 clear p4
 clear hg
 by_cases ci : isS C.ts (k3 + 1) [[105, 102]] = true
 rotate_left
 ·skip
  go_wp2_with fail
  refine (isL C ok (k3 + 1) h _ w5.heap.size [[105, 102]] (by decide) (by go_wf) (by simp)).mono ?_
  rintro e w6 ⟨rfl, hgq⟩
  have p6 := PS.quiet (C := C) (k := (k3 + 1)) (h := h) (by go_wf) hgq
  have hg := grown_any (r := some C.b) hgq
  clear hgq
  have G6 : w.grownBy w6 (some C.b) := grown_trans (by go_wf) hg
  replace row2 := RowI.ag row2 (Ag.grown aw0 hg (by omega) (by omega)) (Nat.le_refl _) (Nat.le_refl _)
  replace row3 := RowI.ag row3 (Ag.grown aw0 hg (by omega) (by omega)) (Nat.le_refl _) (Nat.le_refl _)
  have bl0_6 : BL w6 w.heap.size (nd0) := BL.grown (by go_wf) hg (by omega)
  have hl0_6 := bl0_6.lt
  have bl1_6 : BL w6 w2.heap.size (nqC kd2 ⟨tx2.toArray⟩ nm2 ps2 ao2 kids2.length cp2) := BL.grown (by go_wf) hg (by omega)
  have hl1_6 := bl1_6.lt
  have bl2_6 : BL w6 w3.heap.size (nqC kd3 ⟨tx3.toArray⟩ nm3 ps3 ao3 kids3.length cp3) := BL.grown (by go_wf) hg (by omega)
  have hl2_6 := bl2_6.lt
  have bl3_6 : BL w6 w4.heap.size (nqC 8 ⟨#[]⟩ 0 0 none 0 0) := BL.grown (by go_wf) hg (by omega)
  have hl3_6 := bl3_6.lt
  clear bl0_5
  clear bl1_5
  clear bl2_5
  clear bl3_5
  clear p5
  clear hg
  go_wp2_with fail
  refine (ih.at.block h (k3 + 1) _ (by go_wf) (fun hx => unhide HO ((unhide HR).symm.trans (by simp only [fIfStmt, ub, unhide HQ2, unhide HQ3, eq_true ce, eq_false ci, hx])))).mono ?_
  rintro e w7 hp
  rcases hp with ⟨kd7, tx7, nm7, ps7, kids7, s7, k7, ao7, cp7, hq, rfl, hrow, p7, hg⟩ | ⟨pb, rule, hq, rfl, hg⟩
  rotate_left
  (exact ⟨rfl, npost_bad (by rw [← unhide HR]; simp only [fIfStmt, ub, unhide HQ2, unhide HQ3, eq_true ce, eq_false ci, hq]) (grown_trans (by go_wf) hg)⟩)
  have G7 : w.grownBy w7 (some C.b) := grown_trans (by go_wf) hg
  replace row2 := RowI.ag row2 (Ag.grown aw0 hg (by omega) (by omega)) (Nat.le_refl _) (Nat.le_refl _)
  replace row3 := RowI.ag row3 (Ag.grown aw0 hg (by omega) (by omega)) (Nat.le_refl _) (Nat.le_refl _)
  have bl0_7 : BL w7 w.heap.size (nd0) := BL.grown (by go_wf) hg (by omega)
  have hl0_7 := bl0_7.lt
  have zc0_7 := bl0_7.cell
  have fz0_7 := bl0_7.frozen
  have bl1_7 : BL w7 w2.heap.size (nqC kd2 ⟨tx2.toArray⟩ nm2 ps2 ao2 kids2.length cp2) := BL.grown (by go_wf) hg (by omega)
  have hl1_7 := bl1_7.lt
  have zc1_7 := bl1_7.cell
  have bl2_7 : BL w7 w3.heap.size (nqC kd3 ⟨tx3.toArray⟩ nm3 ps3 ao3 kids3.length cp3) := BL.grown (by go_wf) hg (by omega)
  have hl2_7 := bl2_7.lt
  have zc2_7 := bl2_7.cell
  have bl3_7 : BL w7 w4.heap.size (nqC 8 ⟨#[]⟩ 0 0 none 0 0) := BL.grown (by go_wf) hg (by omega)
  have zc3_7 := bl3_7.cell
  have fz3_7 := bl3_7.frozen
  clear bl0_6
  clear bl1_6
  clear bl2_6
  clear bl3_6
  clear p6
  obtain ⟨lo7, hlo7, row7⟩ := hrow.named
  (try simp at hlo7)
  have HQ7 := hide hq
  clear hrow hq
  clear hg
  go_wp2
  refine bodyPost_ret (v := .agg #[.int .i64 21, .string ⟨#[]⟩, .int .i64 0, .int .i64 (tok C.ts k).pos, .string ⟨#[]⟩, .int .i64 0, .slice (some ⟨w7.heap.size, 0, none⟩) 3 3]) (by simp [results, Tryz.results86, go_sem, *]) rfl (npost_ok (hi := w7.heap.size + 1) (s := 0) (k' := k7) (tx := []) (kids := [.mk kd2 tx2 nm2 ps2 kids2, .mk kd3 tx3 nm3 ps3 kids3, .mk kd7 tx7 nm7 ps7 kids7]) (by rw [← unhide HR]; simp only [fIfStmt, ub, unhide HQ2, unhide HQ3, eq_true ce, eq_false ci, unhide HQ7]) (rowL (cur := #[.int .i64 kd2, .string ⟨tx2.toArray⟩, .int .i64 nm2, .int .i64 ps2, .string ⟨#[]⟩, .int .i64 0, .slice ao2 kids2.length cp2, .int .i64 kd3, .string ⟨tx3.toArray⟩, .int .i64 nm3, .int .i64 ps3, .string ⟨#[]⟩, .int .i64 0, .slice ao3 kids3.length cp3, .int .i64 kd7, .string ⟨tx7.toArray⟩, .int .i64 nm7, .int .i64 ps7, .string ⟨#[]⟩, .int .i64 0, .slice ao7 kids7.length cp7]) (bw0 (by simp <;> omega)) rfl rfl (by decide) (by omega) (by omega) (Kids.snoc (Kids.snoc (Kids.one ((Nd.mk (kd := kd2) (tx := tx2) (nm := nm2) (ps := ps2) row2).ag (aw2 (aw7 (aw8 aw0 (by first | omega | (simp <;> omega))) (by first | omega | (simp <;> omega))) (by simp <;> omega))) (by omega) (by omega) (.inr (by omega))) ((Nd.mk (kd := kd3) (tx := tx3) (nm := nm3) (ps := ps3) row3).ag (aw2 (aw7 (aw8 aw0 (by first | omega | (simp <;> omega))) (by first | omega | (simp <;> omega))) (by simp <;> omega))) (by omega) (by omega) (.inr (by omega))) ((Nd.mk (kd := kd7) (tx := tx7) (nm := nm7) (ps := ps7) row7).ag (aw2 (aw7 (aw7 aw0 (by first | omega | (simp <;> omega))) (by first | omega | (simp <;> omega))) (by simp <;> omega))) (by omega) (by omega) (.inr (by omega)))) (by simp <;> omega) ?_ ?_)
  ·exact pw2 (pw7 (pw7 (by go_wf) ok (by first | omega | (simp <;> omega))) ok (by first | omega | (simp <;> omega)))
  ·exact gw2 (gw7 (gw7 (by go_wf) (by first | omega | (simp <;> omega))) (by first | omega | (simp <;> omega)))
 go_wp2_with fail
 refine (isL C ok (k3 + 1) h _ w5.heap.size [[105, 102]] (by decide) (by go_wf) (by simp)).mono ?_
 rintro e w6 ⟨rfl, hgq⟩
 have p6 := PS.quiet (C := C) (k := (k3 + 1)) (h := h) (by go_wf) hgq
 have hg := grown_any (r := some C.b) hgq
 clear hgq
 have G6 : w.grownBy w6 (some C.b) := grown_trans (by go_wf) hg
 replace row2 := RowI.ag row2 (Ag.grown aw0 hg (by omega) (by omega)) (Nat.le_refl _) (Nat.le_refl _)
 replace row3 := RowI.ag row3 (Ag.grown aw0 hg (by omega) (by omega)) (Nat.le_refl _) (Nat.le_refl _)
 have bl0_6 : BL w6 w.heap.size (nd0) := BL.grown (by go_wf) hg (by omega)
 have hl0_6 := bl0_6.lt
 have bl1_6 : BL w6 w2.heap.size (nqC kd2 ⟨tx2.toArray⟩ nm2 ps2 ao2 kids2.length cp2) := BL.grown (by go_wf) hg (by omega)
 have hl1_6 := bl1_6.lt
 have bl2_6 : BL w6 w3.heap.size (nqC kd3 ⟨tx3.toArray⟩ nm3 ps3 ao3 kids3.length cp3) := BL.grown (by go_wf) hg (by omega)
 have hl2_6 := bl2_6.lt
 have bl3_6 : BL w6 w4.heap.size (nqC 8 ⟨#[]⟩ 0 0 none 0 0) := BL.grown (by go_wf) hg (by omega)
 have hl3_6 := bl3_6.lt
 clear bl0_5
 clear bl1_5
 clear bl2_5
 clear bl3_5
 clear p5
 clear hg
 go_wp2_with fail
 refine (ih.at.ifStmt h (k3 + 1) _ (by go_wf) (isS_ne ci) (fun hx => unhide HO ((unhide HR).symm.trans (by simp only [fIfStmt, ub, unhide HQ2, unhide HQ3, eq_true ce, eq_true ci, hx])))).mono ?_
 rintro e w7 hp
 rcases hp with ⟨kd7, tx7, nm7, ps7, kids7, s7, k7, ao7, cp7, hq, rfl, hrow, p7, hg⟩ | ⟨pb, rule, hq, rfl, hg⟩
 rotate_left
 (exact ⟨rfl, npost_bad (by rw [← unhide HR]; simp only [fIfStmt, ub, unhide HQ2, unhide HQ3, eq_true ce, eq_true ci, hq]) (grown_trans (by go_wf) hg)⟩)
 have G7 : w.grownBy w7 (some C.b) := grown_trans (by go_wf) hg
 replace row2 := RowI.ag row2 (Ag.grown aw0 hg (by omega) (by omega)) (Nat.le_refl _) (Nat.le_refl _)
 replace row3 := RowI.ag row3 (Ag.grown aw0 hg (by omega) (by omega)) (Nat.le_refl _) (Nat.le_refl _)
 have bl0_7 : BL w7 w.heap.size (nd0) := BL.grown (by go_wf) hg (by omega)
 have hl0_7 := bl0_7.lt
 have zc0_7 := bl0_7.cell
 have fz0_7 := bl0_7.frozen
 have bl1_7 : BL w7 w2.heap.size (nqC kd2 ⟨tx2.toArray⟩ nm2 ps2 ao2 kids2.length cp2) := BL.grown (by go_wf) hg (by omega)
 have hl1_7 := bl1_7.lt
 have zc1_7 := bl1_7.cell
 have bl2_7 : BL w7 w3.heap.size (nqC kd3 ⟨tx3.toArray⟩ nm3 ps3 ao3 kids3.length cp3) := BL.grown (by go_wf) hg (by omega)
 have hl2_7 := bl2_7.lt
 have zc2_7 := bl2_7.cell
 have bl3_7 : BL w7 w4.heap.size (nqC 8 ⟨#[]⟩ 0 0 none 0 0) := BL.grown (by go_wf) hg (by omega)
 have zc3_7 := bl3_7.cell
 have fz3_7 := bl3_7.frozen
 clear bl0_6
 clear bl1_6
 clear bl2_6
 clear bl3_6
 clear p6
 obtain ⟨lo7, hlo7, row7⟩ := hrow.named
 (try simp at hlo7)
 have HQ7 := hide hq
 clear hrow hq
 clear hg
 go_wp2
 refine bodyPost_ret (v := .agg #[.int .i64 21, .string ⟨#[]⟩, .int .i64 0, .int .i64 (tok C.ts k).pos, .string ⟨#[]⟩, .int .i64 0, .slice (some ⟨w7.heap.size, 0, none⟩) 3 3]) (by simp [results, Tryz.results86, go_sem, *]) rfl (npost_ok (hi := w7.heap.size + 1) (s := 0) (k' := k7) (tx := []) (kids := [.mk kd2 tx2 nm2 ps2 kids2, .mk kd3 tx3 nm3 ps3 kids3, .mk kd7 tx7 nm7 ps7 kids7]) (by rw [← unhide HR]; simp only [fIfStmt, ub, unhide HQ2, unhide HQ3, eq_true ce, eq_true ci, unhide HQ7]) (rowL (cur := #[.int .i64 kd2, .string ⟨tx2.toArray⟩, .int .i64 nm2, .int .i64 ps2, .string ⟨#[]⟩, .int .i64 0, .slice ao2 kids2.length cp2, .int .i64 kd3, .string ⟨tx3.toArray⟩, .int .i64 nm3, .int .i64 ps3, .string ⟨#[]⟩, .int .i64 0, .slice ao3 kids3.length cp3, .int .i64 kd7, .string ⟨tx7.toArray⟩, .int .i64 nm7, .int .i64 ps7, .string ⟨#[]⟩, .int .i64 0, .slice ao7 kids7.length cp7]) (bw0 (by simp <;> omega)) rfl rfl (by decide) (by omega) (by omega) (Kids.snoc (Kids.snoc (Kids.one ((Nd.mk (kd := kd2) (tx := tx2) (nm := nm2) (ps := ps2) row2).ag (aw2 (aw7 (aw8 aw0 (by first | omega | (simp <;> omega))) (by first | omega | (simp <;> omega))) (by simp <;> omega))) (by omega) (by omega) (.inr (by omega))) ((Nd.mk (kd := kd3) (tx := tx3) (nm := nm3) (ps := ps3) row3).ag (aw2 (aw7 (aw8 aw0 (by first | omega | (simp <;> omega))) (by first | omega | (simp <;> omega))) (by simp <;> omega))) (by omega) (by omega) (.inr (by omega))) ((Nd.mk (kd := kd7) (tx := tx7) (nm := nm7) (ps := ps7) row7).ag (aw2 (aw7 (aw7 aw0 (by first | omega | (simp <;> omega))) (by first | omega | (simp <;> omega))) (by simp <;> omega))) (by omega) (by omega) (.inr (by omega)))) (by simp <;> omega) ?_ ?_)
 ·exact pw2 (pw7 (pw7 (by go_wf) ok (by first | omega | (simp <;> omega))) ok (by first | omega | (simp <;> omega)))
 ·exact gw2 (gw7 (gw7 (by go_wf) (by first | omega | (simp <;> omega))) (by first | omega | (simp <;> omega)))
open Go.RowKit Lx Px
set_option maxHeartbeats 4000000 in
theorem builtinM_w (C : Ctx) (ok : C.Ok) (n : Nat) (ih : All C n) : CNt C 120 (.builtin .makeArgs) #[.pointer (some ⟨C.b, 0, none⟩), .func (.func 121) #[.pointer (some ⟨C.b, 0, none⟩)] #[]] (n + 1) := by
 intro h k w p h6 hout
 have hr : run C.ts (n + 1) (.builtin .makeArgs) h k = fBuiltin C.ts (run C.ts n) .makeArgs h k := rfl
 rw [hr] at hout ⊢
 clear hr
 generalize hR : fBuiltin C.ts (run C.ts n) .makeArgs h k = r0 at hout ⊢
 have H6 := hide h6
 clear h6
 have hbl := p.lt
 have htb := ok.lt
 have htf0 := tokF0
 have htf1 := tokF1
 have htf3 := tokF3
 have hmf := hmfL
 have G0 := grown_refl w (some C.b)
 have HR := hide hR
 clear hR
 have HO := hide hout
 clear hout
 go_enter Tryz.func120, Tryz.ntmps120
 go_wp2_with fail
 refine (take_any C ok k h _ (pw2 (by go_wf)) (unhide H6)).mono ?_
 rintro e w1 ⟨rfl, p1, hg⟩
 have hz1 := hg.size
 (try simp at hz1)
 have G1 : w.grownBy w1 (some C.b) := grown_trans (gw2 (by go_wf)) hg
 have bl0_1 : BL w1 w.heap.size (nd0) := BL.grown (bw0 (by omega)) hg (by omega)
 have hl0_1 := bl0_1.lt
 clear hg
 have ⟨⟨ne1, nf1⟩, ⟨ne2, nf2⟩, ⟨ne3, nf3⟩⟩ : NN C.b w.heap.size ∧ NN C.b w1.heap.size ∧ NN w.heap.size w1.heap.size := by omega
 by_cases c1 : isS C.ts (k + 1) [[40]] = true
 rotate_left
 ·skip
  go_wp2_with fail
  refine (want_no C ok (k + 1) h _ ⟨#[98, 117, 105, 108, 116, 105, 110]⟩ [40] (pw2 (by go_wf)) (Bool.eq_false_iff.2 c1)).mono ?_
  rintro e w2 ⟨rfl, hgq⟩
  exact ⟨rfl, npost_bad (by rw [← unhide HR]; simp only [fBuiltin, ub, eq_false c1]) (grown_trans (gw2 (by go_wf)) (grown_any hgq))⟩
 go_wp2_with fail
 refine (want_yes C ok (k + 1) h _ ⟨#[98, 117, 105, 108, 116, 105, 110]⟩ [40] (pw2 (by go_wf)) c1).mono ?_
 rintro e w2 ⟨rfl, p2, hg⟩
 have hz2 := hg.size
 (try simp at hz2)
 have G2 : w.grownBy w2 (some C.b) := grown_trans (gw2 (by go_wf)) hg
 have bl0_2 : BL w2 w.heap.size (nd0) := BL.grown (bw2 (by go_wf)) hg (by omega)
 have hl0_2 := bl0_2.lt
 have bl1_2 : BL w2 w1.heap.size (.cells #[.int .i64 (tok C.ts k).kind, .string ⟨(tok C.ts k).text.toArray⟩, .int .i64 (tok C.ts k).num, .int .i64 (tok C.ts k).pos] 36) := BL.grown (bw0 (by omega)) hg (by omega)
 have hl1_2 := bl1_2.lt
 have zc1_2 := bl1_2.cell
 clear bl0_1
 clear p1
 clear hg
 have ⟨⟨ne4, nf4⟩, ⟨ne5, nf5⟩, ⟨ne6, nf6⟩⟩ : NN C.b w2.heap.size ∧ NN w.heap.size w2.heap.size ∧ NN w1.heap.size w2.heap.size := by omega
 go_wp2
 go_region_held2 (fun w' => w'.cell? ⟨w1.heap.size, 1, none⟩ = some (.string ⟨(tok C.ts k).text.toArray⟩) ∧ w'.cell? ⟨w1.heap.size, 3, none⟩ = some (.int .i64 (tok C.ts k).pos)) (go_keep) (first | (go_at_call 104; (refine (withinL C ok 121 #[.pointer (some ⟨C.b, 0, none⟩)] #[] en119 (run C.ts n .makeArgs false (k + 1 + 1)) false h (k + 1 + 1) _ (pw1 (by go_wf)) (fun w0 _ q0 => ih.at.makeArgs false (k + 1 + 1) w0 q0 (fun hx => unhide HO ((unhide HR).symm.trans (by simp only [fBuiltin, ub, eq_true c1, hx]))))).mono ?_; rintro e w3 hp; rcases hp with ⟨l3, s3, k3, ao3, cp3, hq, rfl, hrow, p3, hg⟩ | ⟨pb, rule, hq, rfl, hg⟩; rotate_left; (exact ⟨rfl, npost_bad (by rw [← unhide HR]; simp only [fBuiltin, ub, eq_true c1, hq]) (grown_trans (gw1 (by go_wf)) hg)⟩); have hz3 := hg.size; (try simp at hz3); have G3 : w.grownBy w3 (some C.b) := grown_trans (gw1 (by go_wf)) hg; have bl0_3 : BL w3 w.heap.size (nd0) := BL.grown (bw1 (by go_wf)) hg (by omega); have hl0_3 := bl0_3.lt; have zc0_3 := bl0_3.cell; have fz0_3 := bl0_3.frozen; have bl1_3 : BL w3 w1.heap.size (.cells #[.int .i64 (tok C.ts k).kind, .string ⟨(tok C.ts k).text.toArray⟩, .int .i64 (tok C.ts k).num, .int .i64 (tok C.ts k).pos] 36) := BL.grown (bw1 (by go_wf)) hg (by omega); have hl1_3 := bl1_3.lt; have zc1_3 := bl1_3.cell; have fz1_3 := bl1_3.frozen; clear bl0_2; clear bl1_2 zc1_2; clear p2; obtain ⟨lo3, hlo3, row3⟩ := hrow.named; (try simp at hlo3); have HQ3 := hide hq; clear hrow hq; clear hg; have ne7 : ¬ C.b = w3.heap.size := (by omega); have nf7 : ¬ w3.heap.size = C.b := (by omega); have ne8 : ¬ w.heap.size = w3.heap.size := (by omega); have nf8 : ¬ w3.heap.size = w.heap.size := (by omega); have ne9 : ¬ w1.heap.size = w3.heap.size := (by omega); have nf9 : ¬ w3.heap.size = w1.heap.size := (by omega))))
 go_wp2
 refine bodyPost_ret (v := .agg #[.int .i64 44, .string ⟨(tok C.ts k).text.toArray⟩, .int .i64 0, .int .i64 (tok C.ts k).pos, .string ⟨#[]⟩, .int .i64 0, .slice ao3 l3.length cp3]) (by simp [results, Tryz.results120, go_sem, *]) rfl (npost_ok (hi := w3.heap.size) (s := 0) (k' := k3) (tx := (tok C.ts k).text) (kids := l3) (by rw [← unhide HR]; simp only [fBuiltin, ub, eq_true c1, unhide HQ3]) (row3.ag (aw7 aw0 (by first | omega | (simp <;> omega))) (by omega) (Nat.le_refl _)) (by simp <;> omega) ?_ ?_)
 ·exact pw7 (by go_wf) ok (by first | omega | (simp <;> omega))
 ·exact gw7 (by go_wf) (by first | omega | (simp <;> omega))
set_option maxHeartbeats 4000000 in
theorem builtinN_w (C : Ctx) (ok : C.Ok) (n : Nat) (ih : All C n) : CNt C 120 (.builtin .newArgs) #[.pointer (some ⟨C.b, 0, none⟩), .func (.func 122) #[.pointer (some ⟨C.b, 0, none⟩)] #[]] (n + 1) := by
 intro h k w p h6 hout
 have hr : run C.ts (n + 1) (.builtin .newArgs) h k = fBuiltin C.ts (run C.ts n) .newArgs h k := rfl
 rw [hr] at hout ⊢
 clear hr
 generalize hR : fBuiltin C.ts (run C.ts n) .newArgs h k = r0 at hout ⊢
 have H6 := hide h6
 clear h6
 have hbl := p.lt
 have htb := ok.lt
 have htf0 := tokF0
 have htf1 := tokF1
 have htf3 := tokF3
 have hmf := hmfL
 have G0 := grown_refl w (some C.b)
 have HR := hide hR
 clear hR
 have HO := hide hout
 clear hout
 go_enter Tryz.func120, Tryz.ntmps120
 go_wp2_with fail
 refine (take_any C ok k h _ (pw2 (by go_wf)) (unhide H6)).mono ?_
 rintro e w1 ⟨rfl, p1, hg⟩
 have hz1 := hg.size
 (try simp at hz1)
 have G1 : w.grownBy w1 (some C.b) := grown_trans (gw2 (by go_wf)) hg
 have bl0_1 : BL w1 w.heap.size (nd0) := BL.grown (bw0 (by omega)) hg (by omega)
 have hl0_1 := bl0_1.lt
 clear hg
 have ⟨⟨ne1, nf1⟩, ⟨ne2, nf2⟩, ⟨ne3, nf3⟩⟩ : NN C.b w.heap.size ∧ NN C.b w1.heap.size ∧ NN w.heap.size w1.heap.size := by omega
 by_cases c1 : isS C.ts (k + 1) [[40]] = true
 rotate_left
 ·skip
  go_wp2_with fail
  refine (want_no C ok (k + 1) h _ ⟨#[98, 117, 105, 108, 116, 105, 110]⟩ [40] (pw2 (by go_wf)) (Bool.eq_false_iff.2 c1)).mono ?_
  rintro e w2 ⟨rfl, hgq⟩
  exact ⟨rfl, npost_bad (by rw [← unhide HR]; simp only [fBuiltin, ub, eq_false c1]) (grown_trans (gw2 (by go_wf)) (grown_any hgq))⟩
 go_wp2_with fail
 refine (want_yes C ok (k + 1) h _ ⟨#[98, 117, 105, 108, 116, 105, 110]⟩ [40] (pw2 (by go_wf)) c1).mono ?_
 rintro e w2 ⟨rfl, p2, hg⟩
 have hz2 := hg.size
 (try simp at hz2)
 have G2 : w.grownBy w2 (some C.b) := grown_trans (gw2 (by go_wf)) hg
 have bl0_2 : BL w2 w.heap.size (nd0) := BL.grown (bw2 (by go_wf)) hg (by omega)
 have hl0_2 := bl0_2.lt
 have bl1_2 : BL w2 w1.heap.size (.cells #[.int .i64 (tok C.ts k).kind, .string ⟨(tok C.ts k).text.toArray⟩, .int .i64 (tok C.ts k).num, .int .i64 (tok C.ts k).pos] 36) := BL.grown (bw0 (by omega)) hg (by omega)
 have hl1_2 := bl1_2.lt
 have zc1_2 := bl1_2.cell
 clear bl0_1
 clear p1
 clear hg
 have ⟨⟨ne4, nf4⟩, ⟨ne5, nf5⟩, ⟨ne6, nf6⟩⟩ : NN C.b w2.heap.size ∧ NN w.heap.size w2.heap.size ∧ NN w1.heap.size w2.heap.size := by omega
 go_wp2
 go_region_held2 (fun w' => w'.cell? ⟨w1.heap.size, 1, none⟩ = some (.string ⟨(tok C.ts k).text.toArray⟩) ∧ w'.cell? ⟨w1.heap.size, 3, none⟩ = some (.int .i64 (tok C.ts k).pos)) (go_keep) (first | (go_at_call 104; (refine (withinL C ok 122 #[.pointer (some ⟨C.b, 0, none⟩)] #[] en120 (run C.ts n .newArgs false (k + 1 + 1)) false h (k + 1 + 1) _ (pw1 (by go_wf)) (fun w0 _ q0 => ih.at.newArgs false (k + 1 + 1) w0 q0 (fun hx => unhide HO ((unhide HR).symm.trans (by simp only [fBuiltin, ub, eq_true c1, hx]))))).mono ?_; rintro e w3 hp; rcases hp with ⟨l3, s3, k3, ao3, cp3, hq, rfl, hrow, p3, hg⟩ | ⟨pb, rule, hq, rfl, hg⟩; rotate_left; (exact ⟨rfl, npost_bad (by rw [← unhide HR]; simp only [fBuiltin, ub, eq_true c1, hq]) (grown_trans (gw1 (by go_wf)) hg)⟩); have hz3 := hg.size; (try simp at hz3); have G3 : w.grownBy w3 (some C.b) := grown_trans (gw1 (by go_wf)) hg; have bl0_3 : BL w3 w.heap.size (nd0) := BL.grown (bw1 (by go_wf)) hg (by omega); have hl0_3 := bl0_3.lt; have zc0_3 := bl0_3.cell; have fz0_3 := bl0_3.frozen; have bl1_3 : BL w3 w1.heap.size (.cells #[.int .i64 (tok C.ts k).kind, .string ⟨(tok C.ts k).text.toArray⟩, .int .i64 (tok C.ts k).num, .int .i64 (tok C.ts k).pos] 36) := BL.grown (bw1 (by go_wf)) hg (by omega); have hl1_3 := bl1_3.lt; have zc1_3 := bl1_3.cell; have fz1_3 := bl1_3.frozen; clear bl0_2; clear bl1_2 zc1_2; clear p2; obtain ⟨lo3, hlo3, row3⟩ := hrow.named; (try simp at hlo3); have HQ3 := hide hq; clear hrow hq; clear hg; have ne7 : ¬ C.b = w3.heap.size := (by omega); have nf7 : ¬ w3.heap.size = C.b := (by omega); have ne8 : ¬ w.heap.size = w3.heap.size := (by omega); have nf8 : ¬ w3.heap.size = w.heap.size := (by omega); have ne9 : ¬ w1.heap.size = w3.heap.size := (by omega); have nf9 : ¬ w3.heap.size = w1.heap.size := (by omega))))
 go_wp2
 refine bodyPost_ret (v := .agg #[.int .i64 44, .string ⟨(tok C.ts k).text.toArray⟩, .int .i64 0, .int .i64 (tok C.ts k).pos, .string ⟨#[]⟩, .int .i64 0, .slice ao3 l3.length cp3]) (by simp [results, Tryz.results120, go_sem, *]) rfl (npost_ok (hi := w3.heap.size) (s := 0) (k' := k3) (tx := (tok C.ts k).text) (kids := l3) (by rw [← unhide HR]; simp only [fBuiltin, ub, eq_true c1, unhide HQ3]) (row3.ag (aw7 aw0 (by first | omega | (simp <;> omega))) (by omega) (Nat.le_refl _)) (by simp <;> omega) ?_ ?_)
 ·exact pw7 (by go_wf) ok (by first | omega | (simp <;> omega))
 ·exact gw7 (by go_wf) (by first | omega | (simp <;> omega))
set_option maxHeartbeats 4000000 in
theorem builtinA_w (C : Ctx) (ok : C.Ok) (n : Nat) (ih : All C n) : CNt C 120 (.builtin .args) #[.pointer (some ⟨C.b, 0, none⟩), .func (.func 110) #[.pointer (some ⟨C.b, 0, none⟩)] #[]] (n + 1) := by
 intro h k w p h6 hout
 have hr : run C.ts (n + 1) (.builtin .args) h k = fBuiltin C.ts (run C.ts n) .args h k := rfl
 rw [hr] at hout ⊢
 clear hr
 generalize hR : fBuiltin C.ts (run C.ts n) .args h k = r0 at hout ⊢
 have H6 := hide h6
 clear h6
 have hbl := p.lt
 have htb := ok.lt
 have htf0 := tokF0
 have htf1 := tokF1
 have htf3 := tokF3
 have hmf := hmfL
 have G0 := grown_refl w (some C.b)
 have HR := hide hR
 clear hR
 have HO := hide hout
 clear hout
 go_enter Tryz.func120, Tryz.ntmps120
 go_wp2_with fail
 refine (take_any C ok k h _ (pw2 (by go_wf)) (unhide H6)).mono ?_
 rintro e w1 ⟨rfl, p1, hg⟩
 have hz1 := hg.size
 (try simp at hz1)
 have G1 : w.grownBy w1 (some C.b) := grown_trans (gw2 (by go_wf)) hg
 have bl0_1 : BL w1 w.heap.size (nd0) := BL.grown (bw0 (by omega)) hg (by omega)
 have hl0_1 := bl0_1.lt
 clear hg
 have ⟨⟨ne1, nf1⟩, ⟨ne2, nf2⟩, ⟨ne3, nf3⟩⟩ : NN C.b w.heap.size ∧ NN C.b w1.heap.size ∧ NN w.heap.size w1.heap.size := by omega
 by_cases c1 : isS C.ts (k + 1) [[40]] = true
 rotate_left
 ·skip
  go_wp2_with fail
  refine (want_no C ok (k + 1) h _ ⟨#[98, 117, 105, 108, 116, 105, 110]⟩ [40] (pw2 (by go_wf)) (Bool.eq_false_iff.2 c1)).mono ?_
  rintro e w2 ⟨rfl, hgq⟩
  exact ⟨rfl, npost_bad (by rw [← unhide HR]; simp only [fBuiltin, ub, eq_false c1]) (grown_trans (gw2 (by go_wf)) (grown_any hgq))⟩
 go_wp2_with fail
 refine (want_yes C ok (k + 1) h _ ⟨#[98, 117, 105, 108, 116, 105, 110]⟩ [40] (pw2 (by go_wf)) c1).mono ?_
 rintro e w2 ⟨rfl, p2, hg⟩
 have hz2 := hg.size
 (try simp at hz2)
 have G2 : w.grownBy w2 (some C.b) := grown_trans (gw2 (by go_wf)) hg
 have bl0_2 : BL w2 w.heap.size (nd0) := BL.grown (bw2 (by go_wf)) hg (by omega)
 have hl0_2 := bl0_2.lt
 have bl1_2 : BL w2 w1.heap.size (.cells #[.int .i64 (tok C.ts k).kind, .string ⟨(tok C.ts k).text.toArray⟩, .int .i64 (tok C.ts k).num, .int .i64 (tok C.ts k).pos] 36) := BL.grown (bw0 (by omega)) hg (by omega)
 have hl1_2 := bl1_2.lt
 have zc1_2 := bl1_2.cell
 clear bl0_1
 clear p1
 clear hg
 have ⟨⟨ne4, nf4⟩, ⟨ne5, nf5⟩, ⟨ne6, nf6⟩⟩ : NN C.b w2.heap.size ∧ NN w.heap.size w2.heap.size ∧ NN w1.heap.size w2.heap.size := by omega
 go_wp2
 go_region_held2 (fun w' => w'.cell? ⟨w1.heap.size, 1, none⟩ = some (.string ⟨(tok C.ts k).text.toArray⟩) ∧ w'.cell? ⟨w1.heap.size, 3, none⟩ = some (.int .i64 (tok C.ts k).pos)) (go_keep) (first | (go_at_call 104; (refine (withinL C ok 110 #[.pointer (some ⟨C.b, 0, none⟩)] #[] en108 (run C.ts n .args false (k + 1 + 1)) false h (k + 1 + 1) _ (pw1 (by go_wf)) (fun w0 _ q0 => ih.at.args false (k + 1 + 1) w0 q0 (fun hx => unhide HO ((unhide HR).symm.trans (by simp only [fBuiltin, ub, eq_true c1, hx]))))).mono ?_; rintro e w3 hp; rcases hp with ⟨l3, s3, k3, ao3, cp3, hq, rfl, hrow, p3, hg⟩ | ⟨pb, rule, hq, rfl, hg⟩; rotate_left; (exact ⟨rfl, npost_bad (by rw [← unhide HR]; simp only [fBuiltin, ub, eq_true c1, hq]) (grown_trans (gw1 (by go_wf)) hg)⟩); have hz3 := hg.size; (try simp at hz3); have G3 : w.grownBy w3 (some C.b) := grown_trans (gw1 (by go_wf)) hg; have bl0_3 : BL w3 w.heap.size (nd0) := BL.grown (bw1 (by go_wf)) hg (by omega); have hl0_3 := bl0_3.lt; have zc0_3 := bl0_3.cell; have fz0_3 := bl0_3.frozen; have bl1_3 : BL w3 w1.heap.size (.cells #[.int .i64 (tok C.ts k).kind, .string ⟨(tok C.ts k).text.toArray⟩, .int .i64 (tok C.ts k).num, .int .i64 (tok C.ts k).pos] 36) := BL.grown (bw1 (by go_wf)) hg (by omega); have hl1_3 := bl1_3.lt; have zc1_3 := bl1_3.cell; have fz1_3 := bl1_3.frozen; clear bl0_2; clear bl1_2 zc1_2; clear p2; obtain ⟨lo3, hlo3, row3⟩ := hrow.named; (try simp at hlo3); have HQ3 := hide hq; clear hrow hq; clear hg; have ne7 : ¬ C.b = w3.heap.size := (by omega); have nf7 : ¬ w3.heap.size = C.b := (by omega); have ne8 : ¬ w.heap.size = w3.heap.size := (by omega); have nf8 : ¬ w3.heap.size = w.heap.size := (by omega); have ne9 : ¬ w1.heap.size = w3.heap.size := (by omega); have nf9 : ¬ w3.heap.size = w1.heap.size := (by omega))))
 go_wp2
 refine bodyPost_ret (v := .agg #[.int .i64 44, .string ⟨(tok C.ts k).text.toArray⟩, .int .i64 0, .int .i64 (tok C.ts k).pos, .string ⟨#[]⟩, .int .i64 0, .slice ao3 l3.length cp3]) (by simp [results, Tryz.results120, go_sem, *]) rfl (npost_ok (hi := w3.heap.size) (s := 0) (k' := k3) (tx := (tok C.ts k).text) (kids := l3) (by rw [← unhide HR]; simp only [fBuiltin, ub, eq_true c1, unhide HQ3]) (row3.ag (aw7 aw0 (by first | omega | (simp <;> omega))) (by omega) (Nat.le_refl _)) (by simp <;> omega) ?_ ?_)
 ·exact pw7 (by go_wf) ok (by first | omega | (simp <;> omega))
 ·exact gw7 (by go_wf) (by first | omega | (simp <;> omega))
set_option maxHeartbeats 4000000 in
theorem operand_w (C : Ctx) (ok : C.Ok) (n : Nat) (ih : All C n) : CS C 109 .operand #[.pointer (some ⟨C.b, 0, none⟩)] (n + 1) := by
 intro h k w p hout
 have hr : run C.ts (n + 1) .operand h k = fOperand C.ts (run C.ts n) h k := rfl
 rw [hr] at hout ⊢
 clear hr
 generalize hR : fOperand C.ts (run C.ts n) h k = r0 at hout ⊢
 have hbl := p.lt
 have G0 := grown_refl w (some C.b)
 have HR := hide hR
 clear hR
 have HO := hide hout
 clear hout
 by_cases e2 : (tok C.ts k).kind = 2
 ·skip
  have b2 : ((tok C.ts k).kind == 2) = true := by simp [e2]
  have h6 : Hid ((tok C.ts k).kind ≠ 6) := by show (tok C.ts k).kind ≠ 6; omega
  have E2 := hide e2
  clear e2
  go_enter Tryz.func109, Tryz.ntmps109
  go_wp2_with fail
  refine (token_any C ok k h _ (pw2 (by go_wf))).mono ?_
  rintro e w1 ⟨rfl, hgq⟩
  have p1 := PS.quiet (C := C) (k := k) (h := h) (pw2 (by go_wf)) hgq
  have hg := grown_any (r := some C.b) hgq
  clear hgq
  have hz1 := hg.size
  (try simp at hz1)
  have G1 : w.grownBy w1 (some C.b) := grown_trans (gw2 (by go_wf)) hg
  have bl0_1 : BL w1 w.heap.size (nd0) := BL.grown (bw0 (by omega)) hg (by omega)
  clear hg
  have ⟨nf1, nf2⟩ : ¬ w.heap.size = C.b ∧ ¬ w1.heap.size = C.b := by omega
  go_wp2_with fail
  refine (take_any C ok k h _ (pw2 (by go_wf)) (unhide h6)).mono ?_
  rintro e w2 ⟨rfl, p2, hg⟩
  have G2 : w.grownBy w2 (some C.b) := grown_trans (gw2 (by go_wf)) hg
  have bl0_2 : BL w2 w.heap.size (nd0) := BL.grown (bw2 (by go_wf)) hg (by omega)
  have zc0_2 := bl0_2.cell
  have fz0_2 := bl0_2.frozen
  have bl1_2 : BL w2 w1.heap.size (.cells #[.int .i64 (tok C.ts k).kind, .string ⟨(tok C.ts k).text.toArray⟩, .int .i64 (tok C.ts k).num, .int .i64 (tok C.ts k).pos] 36) := BL.grown (bw0 (by omega)) hg (by omega)
  have zc1_2 := bl1_2.cell
  clear bl0_1
  clear p1
  clear hg
  go_wp2
  refine bodyPost_ret (v := .tuple #[.agg #[.int .i64 36, .string ⟨#[]⟩, .int .i64 (tok C.ts k).num, .int .i64 (tok C.ts k).pos, .string ⟨#[]⟩, .int .i64 0, .slice none 0 0], .int .i64 2]) (by simp [results, Tryz.results109, go_sem, *]) rfl (spost_ok (hi := w2.heap.size) (s := 2) (k' := k + 1) (tx := []) (kids := []) (by rw [← unhide HR]; simp only [fOperand, ub, eq_true (unhide E2)]) (RowI.nil _ _ _) (by simp <;> omega) ?_ ?_)
  ·exact pw7 (by go_wf) ok (by first | omega | (simp <;> omega))
  ·exact gw7 (by go_wf) (by first | omega | (simp <;> omega))
 by_cases e3 : (tok C.ts k).kind = 3
 ·skip
  have b2 : ((tok C.ts k).kind == 2) = false := by simp [e3]
  have b3 : ((tok C.ts k).kind == 3) = true := by simp [e3]
  have h6 : Hid ((tok C.ts k).kind ≠ 6) := by show (tok C.ts k).kind ≠ 6; omega
  have E3 := hide e3
  clear e3
  go_enter Tryz.func109, Tryz.ntmps109
  go_wp2_with fail
  refine (token_any C ok k h _ (pw2 (by go_wf))).mono ?_
  rintro e w1 ⟨rfl, hgq⟩
  have p1 := PS.quiet (C := C) (k := k) (h := h) (pw2 (by go_wf)) hgq
  have hg := grown_any (r := some C.b) hgq
  clear hgq
  have hz1 := hg.size
  (try simp at hz1)
  have G1 : w.grownBy w1 (some C.b) := grown_trans (gw2 (by go_wf)) hg
  have bl0_1 : BL w1 w.heap.size (nd0) := BL.grown (bw0 (by omega)) hg (by omega)
  clear hg
  have ⟨nf1, nf2⟩ : ¬ w.heap.size = C.b ∧ ¬ w1.heap.size = C.b := by omega
  go_wp2_with fail
  refine (take_any C ok k h _ (pw2 (by go_wf)) (unhide h6)).mono ?_
  rintro e w2 ⟨rfl, p2, hg⟩
  have G2 : w.grownBy w2 (some C.b) := grown_trans (gw2 (by go_wf)) hg
  have bl0_2 : BL w2 w.heap.size (nd0) := BL.grown (bw2 (by go_wf)) hg (by omega)
  have zc0_2 := bl0_2.cell
  have fz0_2 := bl0_2.frozen
  have bl1_2 : BL w2 w1.heap.size (.cells #[.int .i64 (tok C.ts k).kind, .string ⟨(tok C.ts k).text.toArray⟩, .int .i64 (tok C.ts k).num, .int .i64 (tok C.ts k).pos] 36) := BL.grown (bw0 (by omega)) hg (by omega)
  have zc1_2 := bl1_2.cell
  clear bl0_1
  clear p1
  clear hg
  go_wp2
  refine bodyPost_ret (v := .tuple #[.agg #[.int .i64 37, .string ⟨(tok C.ts k).text.toArray⟩, .int .i64 0, .int .i64 (tok C.ts k).pos, .string ⟨#[]⟩, .int .i64 0, .slice none 0 0], .int .i64 2]) (by simp [results, Tryz.results109, go_sem, *]) rfl (spost_ok (hi := w2.heap.size) (s := 2) (k' := k + 1) (tx := (tok C.ts k).text) (kids := []) (by rw [← unhide HR]; simp only [fOperand, ub, eq_false e2, eq_true (unhide E3)]) (RowI.nil _ _ _) (by simp <;> omega) ?_ ?_)
  ·exact pw7 (by go_wf) ok (by first | omega | (simp <;> omega))
  ·exact gw7 (by go_wf) (by first | omega | (simp <;> omega))
 by_cases e1 : (tok C.ts k).kind = 1
 ·skip
  have b2 : ((tok C.ts k).kind == 2) = false := by simp [e1]
  have b3 : ((tok C.ts k).kind == 3) = false := by simp [e1]
  have b1 : ((tok C.ts k).kind == 1) = true := by simp [e1]
  have h6 : Hid ((tok C.ts k).kind ≠ 6) := by show (tok C.ts k).kind ≠ 6; omega
  have E1 := hide e1
  clear e1
  go_enter Tryz.func109, Tryz.ntmps109
  go_wp2_with fail
  refine (token_any C ok k h _ (pw2 (by go_wf))).mono ?_
  rintro e w1 ⟨rfl, hgq⟩
  have p1 := PS.quiet (C := C) (k := k) (h := h) (pw2 (by go_wf)) hgq
  have hg := grown_any (r := some C.b) hgq
  clear hgq
  have hz1 := hg.size
  (try simp at hz1)
  have G1 : w.grownBy w1 (some C.b) := grown_trans (gw2 (by go_wf)) hg
  have bl0_1 : BL w1 w.heap.size (nd0) := BL.grown (bw0 (by omega)) hg (by omega)
  clear hg
  have ⟨nf1, nf2⟩ : ¬ w.heap.size = C.b ∧ ¬ w1.heap.size = C.b := by omega
  go_wp2_with fail
  refine (take_any C ok k h _ (pw2 (by go_wf)) (unhide h6)).mono ?_
  rintro e w2 ⟨rfl, p2, hg⟩
  have G2 : w.grownBy w2 (some C.b) := grown_trans (gw2 (by go_wf)) hg
  have bl0_2 : BL w2 w.heap.size (nd0) := BL.grown (bw2 (by go_wf)) hg (by omega)
  have zc0_2 := bl0_2.cell
  have fz0_2 := bl0_2.frozen
  have bl1_2 : BL w2 w1.heap.size (.cells #[.int .i64 (tok C.ts k).kind, .string ⟨(tok C.ts k).text.toArray⟩, .int .i64 (tok C.ts k).num, .int .i64 (tok C.ts k).pos] 36) := BL.grown (bw0 (by omega)) hg (by omega)
  have zc1_2 := bl1_2.cell
  clear bl0_1
  clear p1
  clear hg
  go_wp2
  refine bodyPost_ret (v := .tuple #[.agg #[.int .i64 40, .string ⟨(tok C.ts k).text.toArray⟩, .int .i64 0, .int .i64 (tok C.ts k).pos, .string ⟨#[]⟩, .int .i64 0, .slice none 0 0], .int .i64 3]) (by simp [results, Tryz.results109, go_sem, *]) rfl (spost_ok (hi := w2.heap.size) (s := 3) (k' := k + 1) (tx := (tok C.ts k).text) (kids := []) (by rw [← unhide HR]; simp only [fOperand, ub, eq_false e2, eq_false e3, eq_true (unhide E1)]) (RowI.nil _ _ _) (by simp <;> omega) ?_ ?_)
  ·exact pw7 (by go_wf) ok (by first | omega | (simp <;> omega))
  ·exact gw7 (by go_wf) (by first | omega | (simp <;> omega))
 by_cases e4 : (tok C.ts k).kind = 4
 ·skip
  have b2 : ((tok C.ts k).kind == 2) = false := by simp [e4]
  have b3 : ((tok C.ts k).kind == 3) = false := by simp [e4]
  have b1 : ((tok C.ts k).kind == 1) = false := by simp [e4]
  have b4 : ((tok C.ts k).kind == 4) = true := by simp [e4]
  have h6 : Hid ((tok C.ts k).kind ≠ 6) := by show (tok C.ts k).kind ≠ 6; omega
  have E4 := hide e4
  clear e4
  go_enter Tryz.func109, Tryz.ntmps109
  go_wp2_with fail
  refine (token_any C ok k h _ (pw2 (by go_wf))).mono ?_
  rintro e w1 ⟨rfl, hgq⟩
  have p1 := PS.quiet (C := C) (k := k) (h := h) (pw2 (by go_wf)) hgq
  have hg := grown_any (r := some C.b) hgq
  clear hgq
  have hz1 := hg.size
  (try simp at hz1)
  have G1 : w.grownBy w1 (some C.b) := grown_trans (gw2 (by go_wf)) hg
  have bl0_1 : BL w1 w.heap.size (nd0) := BL.grown (bw0 (by omega)) hg (by omega)
  clear hg
  have nf1 : ¬ w.heap.size = C.b := by omega
  go_wp2_with fail
  refine (ih.at.wordOperand h k _ (pw2 (by go_wf)) (unhide h6) (fun hx => unhide HO ((unhide HR).symm.trans (by simp only [fOperand, ub, eq_false e2, eq_false e3, eq_false e1, eq_true (unhide E4), hx])))).mono ?_
  rintro e w2 hp
  rcases hp with ⟨kd2, tx2, nm2, ps2, kids2, s2, k2, ao2, cp2, hq, rfl, hrow, p2, hg⟩ | ⟨pb, rule, hq, rfl, hg⟩
  rotate_left
  (exact ⟨rfl, spost_bad (by rw [← unhide HR]; simp only [fOperand, ub, eq_false e2, eq_false e3, eq_false e1, eq_true (unhide E4), hq]) (grown_trans (gw2 (by go_wf)) hg)⟩)
  have G2 : w.grownBy w2 (some C.b) := grown_trans (gw2 (by go_wf)) hg
  have bl0_2 : BL w2 w.heap.size (nd0) := BL.grown (bw2 (by go_wf)) hg (by omega)
  have zc0_2 := bl0_2.cell
  have fz0_2 := bl0_2.frozen
  clear bl0_1
  clear p1
  obtain ⟨lo2, hlo2, row2⟩ := hrow.named
  (try simp at hlo2)
  have HQ2 := hide hq
  clear hrow hq
  clear hg
  go_wp2
  refine bodyPost_ret (v := .tuple #[.agg #[.int .i64 kd2, .string ⟨tx2.toArray⟩, .int .i64 nm2, .int .i64 ps2, .string ⟨#[]⟩, .int .i64 0, .slice ao2 kids2.length cp2], .int .i64 s2]) (by simp [results, Tryz.results109, go_sem, *]) rfl (spost_ok (hi := w2.heap.size) (s := s2) (k' := k2) (tx := tx2) (kids := kids2) (by rw [← unhide HR]; simp only [fOperand, ub, eq_false e2, eq_false e3, eq_false e1, eq_true (unhide E4), unhide HQ2]) (row2.ag (aw7 aw0 (by first | omega | (simp <;> omega))) (by omega) (Nat.le_refl _)) (by simp <;> omega) ?_ ?_)
  ·exact pw7 (by go_wf) ok (by first | omega | (simp <;> omega))
  ·exact gw7 (by go_wf) (by first | omega | (simp <;> omega))
 have b2 : ((tok C.ts k).kind == 2) = false := by simp [e2]
 have b3 : ((tok C.ts k).kind == 3) = false := by simp [e3]
 have b1 : ((tok C.ts k).kind == 1) = false := by simp [e1]
 have b4 : ((tok C.ts k).kind == 4) = false := by simp [e4]
 go_enter Tryz.func109, Tryz.ntmps109
 go_wp2_with fail
 refine (token_any C ok k h _ (pw2 (by go_wf))).mono ?_
 rintro e w1 ⟨rfl, hgq⟩
 have p1 := PS.quiet (C := C) (k := k) (h := h) (pw2 (by go_wf)) hgq
 have hg := grown_any (r := some C.b) hgq
 clear hgq
 have hz1 := hg.size
 (try simp at hz1)
 have G1 : w.grownBy w1 (some C.b) := grown_trans (gw2 (by go_wf)) hg
 have bl0_1 : BL w1 w.heap.size (nd0) := BL.grown (bw0 (by omega)) hg (by omega)
 clear hg
 have nf1 : ¬ w.heap.size = C.b := by omega
 go_wp2_with fail
 refine (ih.at.markOperand h k _ (pw2 (by go_wf)) (fun hx => unhide HO ((unhide HR).symm.trans (by simp only [fOperand, ub, eq_false e2, eq_false e3, eq_false e1, eq_false e4, hx])))).mono ?_
 rintro e w2 hp
 rcases hp with ⟨kd2, tx2, nm2, ps2, kids2, s2, k2, ao2, cp2, hq, rfl, hrow, p2, hg⟩ | ⟨pb, rule, hq, rfl, hg⟩
 rotate_left
 (exact ⟨rfl, spost_bad (by rw [← unhide HR]; simp only [fOperand, ub, eq_false e2, eq_false e3, eq_false e1, eq_false e4, hq]) (grown_trans (gw2 (by go_wf)) hg)⟩)
 have G2 : w.grownBy w2 (some C.b) := grown_trans (gw2 (by go_wf)) hg
 have bl0_2 : BL w2 w.heap.size (nd0) := BL.grown (bw2 (by go_wf)) hg (by omega)
 have zc0_2 := bl0_2.cell
 have fz0_2 := bl0_2.frozen
 clear bl0_1
 clear p1
 obtain ⟨lo2, hlo2, row2⟩ := hrow.named
 (try simp at hlo2)
 have HQ2 := hide hq
 clear hrow hq
 clear hg
 go_wp2
 refine bodyPost_ret (v := .tuple #[.agg #[.int .i64 kd2, .string ⟨tx2.toArray⟩, .int .i64 nm2, .int .i64 ps2, .string ⟨#[]⟩, .int .i64 0, .slice ao2 kids2.length cp2], .int .i64 2]) (by simp [results, Tryz.results109, go_sem, *]) rfl (spost_ok (hi := w2.heap.size) (s := 2) (k' := k2) (tx := tx2) (kids := kids2) (by rw [← unhide HR]; simp only [fOperand, ub, eq_false e2, eq_false e3, eq_false e1, eq_false e4, unhide HQ2]) (row2.ag (aw7 aw0 (by first | omega | (simp <;> omega))) (by omega) (Nat.le_refl _)) (by simp <;> omega) ?_ ?_)
 ·exact pw7 (by go_wf) ok (by first | omega | (simp <;> omega))
 ·exact gw7 (by go_wf) (by first | omega | (simp <;> omega))
set_option maxHeartbeats 4000000 in
theorem wordOperand_w (C : Ctx) (ok : C.Ok) (n : Nat) (ih : All C n) : CSt C 117 .wordOperand #[.pointer (some ⟨C.b, 0, none⟩)] (n + 1) := by
 intro h k w p h6 hout
 have hr : run C.ts (n + 1) .wordOperand h k = fWordOperand C.ts (run C.ts n) h k := rfl
 rw [hr] at hout ⊢
 clear hr
 generalize hR : fWordOperand C.ts (run C.ts n) h k = r0 at hout ⊢
 have H6 := hide h6
 clear h6
 have hbl := p.lt
 have htb := ok.lt
 have htf0 := tokF0
 have htf1 := tokF1
 have htf3 := tokF3
 have hmf := hmfL
 have G0 := grown_refl w (some C.b)
 have HR := hide hR
 clear hR
 have HO := hide hout
 clear hout
 by_cases etrue : (tok C.ts k).text = [116, 114, 117, 101]
 ·skip
  have betrue : ((tok C.ts k).text == [116, 114, 117, 101]) = true := by simp [etrue]
  have Etrue := hide etrue
  clear etrue
  go_enter Tryz.func117, Tryz.ntmps117
  go_wp2_with fail
  refine (token_any C ok k h _ (pw2 (by go_wf))).mono ?_
  rintro e w1 ⟨rfl, hgq⟩
  have p1 := PS.quiet (C := C) (k := k) (h := h) (pw2 (by go_wf)) hgq
  have hg := grown_any (r := some C.b) hgq
  clear hgq
  have hz1 := hg.size
  (try simp at hz1)
  have G1 : w.grownBy w1 (some C.b) := grown_trans (gw2 (by go_wf)) hg
  have bl0_1 : BL w1 w.heap.size (nd0) := BL.grown (bw0 (by omega)) hg (by omega)
  have hl0_1 := bl0_1.lt
  clear hg
  have ⟨⟨ne1, nf1⟩, ⟨ne2, nf2⟩, ⟨ne3, nf3⟩⟩ : NN C.b w.heap.size ∧ NN C.b w1.heap.size ∧ NN w.heap.size w1.heap.size := by omega
  go_wp2_with fail
  refine (take_any C ok k h _ (pw2 (by go_wf)) (unhide H6)).mono ?_
  rintro e w2 ⟨rfl, p2, hg⟩
  have hz2 := hg.size
  (try simp at hz2)
  have G2 : w.grownBy w2 (some C.b) := grown_trans (gw2 (by go_wf)) hg
  have bl0_2 : BL w2 w.heap.size (nd0) := BL.grown (bw2 (by go_wf)) hg (by omega)
  have hl0_2 := bl0_2.lt
  have zc0_2 := bl0_2.cell
  have fz0_2 := bl0_2.frozen
  have bl1_2 : BL w2 w1.heap.size (.cells #[.int .i64 (tok C.ts k).kind, .string ⟨(tok C.ts k).text.toArray⟩, .int .i64 (tok C.ts k).num, .int .i64 (tok C.ts k).pos] 36) := BL.grown (bw0 (by omega)) hg (by omega)
  have hl1_2 := bl1_2.lt
  have zc1_2 := bl1_2.cell
  clear bl0_1
  clear p1
  clear hg
  have ⟨⟨ne4, nf4⟩, ⟨ne5, nf5⟩, ⟨ne6, nf6⟩⟩ : NN C.b w2.heap.size ∧ NN w.heap.size w2.heap.size ∧ NN w1.heap.size w2.heap.size := by omega
  go_wp2
  refine bodyPost_ret (v := .tuple #[.agg #[.int .i64 38, .string ⟨(tok C.ts k).text.toArray⟩, .int .i64 0, .int .i64 (tok C.ts k).pos, .string ⟨#[]⟩, .int .i64 0, .slice none 0 0], .int .i64 2]) (by simp [results, Tryz.results117, go_sem, *]) rfl (spost_ok (hi := w2.heap.size) (s := 2) (k' := k + 1) (tx := (tok C.ts k).text) (kids := []) (by rw [← unhide HR]; simp only [fWordOperand, ub, eq_true (unhide Etrue), h2a (a := [116, 114, 117, 101]) (b := [102, 97, 108, 115, 101]) (unhide Etrue)]) (RowI.nil _ _ _) (by simp <;> omega) ?_ ?_)
  ·exact pw7 (by go_wf) ok (by first | omega | (simp <;> omega))
  ·exact gw7 (by go_wf) (by first | omega | (simp <;> omega))
 by_cases efalse : (tok C.ts k).text = [102, 97, 108, 115, 101]
 ·skip
  have betrue : ((tok C.ts k).text == [116, 114, 117, 101]) = false := beq_eq_false_iff_ne.2 etrue
  have befalse : ((tok C.ts k).text == [102, 97, 108, 115, 101]) = true := by simp [efalse]
  have Efalse := hide efalse
  clear efalse
  go_enter Tryz.func117, Tryz.ntmps117
  go_wp2_with fail
  refine (token_any C ok k h _ (pw2 (by go_wf))).mono ?_
  rintro e w1 ⟨rfl, hgq⟩
  have p1 := PS.quiet (C := C) (k := k) (h := h) (pw2 (by go_wf)) hgq
  have hg := grown_any (r := some C.b) hgq
  clear hgq
  have hz1 := hg.size
  (try simp at hz1)
  have G1 : w.grownBy w1 (some C.b) := grown_trans (gw2 (by go_wf)) hg
  have bl0_1 : BL w1 w.heap.size (nd0) := BL.grown (bw0 (by omega)) hg (by omega)
  have hl0_1 := bl0_1.lt
  clear hg
  have ⟨⟨ne1, nf1⟩, ⟨ne2, nf2⟩, ⟨ne3, nf3⟩⟩ : NN C.b w.heap.size ∧ NN C.b w1.heap.size ∧ NN w.heap.size w1.heap.size := by omega
  go_wp2_with fail
  refine (take_any C ok k h _ (pw2 (by go_wf)) (unhide H6)).mono ?_
  rintro e w2 ⟨rfl, p2, hg⟩
  have hz2 := hg.size
  (try simp at hz2)
  have G2 : w.grownBy w2 (some C.b) := grown_trans (gw2 (by go_wf)) hg
  have bl0_2 : BL w2 w.heap.size (nd0) := BL.grown (bw2 (by go_wf)) hg (by omega)
  have hl0_2 := bl0_2.lt
  have zc0_2 := bl0_2.cell
  have fz0_2 := bl0_2.frozen
  have bl1_2 : BL w2 w1.heap.size (.cells #[.int .i64 (tok C.ts k).kind, .string ⟨(tok C.ts k).text.toArray⟩, .int .i64 (tok C.ts k).num, .int .i64 (tok C.ts k).pos] 36) := BL.grown (bw0 (by omega)) hg (by omega)
  have hl1_2 := bl1_2.lt
  have zc1_2 := bl1_2.cell
  clear bl0_1
  clear p1
  clear hg
  have ⟨⟨ne4, nf4⟩, ⟨ne5, nf5⟩, ⟨ne6, nf6⟩⟩ : NN C.b w2.heap.size ∧ NN w.heap.size w2.heap.size ∧ NN w1.heap.size w2.heap.size := by omega
  go_wp2
  refine bodyPost_ret (v := .tuple #[.agg #[.int .i64 38, .string ⟨(tok C.ts k).text.toArray⟩, .int .i64 0, .int .i64 (tok C.ts k).pos, .string ⟨#[]⟩, .int .i64 0, .slice none 0 0], .int .i64 2]) (by simp [results, Tryz.results117, go_sem, *]) rfl (spost_ok (hi := w2.heap.size) (s := 2) (k' := k + 1) (tx := (tok C.ts k).text) (kids := []) (by rw [← unhide HR]; simp only [fWordOperand, ub, eq_false etrue, eq_true (unhide Efalse), h2b (a := [116, 114, 117, 101]) (b := [102, 97, 108, 115, 101]) (unhide Efalse)]) (RowI.nil _ _ _) (by simp <;> omega) ?_ ?_)
  ·exact pw7 (by go_wf) ok (by first | omega | (simp <;> omega))
  ·exact gw7 (by go_wf) (by first | omega | (simp <;> omega))
 by_cases enil : (tok C.ts k).text = [110, 105, 108]
 ·skip
  have betrue : ((tok C.ts k).text == [116, 114, 117, 101]) = false := beq_eq_false_iff_ne.2 etrue
  have befalse : ((tok C.ts k).text == [102, 97, 108, 115, 101]) = false := beq_eq_false_iff_ne.2 efalse
  have benil : ((tok C.ts k).text == [110, 105, 108]) = true := by simp [enil]
  have Enil := hide enil
  clear enil
  go_enter Tryz.func117, Tryz.ntmps117
  go_wp2_with fail
  refine (token_any C ok k h _ (pw2 (by go_wf))).mono ?_
  rintro e w1 ⟨rfl, hgq⟩
  have p1 := PS.quiet (C := C) (k := k) (h := h) (pw2 (by go_wf)) hgq
  have hg := grown_any (r := some C.b) hgq
  clear hgq
  have hz1 := hg.size
  (try simp at hz1)
  have G1 : w.grownBy w1 (some C.b) := grown_trans (gw2 (by go_wf)) hg
  have bl0_1 : BL w1 w.heap.size (nd0) := BL.grown (bw0 (by omega)) hg (by omega)
  have hl0_1 := bl0_1.lt
  clear hg
  have ⟨⟨ne1, nf1⟩, ⟨ne2, nf2⟩, ⟨ne3, nf3⟩⟩ : NN C.b w.heap.size ∧ NN C.b w1.heap.size ∧ NN w.heap.size w1.heap.size := by omega
  go_wp2_with fail
  refine (take_any C ok k h _ (pw2 (by go_wf)) (unhide H6)).mono ?_
  rintro e w2 ⟨rfl, p2, hg⟩
  have hz2 := hg.size
  (try simp at hz2)
  have G2 : w.grownBy w2 (some C.b) := grown_trans (gw2 (by go_wf)) hg
  have bl0_2 : BL w2 w.heap.size (nd0) := BL.grown (bw2 (by go_wf)) hg (by omega)
  have hl0_2 := bl0_2.lt
  have zc0_2 := bl0_2.cell
  have fz0_2 := bl0_2.frozen
  have bl1_2 : BL w2 w1.heap.size (.cells #[.int .i64 (tok C.ts k).kind, .string ⟨(tok C.ts k).text.toArray⟩, .int .i64 (tok C.ts k).num, .int .i64 (tok C.ts k).pos] 36) := BL.grown (bw0 (by omega)) hg (by omega)
  have hl1_2 := bl1_2.lt
  have zc1_2 := bl1_2.cell
  clear bl0_1
  clear p1
  clear hg
  have ⟨⟨ne4, nf4⟩, ⟨ne5, nf5⟩, ⟨ne6, nf6⟩⟩ : NN C.b w2.heap.size ∧ NN w.heap.size w2.heap.size ∧ NN w1.heap.size w2.heap.size := by omega
  go_wp2
  refine bodyPost_ret (v := .tuple #[.agg #[.int .i64 39, .string ⟨#[]⟩, .int .i64 0, .int .i64 (tok C.ts k).pos, .string ⟨#[]⟩, .int .i64 0, .slice none 0 0], .int .i64 2]) (by simp [results, Tryz.results117, go_sem, *]) rfl (spost_ok (hi := w2.heap.size) (s := 2) (k' := k + 1) (tx := []) (kids := []) (by rw [← unhide HR]; simp only [fWordOperand, ub, eq_false etrue, eq_false efalse, eq_true (unhide Enil), h2n etrue efalse]) (RowI.nil _ _ _) (by simp <;> omega) ?_ ?_)
  ·exact pw7 (by go_wf) ok (by first | omega | (simp <;> omega))
  ·exact gw7 (by go_wf) (by first | omega | (simp <;> omega))
 by_cases efunc : (tok C.ts k).text = [102, 117, 110, 99]
 ·skip
  have betrue : ((tok C.ts k).text == [116, 114, 117, 101]) = false := beq_eq_false_iff_ne.2 etrue
  have befalse : ((tok C.ts k).text == [102, 97, 108, 115, 101]) = false := beq_eq_false_iff_ne.2 efalse
  have benil : ((tok C.ts k).text == [110, 105, 108]) = false := beq_eq_false_iff_ne.2 enil
  have befunc : ((tok C.ts k).text == [102, 117, 110, 99]) = true := by simp [efunc]
  have Efunc := hide efunc
  clear efunc
  go_enter Tryz.func117, Tryz.ntmps117
  go_wp2_with fail
  refine (token_any C ok k h _ (pw2 (by go_wf))).mono ?_
  rintro e w1 ⟨rfl, hgq⟩
  have p1 := PS.quiet (C := C) (k := k) (h := h) (pw2 (by go_wf)) hgq
  have hg := grown_any (r := some C.b) hgq
  clear hgq
  have hz1 := hg.size
  (try simp at hz1)
  have G1 : w.grownBy w1 (some C.b) := grown_trans (gw2 (by go_wf)) hg
  have bl0_1 : BL w1 w.heap.size (nd0) := BL.grown (bw0 (by omega)) hg (by omega)
  have hl0_1 := bl0_1.lt
  clear hg
  have ⟨⟨ne1, nf1⟩, ⟨ne2, nf2⟩, ⟨ne3, nf3⟩⟩ : NN C.b w.heap.size ∧ NN C.b w1.heap.size ∧ NN w.heap.size w1.heap.size := by omega
  go_wp2_with fail
  refine (take_any C ok k h _ (pw2 (by go_wf)) (unhide H6)).mono ?_
  rintro e w2 ⟨rfl, p2, hg⟩
  have hz2 := hg.size
  (try simp at hz2)
  have G2 : w.grownBy w2 (some C.b) := grown_trans (gw2 (by go_wf)) hg
  have bl0_2 : BL w2 w.heap.size (nd0) := BL.grown (bw2 (by go_wf)) hg (by omega)
  have hl0_2 := bl0_2.lt
  have bl1_2 : BL w2 w1.heap.size (.cells #[.int .i64 (tok C.ts k).kind, .string ⟨(tok C.ts k).text.toArray⟩, .int .i64 (tok C.ts k).num, .int .i64 (tok C.ts k).pos] 36) := BL.grown (bw0 (by omega)) hg (by omega)
  have hl1_2 := bl1_2.lt
  have zc1_2 := bl1_2.cell
  clear bl0_1
  clear p1
  clear hg
  have ⟨⟨ne4, nf4⟩, ⟨ne5, nf5⟩, ⟨ne6, nf6⟩⟩ : NN C.b w2.heap.size ∧ NN w.heap.size w2.heap.size ∧ NN w1.heap.size w2.heap.size := by omega
  go_wp2
  go_region_held2 (fun w' => w'.cell? ⟨w1.heap.size, 3, none⟩ = some (.int .i64 (tok C.ts k).pos)) (go_keep) (first | (go_at_call 61; (refine (ih.at.function h (k + 1) _ (pw1 (by go_wf)) (fun hx => unhide HO ((unhide HR).symm.trans (by simp only [fWordOperand, ub, eq_false etrue, eq_false efalse, eq_false enil, eq_true (unhide Efunc), h2n etrue efalse, hx])))).mono ?_; rintro e w3 hp; rcases hp with ⟨l3, s3, k3, ao3, cp3, hq, rfl, hrow, p3, hg⟩ | ⟨pb, rule, hq, rfl, hg⟩; rotate_left; (exact ⟨rfl, spost_bad (by rw [← unhide HR]; simp only [fWordOperand, ub, eq_false etrue, eq_false efalse, eq_false enil, eq_true (unhide Efunc), h2n etrue efalse, hq]) (grown_trans (gw1 (by go_wf)) hg)⟩); have hz3 := hg.size; (try simp at hz3); have G3 : w.grownBy w3 (some C.b) := grown_trans (gw1 (by go_wf)) hg; have bl0_3 : BL w3 w.heap.size (nd0) := BL.grown (bw1 (by go_wf)) hg (by omega); have hl0_3 := bl0_3.lt; have zc0_3 := bl0_3.cell; have fz0_3 := bl0_3.frozen; have bl1_3 : BL w3 w1.heap.size (.cells #[.int .i64 (tok C.ts k).kind, .string ⟨(tok C.ts k).text.toArray⟩, .int .i64 (tok C.ts k).num, .int .i64 (tok C.ts k).pos] 36) := BL.grown (bw1 (by go_wf)) hg (by omega); have hl1_3 := bl1_3.lt; have zc1_3 := bl1_3.cell; have fz1_3 := bl1_3.frozen; clear bl0_2; clear bl1_2 zc1_2; clear p2; obtain ⟨lo3, hlo3, row3⟩ := hrow.named; (try simp at hlo3); have HQ3 := hide hq; clear hrow hq; clear hg; have ne7 : ¬ C.b = w3.heap.size := (by omega); have nf7 : ¬ w3.heap.size = C.b := (by omega); have ne8 : ¬ w.heap.size = w3.heap.size := (by omega); have nf8 : ¬ w3.heap.size = w.heap.size := (by omega); have ne9 : ¬ w1.heap.size = w3.heap.size := (by omega); have nf9 : ¬ w3.heap.size = w1.heap.size := (by omega))))
  go_wp2
  refine bodyPost_ret (v := .tuple #[.agg #[.int .i64 48, .string ⟨#[]⟩, .int .i64 0, .int .i64 (tok C.ts k).pos, .string ⟨#[]⟩, .int .i64 0, .slice ao3 l3.length cp3], .int .i64 2]) (by simp [results, Tryz.results117, go_sem, *]) rfl (spost_ok (hi := w3.heap.size) (s := 2) (k' := k3) (tx := []) (kids := l3) (by rw [← unhide HR]; simp only [fWordOperand, ub, eq_false etrue, eq_false efalse, eq_false enil, eq_true (unhide Efunc), h2n etrue efalse, unhide HQ3]) (row3.ag (aw7 aw0 (by first | omega | (simp <;> omega))) (by omega) (Nat.le_refl _)) (by simp <;> omega) ?_ ?_)
  ·exact pw7 (by go_wf) ok (by first | omega | (simp <;> omega))
  ·exact gw7 (by go_wf) (by first | omega | (simp <;> omega))
 by_cases emake : (tok C.ts k).text = [109, 97, 107, 101]
 ·skip
  have betrue : ((tok C.ts k).text == [116, 114, 117, 101]) = false := beq_eq_false_iff_ne.2 etrue
  have befalse : ((tok C.ts k).text == [102, 97, 108, 115, 101]) = false := beq_eq_false_iff_ne.2 efalse
  have benil : ((tok C.ts k).text == [110, 105, 108]) = false := beq_eq_false_iff_ne.2 enil
  have befunc : ((tok C.ts k).text == [102, 117, 110, 99]) = false := beq_eq_false_iff_ne.2 efunc
  have bemake : ((tok C.ts k).text == [109, 97, 107, 101]) = true := by simp [emake]
  have Emake := hide emake
  clear emake
  go_enter Tryz.func117, Tryz.ntmps117
  go_wp2_with fail
  refine (token_any C ok k h _ (pw2 (by go_wf))).mono ?_
  rintro e w1 ⟨rfl, hgq⟩
  have p1 := PS.quiet (C := C) (k := k) (h := h) (pw2 (by go_wf)) hgq
  have hg := grown_any (r := some C.b) hgq
  clear hgq
  have hz1 := hg.size
  (try simp at hz1)
  have G1 : w.grownBy w1 (some C.b) := grown_trans (gw2 (by go_wf)) hg
  have bl0_1 : BL w1 w.heap.size (nd0) := BL.grown (bw0 (by omega)) hg (by omega)
  have hl0_1 := bl0_1.lt
  clear hg
  have ⟨⟨ne1, nf1⟩, ⟨ne2, nf2⟩, ⟨ne3, nf3⟩⟩ : NN C.b w.heap.size ∧ NN C.b w1.heap.size ∧ NN w.heap.size w1.heap.size := by omega
  go_wp2_with fail
  refine (ih.at.builtinM h k _ (pw2 (by go_wf)) (unhide H6) (fun hx => unhide HO ((unhide HR).symm.trans (by simp only [fWordOperand, ub, eq_false etrue, eq_false efalse, eq_false enil, eq_false efunc, eq_true (unhide Emake), h2n etrue efalse, hx])))).mono ?_
  rintro e w2 hp
  rcases hp with ⟨kd2, tx2, nm2, ps2, kids2, s2, k2, ao2, cp2, hq, rfl, hrow, p2, hg⟩ | ⟨pb, rule, hq, rfl, hg⟩
  rotate_left
  (exact ⟨rfl, spost_bad (by rw [← unhide HR]; simp only [fWordOperand, ub, eq_false etrue, eq_false efalse, eq_false enil, eq_false efunc, eq_true (unhide Emake), h2n etrue efalse, hq]) (grown_trans (gw2 (by go_wf)) hg)⟩)
  have hz2 := hg.size
  (try simp at hz2)
  have G2 : w.grownBy w2 (some C.b) := grown_trans (gw2 (by go_wf)) hg
  have bl0_2 : BL w2 w.heap.size (nd0) := BL.grown (bw2 (by go_wf)) hg (by omega)
  have hl0_2 := bl0_2.lt
  have zc0_2 := bl0_2.cell
  have fz0_2 := bl0_2.frozen
  have bl1_2 : BL w2 w1.heap.size (.cells #[.int .i64 (tok C.ts k).kind, .string ⟨(tok C.ts k).text.toArray⟩, .int .i64 (tok C.ts k).num, .int .i64 (tok C.ts k).pos] 36) := BL.grown (bw0 (by omega)) hg (by omega)
  have hl1_2 := bl1_2.lt
  clear bl0_1
  clear p1
  obtain ⟨lo2, hlo2, row2⟩ := hrow.named
  (try simp at hlo2)
  have HQ2 := hide hq
  clear hrow hq
  clear hg
  have ⟨⟨ne4, nf4⟩, ⟨ne5, nf5⟩, ⟨ne6, nf6⟩⟩ : NN C.b w2.heap.size ∧ NN w.heap.size w2.heap.size ∧ NN w1.heap.size w2.heap.size := by omega
  go_wp2
  refine bodyPost_ret (v := .tuple #[.agg #[.int .i64 kd2, .string ⟨tx2.toArray⟩, .int .i64 nm2, .int .i64 ps2, .string ⟨#[]⟩, .int .i64 0, .slice ao2 kids2.length cp2], .int .i64 2]) (by simp [results, Tryz.results117, go_sem, *]) rfl (spost_ok (hi := w2.heap.size) (s := 2) (k' := k2) (tx := tx2) (kids := kids2) (by rw [← unhide HR]; simp only [fWordOperand, ub, eq_false etrue, eq_false efalse, eq_false enil, eq_false efunc, eq_true (unhide Emake), h2n etrue efalse, unhide HQ2]) (row2.ag (aw7 aw0 (by first | omega | (simp <;> omega))) (by omega) (Nat.le_refl _)) (by simp <;> omega) ?_ ?_)
  ·exact pw7 (by go_wf) ok (by first | omega | (simp <;> omega))
  ·exact gw7 (by go_wf) (by first | omega | (simp <;> omega))
 by_cases enew : (tok C.ts k).text = [110, 101, 119]
 ·skip
  have betrue : ((tok C.ts k).text == [116, 114, 117, 101]) = false := beq_eq_false_iff_ne.2 etrue
  have befalse : ((tok C.ts k).text == [102, 97, 108, 115, 101]) = false := beq_eq_false_iff_ne.2 efalse
  have benil : ((tok C.ts k).text == [110, 105, 108]) = false := beq_eq_false_iff_ne.2 enil
  have befunc : ((tok C.ts k).text == [102, 117, 110, 99]) = false := beq_eq_false_iff_ne.2 efunc
  have bemake : ((tok C.ts k).text == [109, 97, 107, 101]) = false := beq_eq_false_iff_ne.2 emake
  have benew : ((tok C.ts k).text == [110, 101, 119]) = true := by simp [enew]
  have Enew := hide enew
  clear enew
  go_enter Tryz.func117, Tryz.ntmps117
  go_wp2_with fail
  refine (token_any C ok k h _ (pw2 (by go_wf))).mono ?_
  rintro e w1 ⟨rfl, hgq⟩
  have p1 := PS.quiet (C := C) (k := k) (h := h) (pw2 (by go_wf)) hgq
  have hg := grown_any (r := some C.b) hgq
  clear hgq
  have hz1 := hg.size
  (try simp at hz1)
  have G1 : w.grownBy w1 (some C.b) := grown_trans (gw2 (by go_wf)) hg
  have bl0_1 : BL w1 w.heap.size (nd0) := BL.grown (bw0 (by omega)) hg (by omega)
  have hl0_1 := bl0_1.lt
  clear hg
  have ⟨⟨ne1, nf1⟩, ⟨ne2, nf2⟩, ⟨ne3, nf3⟩⟩ : NN C.b w.heap.size ∧ NN C.b w1.heap.size ∧ NN w.heap.size w1.heap.size := by omega
  go_wp2_with fail
  refine (ih.at.builtinN h k _ (pw2 (by go_wf)) (unhide H6) (fun hx => unhide HO ((unhide HR).symm.trans (by simp only [fWordOperand, ub, eq_false etrue, eq_false efalse, eq_false enil, eq_false efunc, eq_false emake, eq_true (unhide Enew), h2n etrue efalse, hx])))).mono ?_
  rintro e w2 hp
  rcases hp with ⟨kd2, tx2, nm2, ps2, kids2, s2, k2, ao2, cp2, hq, rfl, hrow, p2, hg⟩ | ⟨pb, rule, hq, rfl, hg⟩
  rotate_left
  (exact ⟨rfl, spost_bad (by rw [← unhide HR]; simp only [fWordOperand, ub, eq_false etrue, eq_false efalse, eq_false enil, eq_false efunc, eq_false emake, eq_true (unhide Enew), h2n etrue efalse, hq]) (grown_trans (gw2 (by go_wf)) hg)⟩)
  have hz2 := hg.size
  (try simp at hz2)
  have G2 : w.grownBy w2 (some C.b) := grown_trans (gw2 (by go_wf)) hg
  have bl0_2 : BL w2 w.heap.size (nd0) := BL.grown (bw2 (by go_wf)) hg (by omega)
  have hl0_2 := bl0_2.lt
  have zc0_2 := bl0_2.cell
  have fz0_2 := bl0_2.frozen
  have bl1_2 : BL w2 w1.heap.size (.cells #[.int .i64 (tok C.ts k).kind, .string ⟨(tok C.ts k).text.toArray⟩, .int .i64 (tok C.ts k).num, .int .i64 (tok C.ts k).pos] 36) := BL.grown (bw0 (by omega)) hg (by omega)
  have hl1_2 := bl1_2.lt
  clear bl0_1
  clear p1
  obtain ⟨lo2, hlo2, row2⟩ := hrow.named
  (try simp at hlo2)
  have HQ2 := hide hq
  clear hrow hq
  clear hg
  have ⟨⟨ne4, nf4⟩, ⟨ne5, nf5⟩, ⟨ne6, nf6⟩⟩ : NN C.b w2.heap.size ∧ NN w.heap.size w2.heap.size ∧ NN w1.heap.size w2.heap.size := by omega
  go_wp2
  refine bodyPost_ret (v := .tuple #[.agg #[.int .i64 kd2, .string ⟨tx2.toArray⟩, .int .i64 nm2, .int .i64 ps2, .string ⟨#[]⟩, .int .i64 0, .slice ao2 kids2.length cp2], .int .i64 2]) (by simp [results, Tryz.results117, go_sem, *]) rfl (spost_ok (hi := w2.heap.size) (s := 2) (k' := k2) (tx := tx2) (kids := kids2) (by rw [← unhide HR]; simp only [fWordOperand, ub, eq_false etrue, eq_false efalse, eq_false enil, eq_false efunc, eq_false emake, eq_true (unhide Enew), h2n etrue efalse, unhide HQ2]) (row2.ag (aw7 aw0 (by first | omega | (simp <;> omega))) (by omega) (Nat.le_refl _)) (by simp <;> omega) ?_ ?_)
  ·exact pw7 (by go_wf) ok (by first | omega | (simp <;> omega))
  ·exact gw7 (by go_wf) (by first | omega | (simp <;> omega))
 by_cases eappend : (tok C.ts k).text = [97, 112, 112, 101, 110, 100]
 ·skip
  have betrue : ((tok C.ts k).text == [116, 114, 117, 101]) = false := beq_eq_false_iff_ne.2 etrue
  have befalse : ((tok C.ts k).text == [102, 97, 108, 115, 101]) = false := beq_eq_false_iff_ne.2 efalse
  have benil : ((tok C.ts k).text == [110, 105, 108]) = false := beq_eq_false_iff_ne.2 enil
  have befunc : ((tok C.ts k).text == [102, 117, 110, 99]) = false := beq_eq_false_iff_ne.2 efunc
  have bemake : ((tok C.ts k).text == [109, 97, 107, 101]) = false := beq_eq_false_iff_ne.2 emake
  have benew : ((tok C.ts k).text == [110, 101, 119]) = false := beq_eq_false_iff_ne.2 enew
  have beappend : ((tok C.ts k).text == [97, 112, 112, 101, 110, 100]) = true := by simp [eappend]
  have HL7 := hide (show [[97, 112, 112, 101, 110, 100], [99, 97, 112], [99, 108, 111, 115, 101], [108, 101, 110], [112, 97, 110, 105, 99], [112, 114, 105, 110, 116], [114, 101, 99, 111, 118, 101, 114]].contains (tok C.ts k).text = true from by rw [eappend]; decide)
  have Eappend := hide eappend
  clear eappend
  go_enter Tryz.func117, Tryz.ntmps117
  go_wp2_with fail
  refine (token_any C ok k h _ (pw2 (by go_wf))).mono ?_
  rintro e w1 ⟨rfl, hgq⟩
  have p1 := PS.quiet (C := C) (k := k) (h := h) (pw2 (by go_wf)) hgq
  have hg := grown_any (r := some C.b) hgq
  clear hgq
  have hz1 := hg.size
  (try simp at hz1)
  have G1 : w.grownBy w1 (some C.b) := grown_trans (gw2 (by go_wf)) hg
  have bl0_1 : BL w1 w.heap.size (nd0) := BL.grown (bw0 (by omega)) hg (by omega)
  have hl0_1 := bl0_1.lt
  clear hg
  have ⟨⟨ne1, nf1⟩, ⟨ne2, nf2⟩, ⟨ne3, nf3⟩⟩ : NN C.b w.heap.size ∧ NN C.b w1.heap.size ∧ NN w.heap.size w1.heap.size := by omega
  go_wp2_with fail
  refine (ih.at.builtinA h k _ (pw2 (by go_wf)) (unhide H6) (fun hx => unhide HO ((unhide HR).symm.trans (by simp only [fWordOperand, ub, eq_false etrue, eq_false efalse, eq_false enil, eq_false efunc, eq_false emake, eq_false enew, eq_true (unhide Eappend), h2n etrue efalse, eq_true (unhide HL7), hx])))).mono ?_
  rintro e w2 hp
  rcases hp with ⟨kd2, tx2, nm2, ps2, kids2, s2, k2, ao2, cp2, hq, rfl, hrow, p2, hg⟩ | ⟨pb, rule, hq, rfl, hg⟩
  rotate_left
  (exact ⟨rfl, spost_bad (by rw [← unhide HR]; simp only [fWordOperand, ub, eq_false etrue, eq_false efalse, eq_false enil, eq_false efunc, eq_false emake, eq_false enew, eq_true (unhide Eappend), h2n etrue efalse, eq_true (unhide HL7), hq]) (grown_trans (gw2 (by go_wf)) hg)⟩)
  have hz2 := hg.size
  (try simp at hz2)
  have G2 : w.grownBy w2 (some C.b) := grown_trans (gw2 (by go_wf)) hg
  have bl0_2 : BL w2 w.heap.size (nd0) := BL.grown (bw2 (by go_wf)) hg (by omega)
  have hl0_2 := bl0_2.lt
  have zc0_2 := bl0_2.cell
  have fz0_2 := bl0_2.frozen
  have bl1_2 : BL w2 w1.heap.size (.cells #[.int .i64 (tok C.ts k).kind, .string ⟨(tok C.ts k).text.toArray⟩, .int .i64 (tok C.ts k).num, .int .i64 (tok C.ts k).pos] 36) := BL.grown (bw0 (by omega)) hg (by omega)
  have hl1_2 := bl1_2.lt
  clear bl0_1
  clear p1
  obtain ⟨lo2, hlo2, row2⟩ := hrow.named
  (try simp at hlo2)
  have HQ2 := hide hq
  clear hrow hq
  clear hg
  have ⟨⟨ne4, nf4⟩, ⟨ne5, nf5⟩, ⟨ne6, nf6⟩⟩ : NN C.b w2.heap.size ∧ NN w.heap.size w2.heap.size ∧ NN w1.heap.size w2.heap.size := by omega
  go_wp2
  refine bodyPost_ret (v := .tuple #[.agg #[.int .i64 kd2, .string ⟨tx2.toArray⟩, .int .i64 nm2, .int .i64 ps2, .string ⟨#[]⟩, .int .i64 0, .slice ao2 kids2.length cp2], .int .i64 5]) (by simp [results, Tryz.results117, go_sem, *]) rfl (spost_ok (hi := w2.heap.size) (s := 5) (k' := k2) (tx := tx2) (kids := kids2) (by rw [← unhide HR]; simp only [fWordOperand, ub, eq_false etrue, eq_false efalse, eq_false enil, eq_false efunc, eq_false emake, eq_false enew, eq_true (unhide Eappend), h2n etrue efalse, eq_true (unhide HL7), unhide HQ2]) (row2.ag (aw7 aw0 (by first | omega | (simp <;> omega))) (by omega) (Nat.le_refl _)) (by simp <;> omega) ?_ ?_)
  ·exact pw7 (by go_wf) ok (by first | omega | (simp <;> omega))
  ·exact gw7 (by go_wf) (by first | omega | (simp <;> omega))
 by_cases ecap : (tok C.ts k).text = [99, 97, 112]
 ·skip
  have betrue : ((tok C.ts k).text == [116, 114, 117, 101]) = false := beq_eq_false_iff_ne.2 etrue
  have befalse : ((tok C.ts k).text == [102, 97, 108, 115, 101]) = false := beq_eq_false_iff_ne.2 efalse
  have benil : ((tok C.ts k).text == [110, 105, 108]) = false := beq_eq_false_iff_ne.2 enil
  have befunc : ((tok C.ts k).text == [102, 117, 110, 99]) = false := beq_eq_false_iff_ne.2 efunc
  have bemake : ((tok C.ts k).text == [109, 97, 107, 101]) = false := beq_eq_false_iff_ne.2 emake
  have benew : ((tok C.ts k).text == [110, 101, 119]) = false := beq_eq_false_iff_ne.2 enew
  have beappend : ((tok C.ts k).text == [97, 112, 112, 101, 110, 100]) = false := beq_eq_false_iff_ne.2 eappend
  have becap : ((tok C.ts k).text == [99, 97, 112]) = true := by simp [ecap]
  have HL7 := hide (show [[97, 112, 112, 101, 110, 100], [99, 97, 112], [99, 108, 111, 115, 101], [108, 101, 110], [112, 97, 110, 105, 99], [112, 114, 105, 110, 116], [114, 101, 99, 111, 118, 101, 114]].contains (tok C.ts k).text = true from by rw [ecap]; decide)
  have Ecap := hide ecap
  clear ecap
  go_enter Tryz.func117, Tryz.ntmps117
  go_wp2_with fail
  refine (token_any C ok k h _ (pw2 (by go_wf))).mono ?_
  rintro e w1 ⟨rfl, hgq⟩
  have p1 := PS.quiet (C := C) (k := k) (h := h) (pw2 (by go_wf)) hgq
  have hg := grown_any (r := some C.b) hgq
  clear hgq
  have hz1 := hg.size
  (try simp at hz1)
  have G1 : w.grownBy w1 (some C.b) := grown_trans (gw2 (by go_wf)) hg
  have bl0_1 : BL w1 w.heap.size (nd0) := BL.grown (bw0 (by omega)) hg (by omega)
  have hl0_1 := bl0_1.lt
  clear hg
  have ⟨⟨ne1, nf1⟩, ⟨ne2, nf2⟩, ⟨ne3, nf3⟩⟩ : NN C.b w.heap.size ∧ NN C.b w1.heap.size ∧ NN w.heap.size w1.heap.size := by omega
  go_wp2_with fail
  refine (ih.at.builtinA h k _ (pw2 (by go_wf)) (unhide H6) (fun hx => unhide HO ((unhide HR).symm.trans (by simp only [fWordOperand, ub, eq_false etrue, eq_false efalse, eq_false enil, eq_false efunc, eq_false emake, eq_false enew, eq_false eappend, eq_true (unhide Ecap), h2n etrue efalse, eq_true (unhide HL7), hx])))).mono ?_
  rintro e w2 hp
  rcases hp with ⟨kd2, tx2, nm2, ps2, kids2, s2, k2, ao2, cp2, hq, rfl, hrow, p2, hg⟩ | ⟨pb, rule, hq, rfl, hg⟩
  rotate_left
  (exact ⟨rfl, spost_bad (by rw [← unhide HR]; simp only [fWordOperand, ub, eq_false etrue, eq_false efalse, eq_false enil, eq_false efunc, eq_false emake, eq_false enew, eq_false eappend, eq_true (unhide Ecap), h2n etrue efalse, eq_true (unhide HL7), hq]) (grown_trans (gw2 (by go_wf)) hg)⟩)
  have hz2 := hg.size
  (try simp at hz2)
  have G2 : w.grownBy w2 (some C.b) := grown_trans (gw2 (by go_wf)) hg
  have bl0_2 : BL w2 w.heap.size (nd0) := BL.grown (bw2 (by go_wf)) hg (by omega)
  have hl0_2 := bl0_2.lt
  have zc0_2 := bl0_2.cell
  have fz0_2 := bl0_2.frozen
  have bl1_2 : BL w2 w1.heap.size (.cells #[.int .i64 (tok C.ts k).kind, .string ⟨(tok C.ts k).text.toArray⟩, .int .i64 (tok C.ts k).num, .int .i64 (tok C.ts k).pos] 36) := BL.grown (bw0 (by omega)) hg (by omega)
  have hl1_2 := bl1_2.lt
  clear bl0_1
  clear p1
  obtain ⟨lo2, hlo2, row2⟩ := hrow.named
  (try simp at hlo2)
  have HQ2 := hide hq
  clear hrow hq
  clear hg
  have ⟨⟨ne4, nf4⟩, ⟨ne5, nf5⟩, ⟨ne6, nf6⟩⟩ : NN C.b w2.heap.size ∧ NN w.heap.size w2.heap.size ∧ NN w1.heap.size w2.heap.size := by omega
  go_wp2
  refine bodyPost_ret (v := .tuple #[.agg #[.int .i64 kd2, .string ⟨tx2.toArray⟩, .int .i64 nm2, .int .i64 ps2, .string ⟨#[]⟩, .int .i64 0, .slice ao2 kids2.length cp2], .int .i64 5]) (by simp [results, Tryz.results117, go_sem, *]) rfl (spost_ok (hi := w2.heap.size) (s := 5) (k' := k2) (tx := tx2) (kids := kids2) (by rw [← unhide HR]; simp only [fWordOperand, ub, eq_false etrue, eq_false efalse, eq_false enil, eq_false efunc, eq_false emake, eq_false enew, eq_false eappend, eq_true (unhide Ecap), h2n etrue efalse, eq_true (unhide HL7), unhide HQ2]) (row2.ag (aw7 aw0 (by first | omega | (simp <;> omega))) (by omega) (Nat.le_refl _)) (by simp <;> omega) ?_ ?_)
  ·exact pw7 (by go_wf) ok (by first | omega | (simp <;> omega))
  ·exact gw7 (by go_wf) (by first | omega | (simp <;> omega))
 by_cases eclose : (tok C.ts k).text = [99, 108, 111, 115, 101]
 ·skip
  have betrue : ((tok C.ts k).text == [116, 114, 117, 101]) = false := beq_eq_false_iff_ne.2 etrue
  have befalse : ((tok C.ts k).text == [102, 97, 108, 115, 101]) = false := beq_eq_false_iff_ne.2 efalse
  have benil : ((tok C.ts k).text == [110, 105, 108]) = false := beq_eq_false_iff_ne.2 enil
  have befunc : ((tok C.ts k).text == [102, 117, 110, 99]) = false := beq_eq_false_iff_ne.2 efunc
  have bemake : ((tok C.ts k).text == [109, 97, 107, 101]) = false := beq_eq_false_iff_ne.2 emake
  have benew : ((tok C.ts k).text == [110, 101, 119]) = false := beq_eq_false_iff_ne.2 enew
  have beappend : ((tok C.ts k).text == [97, 112, 112, 101, 110, 100]) = false := beq_eq_false_iff_ne.2 eappend
  have becap : ((tok C.ts k).text == [99, 97, 112]) = false := beq_eq_false_iff_ne.2 ecap
  have beclose : ((tok C.ts k).text == [99, 108, 111, 115, 101]) = true := by simp [eclose]
  have HL7 := hide (show [[97, 112, 112, 101, 110, 100], [99, 97, 112], [99, 108, 111, 115, 101], [108, 101, 110], [112, 97, 110, 105, 99], [112, 114, 105, 110, 116], [114, 101, 99, 111, 118, 101, 114]].contains (tok C.ts k).text = true from by rw [eclose]; decide)
  have Eclose := hide eclose
  clear eclose
  go_enter Tryz.func117, Tryz.ntmps117
  go_wp2_with fail
  refine (token_any C ok k h _ (pw2 (by go_wf))).mono ?_
  rintro e w1 ⟨rfl, hgq⟩
  have p1 := PS.quiet (C := C) (k := k) (h := h) (pw2 (by go_wf)) hgq
  have hg := grown_any (r := some C.b) hgq
  clear hgq
  have hz1 := hg.size
  (try simp at hz1)
  have G1 : w.grownBy w1 (some C.b) := grown_trans (gw2 (by go_wf)) hg
  have bl0_1 : BL w1 w.heap.size (nd0) := BL.grown (bw0 (by omega)) hg (by omega)
  have hl0_1 := bl0_1.lt
  clear hg
  have ⟨⟨ne1, nf1⟩, ⟨ne2, nf2⟩, ⟨ne3, nf3⟩⟩ : NN C.b w.heap.size ∧ NN C.b w1.heap.size ∧ NN w.heap.size w1.heap.size := by omega
  go_wp2_with fail
  refine (ih.at.builtinA h k _ (pw2 (by go_wf)) (unhide H6) (fun hx => unhide HO ((unhide HR).symm.trans (by simp only [fWordOperand, ub, eq_false etrue, eq_false efalse, eq_false enil, eq_false efunc, eq_false emake, eq_false enew, eq_false eappend, eq_false ecap, eq_true (unhide Eclose), h2n etrue efalse, eq_true (unhide HL7), hx])))).mono ?_
  rintro e w2 hp
  rcases hp with ⟨kd2, tx2, nm2, ps2, kids2, s2, k2, ao2, cp2, hq, rfl, hrow, p2, hg⟩ | ⟨pb, rule, hq, rfl, hg⟩
  rotate_left
  (exact ⟨rfl, spost_bad (by rw [← unhide HR]; simp only [fWordOperand, ub, eq_false etrue, eq_false efalse, eq_false enil, eq_false efunc, eq_false emake, eq_false enew, eq_false eappend, eq_false ecap, eq_true (unhide Eclose), h2n etrue efalse, eq_true (unhide HL7), hq]) (grown_trans (gw2 (by go_wf)) hg)⟩)
  have hz2 := hg.size
  (try simp at hz2)
  have G2 : w.grownBy w2 (some C.b) := grown_trans (gw2 (by go_wf)) hg
  have bl0_2 : BL w2 w.heap.size (nd0) := BL.grown (bw2 (by go_wf)) hg (by omega)
  have hl0_2 := bl0_2.lt
  have zc0_2 := bl0_2.cell
  have fz0_2 := bl0_2.frozen
  have bl1_2 : BL w2 w1.heap.size (.cells #[.int .i64 (tok C.ts k).kind, .string ⟨(tok C.ts k).text.toArray⟩, .int .i64 (tok C.ts k).num, .int .i64 (tok C.ts k).pos] 36) := BL.grown (bw0 (by omega)) hg (by omega)
  have hl1_2 := bl1_2.lt
  clear bl0_1
  clear p1
  obtain ⟨lo2, hlo2, row2⟩ := hrow.named
  (try simp at hlo2)
  have HQ2 := hide hq
  clear hrow hq
  clear hg
  have ⟨⟨ne4, nf4⟩, ⟨ne5, nf5⟩, ⟨ne6, nf6⟩⟩ : NN C.b w2.heap.size ∧ NN w.heap.size w2.heap.size ∧ NN w1.heap.size w2.heap.size := by omega
  go_wp2
  refine bodyPost_ret (v := .tuple #[.agg #[.int .i64 kd2, .string ⟨tx2.toArray⟩, .int .i64 nm2, .int .i64 ps2, .string ⟨#[]⟩, .int .i64 0, .slice ao2 kids2.length cp2], .int .i64 5]) (by simp [results, Tryz.results117, go_sem, *]) rfl (spost_ok (hi := w2.heap.size) (s := 5) (k' := k2) (tx := tx2) (kids := kids2) (by rw [← unhide HR]; simp only [fWordOperand, ub, eq_false etrue, eq_false efalse, eq_false enil, eq_false efunc, eq_false emake, eq_false enew, eq_false eappend, eq_false ecap, eq_true (unhide Eclose), h2n etrue efalse, eq_true (unhide HL7), unhide HQ2]) (row2.ag (aw7 aw0 (by first | omega | (simp <;> omega))) (by omega) (Nat.le_refl _)) (by simp <;> omega) ?_ ?_)
  ·exact pw7 (by go_wf) ok (by first | omega | (simp <;> omega))
  ·exact gw7 (by go_wf) (by first | omega | (simp <;> omega))
 by_cases elen : (tok C.ts k).text = [108, 101, 110]
 ·skip
  have betrue : ((tok C.ts k).text == [116, 114, 117, 101]) = false := beq_eq_false_iff_ne.2 etrue
  have befalse : ((tok C.ts k).text == [102, 97, 108, 115, 101]) = false := beq_eq_false_iff_ne.2 efalse
  have benil : ((tok C.ts k).text == [110, 105, 108]) = false := beq_eq_false_iff_ne.2 enil
  have befunc : ((tok C.ts k).text == [102, 117, 110, 99]) = false := beq_eq_false_iff_ne.2 efunc
  have bemake : ((tok C.ts k).text == [109, 97, 107, 101]) = false := beq_eq_false_iff_ne.2 emake
  have benew : ((tok C.ts k).text == [110, 101, 119]) = false := beq_eq_false_iff_ne.2 enew
  have beappend : ((tok C.ts k).text == [97, 112, 112, 101, 110, 100]) = false := beq_eq_false_iff_ne.2 eappend
  have becap : ((tok C.ts k).text == [99, 97, 112]) = false := beq_eq_false_iff_ne.2 ecap
  have beclose : ((tok C.ts k).text == [99, 108, 111, 115, 101]) = false := beq_eq_false_iff_ne.2 eclose
  have belen : ((tok C.ts k).text == [108, 101, 110]) = true := by simp [elen]
  have HL7 := hide (show [[97, 112, 112, 101, 110, 100], [99, 97, 112], [99, 108, 111, 115, 101], [108, 101, 110], [112, 97, 110, 105, 99], [112, 114, 105, 110, 116], [114, 101, 99, 111, 118, 101, 114]].contains (tok C.ts k).text = true from by rw [elen]; decide)
  have Elen := hide elen
  clear elen
  go_enter Tryz.func117, Tryz.ntmps117
  go_wp2_with fail
  refine (token_any C ok k h _ (pw2 (by go_wf))).mono ?_
  rintro e w1 ⟨rfl, hgq⟩
  have p1 := PS.quiet (C := C) (k := k) (h := h) (pw2 (by go_wf)) hgq
  have hg := grown_any (r := some C.b) hgq
  clear hgq
  have hz1 := hg.size
  (try simp at hz1)
  have G1 : w.grownBy w1 (some C.b) := grown_trans (gw2 (by go_wf)) hg
  have bl0_1 : BL w1 w.heap.size (nd0) := BL.grown (bw0 (by omega)) hg (by omega)
  have hl0_1 := bl0_1.lt
  clear hg
  have ⟨⟨ne1, nf1⟩, ⟨ne2, nf2⟩, ⟨ne3, nf3⟩⟩ : NN C.b w.heap.size ∧ NN C.b w1.heap.size ∧ NN w.heap.size w1.heap.size := by omega
  go_wp2_with fail
  refine (ih.at.builtinA h k _ (pw2 (by go_wf)) (unhide H6) (fun hx => unhide HO ((unhide HR).symm.trans (by simp only [fWordOperand, ub, eq_false etrue, eq_false efalse, eq_false enil, eq_false efunc, eq_false emake, eq_false enew, eq_false eappend, eq_false ecap, eq_false eclose, eq_true (unhide Elen), h2n etrue efalse, eq_true (unhide HL7), hx])))).mono ?_
  rintro e w2 hp
  rcases hp with ⟨kd2, tx2, nm2, ps2, kids2, s2, k2, ao2, cp2, hq, rfl, hrow, p2, hg⟩ | ⟨pb, rule, hq, rfl, hg⟩
  rotate_left
  (exact ⟨rfl, spost_bad (by rw [← unhide HR]; simp only [fWordOperand, ub, eq_false etrue, eq_false efalse, eq_false enil, eq_false efunc, eq_false emake, eq_false enew, eq_false eappend, eq_false ecap, eq_false eclose, eq_true (unhide Elen), h2n etrue efalse, eq_true (unhide HL7), hq]) (grown_trans (gw2 (by go_wf)) hg)⟩)
  have hz2 := hg.size
  (try simp at hz2)
  have G2 : w.grownBy w2 (some C.b) := grown_trans (gw2 (by go_wf)) hg
  have bl0_2 : BL w2 w.heap.size (nd0) := BL.grown (bw2 (by go_wf)) hg (by omega)
  have hl0_2 := bl0_2.lt
  have zc0_2 := bl0_2.cell
  have fz0_2 := bl0_2.frozen
  have bl1_2 : BL w2 w1.heap.size (.cells #[.int .i64 (tok C.ts k).kind, .string ⟨(tok C.ts k).text.toArray⟩, .int .i64 (tok C.ts k).num, .int .i64 (tok C.ts k).pos] 36) := BL.grown (bw0 (by omega)) hg (by omega)
  have hl1_2 := bl1_2.lt
  clear bl0_1
  clear p1
  obtain ⟨lo2, hlo2, row2⟩ := hrow.named
  (try simp at hlo2)
  have HQ2 := hide hq
  clear hrow hq
  clear hg
  have ⟨⟨ne4, nf4⟩, ⟨ne5, nf5⟩, ⟨ne6, nf6⟩⟩ : NN C.b w2.heap.size ∧ NN w.heap.size w2.heap.size ∧ NN w1.heap.size w2.heap.size := by omega
  go_wp2
  refine bodyPost_ret (v := .tuple #[.agg #[.int .i64 kd2, .string ⟨tx2.toArray⟩, .int .i64 nm2, .int .i64 ps2, .string ⟨#[]⟩, .int .i64 0, .slice ao2 kids2.length cp2], .int .i64 5]) (by simp [results, Tryz.results117, go_sem, *]) rfl (spost_ok (hi := w2.heap.size) (s := 5) (k' := k2) (tx := tx2) (kids := kids2) (by rw [← unhide HR]; simp only [fWordOperand, ub, eq_false etrue, eq_false efalse, eq_false enil, eq_false efunc, eq_false emake, eq_false enew, eq_false eappend, eq_false ecap, eq_false eclose, eq_true (unhide Elen), h2n etrue efalse, eq_true (unhide HL7), unhide HQ2]) (row2.ag (aw7 aw0 (by first | omega | (simp <;> omega))) (by omega) (Nat.le_refl _)) (by simp <;> omega) ?_ ?_)
  ·exact pw7 (by go_wf) ok (by first | omega | (simp <;> omega))
  ·exact gw7 (by go_wf) (by first | omega | (simp <;> omega))
 by_cases epanic : (tok C.ts k).text = [112, 97, 110, 105, 99]
 ·skip
  have betrue : ((tok C.ts k).text == [116, 114, 117, 101]) = false := beq_eq_false_iff_ne.2 etrue
  have befalse : ((tok C.ts k).text == [102, 97, 108, 115, 101]) = false := beq_eq_false_iff_ne.2 efalse
  have benil : ((tok C.ts k).text == [110, 105, 108]) = false := beq_eq_false_iff_ne.2 enil
  have befunc : ((tok C.ts k).text == [102, 117, 110, 99]) = false := beq_eq_false_iff_ne.2 efunc
  have bemake : ((tok C.ts k).text == [109, 97, 107, 101]) = false := beq_eq_false_iff_ne.2 emake
  have benew : ((tok C.ts k).text == [110, 101, 119]) = false := beq_eq_false_iff_ne.2 enew
  have beappend : ((tok C.ts k).text == [97, 112, 112, 101, 110, 100]) = false := beq_eq_false_iff_ne.2 eappend
  have becap : ((tok C.ts k).text == [99, 97, 112]) = false := beq_eq_false_iff_ne.2 ecap
  have beclose : ((tok C.ts k).text == [99, 108, 111, 115, 101]) = false := beq_eq_false_iff_ne.2 eclose
  have belen : ((tok C.ts k).text == [108, 101, 110]) = false := beq_eq_false_iff_ne.2 elen
  have bepanic : ((tok C.ts k).text == [112, 97, 110, 105, 99]) = true := by simp [epanic]
  have HL7 := hide (show [[97, 112, 112, 101, 110, 100], [99, 97, 112], [99, 108, 111, 115, 101], [108, 101, 110], [112, 97, 110, 105, 99], [112, 114, 105, 110, 116], [114, 101, 99, 111, 118, 101, 114]].contains (tok C.ts k).text = true from by rw [epanic]; decide)
  have Epanic := hide epanic
  clear epanic
  go_enter Tryz.func117, Tryz.ntmps117
  go_wp2_with fail
  refine (token_any C ok k h _ (pw2 (by go_wf))).mono ?_
  rintro e w1 ⟨rfl, hgq⟩
  have p1 := PS.quiet (C := C) (k := k) (h := h) (pw2 (by go_wf)) hgq
  have hg := grown_any (r := some C.b) hgq
  clear hgq
  have hz1 := hg.size
  (try simp at hz1)
  have G1 : w.grownBy w1 (some C.b) := grown_trans (gw2 (by go_wf)) hg
  have bl0_1 : BL w1 w.heap.size (nd0) := BL.grown (bw0 (by omega)) hg (by omega)
  have hl0_1 := bl0_1.lt
  clear hg
  have ⟨⟨ne1, nf1⟩, ⟨ne2, nf2⟩, ⟨ne3, nf3⟩⟩ : NN C.b w.heap.size ∧ NN C.b w1.heap.size ∧ NN w.heap.size w1.heap.size := by omega
  go_wp2_with fail
  refine (ih.at.builtinA h k _ (pw2 (by go_wf)) (unhide H6) (fun hx => unhide HO ((unhide HR).symm.trans (by simp only [fWordOperand, ub, eq_false etrue, eq_false efalse, eq_false enil, eq_false efunc, eq_false emake, eq_false enew, eq_false eappend, eq_false ecap, eq_false eclose, eq_false elen, eq_true (unhide Epanic), h2n etrue efalse, eq_true (unhide HL7), hx])))).mono ?_
  rintro e w2 hp
  rcases hp with ⟨kd2, tx2, nm2, ps2, kids2, s2, k2, ao2, cp2, hq, rfl, hrow, p2, hg⟩ | ⟨pb, rule, hq, rfl, hg⟩
  rotate_left
  (exact ⟨rfl, spost_bad (by rw [← unhide HR]; simp only [fWordOperand, ub, eq_false etrue, eq_false efalse, eq_false enil, eq_false efunc, eq_false emake, eq_false enew, eq_false eappend, eq_false ecap, eq_false eclose, eq_false elen, eq_true (unhide Epanic), h2n etrue efalse, eq_true (unhide HL7), hq]) (grown_trans (gw2 (by go_wf)) hg)⟩)
  have hz2 := hg.size
  (try simp at hz2)
  have G2 : w.grownBy w2 (some C.b) := grown_trans (gw2 (by go_wf)) hg
  have bl0_2 : BL w2 w.heap.size (nd0) := BL.grown (bw2 (by go_wf)) hg (by omega)
  have hl0_2 := bl0_2.lt
  have zc0_2 := bl0_2.cell
  have fz0_2 := bl0_2.frozen
  have bl1_2 : BL w2 w1.heap.size (.cells #[.int .i64 (tok C.ts k).kind, .string ⟨(tok C.ts k).text.toArray⟩, .int .i64 (tok C.ts k).num, .int .i64 (tok C.ts k).pos] 36) := BL.grown (bw0 (by omega)) hg (by omega)
  have hl1_2 := bl1_2.lt
  clear bl0_1
  clear p1
  obtain ⟨lo2, hlo2, row2⟩ := hrow.named
  (try simp at hlo2)
  have HQ2 := hide hq
  clear hrow hq
  clear hg
  have ⟨⟨ne4, nf4⟩, ⟨ne5, nf5⟩, ⟨ne6, nf6⟩⟩ : NN C.b w2.heap.size ∧ NN w.heap.size w2.heap.size ∧ NN w1.heap.size w2.heap.size := by omega
  go_wp2
  refine bodyPost_ret (v := .tuple #[.agg #[.int .i64 kd2, .string ⟨tx2.toArray⟩, .int .i64 nm2, .int .i64 ps2, .string ⟨#[]⟩, .int .i64 0, .slice ao2 kids2.length cp2], .int .i64 5]) (by simp [results, Tryz.results117, go_sem, *]) rfl (spost_ok (hi := w2.heap.size) (s := 5) (k' := k2) (tx := tx2) (kids := kids2) (by rw [← unhide HR]; simp only [fWordOperand, ub, eq_false etrue, eq_false efalse, eq_false enil, eq_false efunc, eq_false emake, eq_false enew, eq_false eappend, eq_false ecap, eq_false eclose, eq_false elen, eq_true (unhide Epanic), h2n etrue efalse, eq_true (unhide HL7), unhide HQ2]) (row2.ag (aw7 aw0 (by first | omega | (simp <;> omega))) (by omega) (Nat.le_refl _)) (by simp <;> omega) ?_ ?_)
  ·exact pw7 (by go_wf) ok (by first | omega | (simp <;> omega))
  ·exact gw7 (by go_wf) (by first | omega | (simp <;> omega))
 by_cases eprint : (tok C.ts k).text = [112, 114, 105, 110, 116]
 ·skip
  have betrue : ((tok C.ts k).text == [116, 114, 117, 101]) = false := beq_eq_false_iff_ne.2 etrue
  have befalse : ((tok C.ts k).text == [102, 97, 108, 115, 101]) = false := beq_eq_false_iff_ne.2 efalse
  have benil : ((tok C.ts k).text == [110, 105, 108]) = false := beq_eq_false_iff_ne.2 enil
  have befunc : ((tok C.ts k).text == [102, 117, 110, 99]) = false := beq_eq_false_iff_ne.2 efunc
  have bemake : ((tok C.ts k).text == [109, 97, 107, 101]) = false := beq_eq_false_iff_ne.2 emake
  have benew : ((tok C.ts k).text == [110, 101, 119]) = false := beq_eq_false_iff_ne.2 enew
  have beappend : ((tok C.ts k).text == [97, 112, 112, 101, 110, 100]) = false := beq_eq_false_iff_ne.2 eappend
  have becap : ((tok C.ts k).text == [99, 97, 112]) = false := beq_eq_false_iff_ne.2 ecap
  have beclose : ((tok C.ts k).text == [99, 108, 111, 115, 101]) = false := beq_eq_false_iff_ne.2 eclose
  have belen : ((tok C.ts k).text == [108, 101, 110]) = false := beq_eq_false_iff_ne.2 elen
  have bepanic : ((tok C.ts k).text == [112, 97, 110, 105, 99]) = false := beq_eq_false_iff_ne.2 epanic
  have beprint : ((tok C.ts k).text == [112, 114, 105, 110, 116]) = true := by simp [eprint]
  have HL7 := hide (show [[97, 112, 112, 101, 110, 100], [99, 97, 112], [99, 108, 111, 115, 101], [108, 101, 110], [112, 97, 110, 105, 99], [112, 114, 105, 110, 116], [114, 101, 99, 111, 118, 101, 114]].contains (tok C.ts k).text = true from by rw [eprint]; decide)
  have Eprint := hide eprint
  clear eprint
  go_enter Tryz.func117, Tryz.ntmps117
  go_wp2_with fail
  refine (token_any C ok k h _ (pw2 (by go_wf))).mono ?_
  rintro e w1 ⟨rfl, hgq⟩
  have p1 := PS.quiet (C := C) (k := k) (h := h) (pw2 (by go_wf)) hgq
  have hg := grown_any (r := some C.b) hgq
  clear hgq
  have hz1 := hg.size
  (try simp at hz1)
  have G1 : w.grownBy w1 (some C.b) := grown_trans (gw2 (by go_wf)) hg
  have bl0_1 : BL w1 w.heap.size (nd0) := BL.grown (bw0 (by omega)) hg (by omega)
  have hl0_1 := bl0_1.lt
  clear hg
  have ⟨⟨ne1, nf1⟩, ⟨ne2, nf2⟩, ⟨ne3, nf3⟩⟩ : NN C.b w.heap.size ∧ NN C.b w1.heap.size ∧ NN w.heap.size w1.heap.size := by omega
  go_wp2_with fail
  refine (ih.at.builtinA h k _ (pw2 (by go_wf)) (unhide H6) (fun hx => unhide HO ((unhide HR).symm.trans (by simp only [fWordOperand, ub, eq_false etrue, eq_false efalse, eq_false enil, eq_false efunc, eq_false emake, eq_false enew, eq_false eappend, eq_false ecap, eq_false eclose, eq_false elen, eq_false epanic, eq_true (unhide Eprint), h2n etrue efalse, eq_true (unhide HL7), hx])))).mono ?_
  rintro e w2 hp
  rcases hp with ⟨kd2, tx2, nm2, ps2, kids2, s2, k2, ao2, cp2, hq, rfl, hrow, p2, hg⟩ | ⟨pb, rule, hq, rfl, hg⟩
  rotate_left
  (exact ⟨rfl, spost_bad (by rw [← unhide HR]; simp only [fWordOperand, ub, eq_false etrue, eq_false efalse, eq_false enil, eq_false efunc, eq_false emake, eq_false enew, eq_false eappend, eq_false ecap, eq_false eclose, eq_false elen, eq_false epanic, eq_true (unhide Eprint), h2n etrue efalse, eq_true (unhide HL7), hq]) (grown_trans (gw2 (by go_wf)) hg)⟩)
  have hz2 := hg.size
  (try simp at hz2)
  have G2 : w.grownBy w2 (some C.b) := grown_trans (gw2 (by go_wf)) hg
  have bl0_2 : BL w2 w.heap.size (nd0) := BL.grown (bw2 (by go_wf)) hg (by omega)
  have hl0_2 := bl0_2.lt
  have zc0_2 := bl0_2.cell
  have fz0_2 := bl0_2.frozen
  have bl1_2 : BL w2 w1.heap.size (.cells #[.int .i64 (tok C.ts k).kind, .string ⟨(tok C.ts k).text.toArray⟩, .int .i64 (tok C.ts k).num, .int .i64 (tok C.ts k).pos] 36) := BL.grown (bw0 (by omega)) hg (by omega)
  have hl1_2 := bl1_2.lt
  clear bl0_1
  clear p1
  obtain ⟨lo2, hlo2, row2⟩ := hrow.named
  (try simp at hlo2)
  have HQ2 := hide hq
  clear hrow hq
  clear hg
  have ⟨⟨ne4, nf4⟩, ⟨ne5, nf5⟩, ⟨ne6, nf6⟩⟩ : NN C.b w2.heap.size ∧ NN w.heap.size w2.heap.size ∧ NN w1.heap.size w2.heap.size := by omega
  go_wp2
  refine bodyPost_ret (v := .tuple #[.agg #[.int .i64 kd2, .string ⟨tx2.toArray⟩, .int .i64 nm2, .int .i64 ps2, .string ⟨#[]⟩, .int .i64 0, .slice ao2 kids2.length cp2], .int .i64 5]) (by simp [results, Tryz.results117, go_sem, *]) rfl (spost_ok (hi := w2.heap.size) (s := 5) (k' := k2) (tx := tx2) (kids := kids2) (by rw [← unhide HR]; simp only [fWordOperand, ub, eq_false etrue, eq_false efalse, eq_false enil, eq_false efunc, eq_false emake, eq_false enew, eq_false eappend, eq_false ecap, eq_false eclose, eq_false elen, eq_false epanic, eq_true (unhide Eprint), h2n etrue efalse, eq_true (unhide HL7), unhide HQ2]) (row2.ag (aw7 aw0 (by first | omega | (simp <;> omega))) (by omega) (Nat.le_refl _)) (by simp <;> omega) ?_ ?_)
  ·exact pw7 (by go_wf) ok (by first | omega | (simp <;> omega))
  ·exact gw7 (by go_wf) (by first | omega | (simp <;> omega))
 by_cases erecover : (tok C.ts k).text = [114, 101, 99, 111, 118, 101, 114]
 ·skip
  have betrue : ((tok C.ts k).text == [116, 114, 117, 101]) = false := beq_eq_false_iff_ne.2 etrue
  have befalse : ((tok C.ts k).text == [102, 97, 108, 115, 101]) = false := beq_eq_false_iff_ne.2 efalse
  have benil : ((tok C.ts k).text == [110, 105, 108]) = false := beq_eq_false_iff_ne.2 enil
  have befunc : ((tok C.ts k).text == [102, 117, 110, 99]) = false := beq_eq_false_iff_ne.2 efunc
  have bemake : ((tok C.ts k).text == [109, 97, 107, 101]) = false := beq_eq_false_iff_ne.2 emake
  have benew : ((tok C.ts k).text == [110, 101, 119]) = false := beq_eq_false_iff_ne.2 enew
  have beappend : ((tok C.ts k).text == [97, 112, 112, 101, 110, 100]) = false := beq_eq_false_iff_ne.2 eappend
  have becap : ((tok C.ts k).text == [99, 97, 112]) = false := beq_eq_false_iff_ne.2 ecap
  have beclose : ((tok C.ts k).text == [99, 108, 111, 115, 101]) = false := beq_eq_false_iff_ne.2 eclose
  have belen : ((tok C.ts k).text == [108, 101, 110]) = false := beq_eq_false_iff_ne.2 elen
  have bepanic : ((tok C.ts k).text == [112, 97, 110, 105, 99]) = false := beq_eq_false_iff_ne.2 epanic
  have beprint : ((tok C.ts k).text == [112, 114, 105, 110, 116]) = false := beq_eq_false_iff_ne.2 eprint
  have berecover : ((tok C.ts k).text == [114, 101, 99, 111, 118, 101, 114]) = true := by simp [erecover]
  have HL7 := hide (show [[97, 112, 112, 101, 110, 100], [99, 97, 112], [99, 108, 111, 115, 101], [108, 101, 110], [112, 97, 110, 105, 99], [112, 114, 105, 110, 116], [114, 101, 99, 111, 118, 101, 114]].contains (tok C.ts k).text = true from by rw [erecover]; decide)
  have Erecover := hide erecover
  clear erecover
  go_enter Tryz.func117, Tryz.ntmps117
  go_wp2_with fail
  refine (token_any C ok k h _ (pw2 (by go_wf))).mono ?_
  rintro e w1 ⟨rfl, hgq⟩
  have p1 := PS.quiet (C := C) (k := k) (h := h) (pw2 (by go_wf)) hgq
  have hg := grown_any (r := some C.b) hgq
  clear hgq
  have hz1 := hg.size
  (try simp at hz1)
  have G1 : w.grownBy w1 (some C.b) := grown_trans (gw2 (by go_wf)) hg
  have bl0_1 : BL w1 w.heap.size (nd0) := BL.grown (bw0 (by omega)) hg (by omega)
  have hl0_1 := bl0_1.lt
  clear hg
  have ⟨⟨ne1, nf1⟩, ⟨ne2, nf2⟩, ⟨ne3, nf3⟩⟩ : NN C.b w.heap.size ∧ NN C.b w1.heap.size ∧ NN w.heap.size w1.heap.size := by omega
  go_wp2_with fail
  refine (ih.at.builtinA h k _ (pw2 (by go_wf)) (unhide H6) (fun hx => unhide HO ((unhide HR).symm.trans (by simp only [fWordOperand, ub, eq_false etrue, eq_false efalse, eq_false enil, eq_false efunc, eq_false emake, eq_false enew, eq_false eappend, eq_false ecap, eq_false eclose, eq_false elen, eq_false epanic, eq_false eprint, eq_true (unhide Erecover), h2n etrue efalse, eq_true (unhide HL7), hx])))).mono ?_
  rintro e w2 hp
  rcases hp with ⟨kd2, tx2, nm2, ps2, kids2, s2, k2, ao2, cp2, hq, rfl, hrow, p2, hg⟩ | ⟨pb, rule, hq, rfl, hg⟩
  rotate_left
  (exact ⟨rfl, spost_bad (by rw [← unhide HR]; simp only [fWordOperand, ub, eq_false etrue, eq_false efalse, eq_false enil, eq_false efunc, eq_false emake, eq_false enew, eq_false eappend, eq_false ecap, eq_false eclose, eq_false elen, eq_false epanic, eq_false eprint, eq_true (unhide Erecover), h2n etrue efalse, eq_true (unhide HL7), hq]) (grown_trans (gw2 (by go_wf)) hg)⟩)
  have hz2 := hg.size
  (try simp at hz2)
  have G2 : w.grownBy w2 (some C.b) := grown_trans (gw2 (by go_wf)) hg
  have bl0_2 : BL w2 w.heap.size (nd0) := BL.grown (bw2 (by go_wf)) hg (by omega)
  have hl0_2 := bl0_2.lt
  have zc0_2 := bl0_2.cell
  have fz0_2 := bl0_2.frozen
  have bl1_2 : BL w2 w1.heap.size (.cells #[.int .i64 (tok C.ts k).kind, .string ⟨(tok C.ts k).text.toArray⟩, .int .i64 (tok C.ts k).num, .int .i64 (tok C.ts k).pos] 36) := BL.grown (bw0 (by omega)) hg (by omega)
  have hl1_2 := bl1_2.lt
  clear bl0_1
  clear p1
  obtain ⟨lo2, hlo2, row2⟩ := hrow.named
  (try simp at hlo2)
  have HQ2 := hide hq
  clear hrow hq
  clear hg
  have ⟨⟨ne4, nf4⟩, ⟨ne5, nf5⟩, ⟨ne6, nf6⟩⟩ : NN C.b w2.heap.size ∧ NN w.heap.size w2.heap.size ∧ NN w1.heap.size w2.heap.size := by omega
  go_wp2
  refine bodyPost_ret (v := .tuple #[.agg #[.int .i64 kd2, .string ⟨tx2.toArray⟩, .int .i64 nm2, .int .i64 ps2, .string ⟨#[]⟩, .int .i64 0, .slice ao2 kids2.length cp2], .int .i64 5]) (by simp [results, Tryz.results117, go_sem, *]) rfl (spost_ok (hi := w2.heap.size) (s := 5) (k' := k2) (tx := tx2) (kids := kids2) (by rw [← unhide HR]; simp only [fWordOperand, ub, eq_false etrue, eq_false efalse, eq_false enil, eq_false efunc, eq_false emake, eq_false enew, eq_false eappend, eq_false ecap, eq_false eclose, eq_false elen, eq_false epanic, eq_false eprint, eq_true (unhide Erecover), h2n etrue efalse, eq_true (unhide HL7), unhide HQ2]) (row2.ag (aw7 aw0 (by first | omega | (simp <;> omega))) (by omega) (Nat.le_refl _)) (by simp <;> omega) ?_ ?_)
  ·exact pw7 (by go_wf) ok (by first | omega | (simp <;> omega))
  ·exact gw7 (by go_wf) (by first | omega | (simp <;> omega))
 have betrue : ((tok C.ts k).text == [116, 114, 117, 101]) = false := beq_eq_false_iff_ne.2 etrue
 have befalse : ((tok C.ts k).text == [102, 97, 108, 115, 101]) = false := beq_eq_false_iff_ne.2 efalse
 have benil : ((tok C.ts k).text == [110, 105, 108]) = false := beq_eq_false_iff_ne.2 enil
 have befunc : ((tok C.ts k).text == [102, 117, 110, 99]) = false := beq_eq_false_iff_ne.2 efunc
 have bemake : ((tok C.ts k).text == [109, 97, 107, 101]) = false := beq_eq_false_iff_ne.2 emake
 have benew : ((tok C.ts k).text == [110, 101, 119]) = false := beq_eq_false_iff_ne.2 enew
 have beappend : ((tok C.ts k).text == [97, 112, 112, 101, 110, 100]) = false := beq_eq_false_iff_ne.2 eappend
 have becap : ((tok C.ts k).text == [99, 97, 112]) = false := beq_eq_false_iff_ne.2 ecap
 have beclose : ((tok C.ts k).text == [99, 108, 111, 115, 101]) = false := beq_eq_false_iff_ne.2 eclose
 have belen : ((tok C.ts k).text == [108, 101, 110]) = false := beq_eq_false_iff_ne.2 elen
 have bepanic : ((tok C.ts k).text == [112, 97, 110, 105, 99]) = false := beq_eq_false_iff_ne.2 epanic
 have beprint : ((tok C.ts k).text == [112, 114, 105, 110, 116]) = false := beq_eq_false_iff_ne.2 eprint
 have berecover : ((tok C.ts k).text == [114, 101, 99, 111, 118, 101, 114]) = false := beq_eq_false_iff_ne.2 erecover
 go_enter Tryz.func117, Tryz.ntmps117
 go_wp2_with fail
 refine (token_any C ok k h _ (pw2 (by go_wf))).mono ?_
 rintro e w1 ⟨rfl, hgq⟩
 have p1 := PS.quiet (C := C) (k := k) (h := h) (pw2 (by go_wf)) hgq
 have hg := grown_any (r := some C.b) hgq
 clear hgq
 have hz1 := hg.size
 (try simp at hz1)
 have G1 : w.grownBy w1 (some C.b) := grown_trans (gw2 (by go_wf)) hg
 have bl0_1 : BL w1 w.heap.size (nd0) := BL.grown (bw0 (by omega)) hg (by omega)
 have hl0_1 := bl0_1.lt
 clear hg
 have ⟨⟨ne1, nf1⟩, ⟨ne2, nf2⟩, ⟨ne3, nf3⟩⟩ : NN C.b w.heap.size ∧ NN C.b w1.heap.size ∧ NN w.heap.size w1.heap.size := by omega
 go_wp2_with fail
 refine (broken_any C ok k h _ ⟨#[111, 112, 101, 114, 97, 110, 100]⟩ (pw2 (by go_wf))).mono ?_
 rintro e w2 ⟨rfl, hgq⟩
 have p2 := PS.quiet (C := C) (k := k) (h := h) (pw2 (by go_wf)) hgq
 have hg := grown_any (r := some C.b) hgq
 clear hgq
 have hz2 := hg.size
 (try simp at hz2)
 have G2 : w.grownBy w2 (some C.b) := grown_trans (gw2 (by go_wf)) hg
 have bl0_2 : BL w2 w.heap.size (nd0) := BL.grown (bw2 (by go_wf)) hg (by omega)
 have hl0_2 := bl0_2.lt
 have bl1_2 : BL w2 w1.heap.size (.cells #[.int .i64 (tok C.ts k).kind, .string ⟨(tok C.ts k).text.toArray⟩, .int .i64 (tok C.ts k).num, .int .i64 (tok C.ts k).pos] 36) := BL.grown (bw0 (by omega)) hg (by omega)
 have hl1_2 := bl1_2.lt
 clear bl0_1
 clear p1
 clear hg
 have ⟨⟨ne4, nf4⟩, ⟨ne5, nf5⟩, ⟨ne6, nf6⟩⟩ : NN C.b w2.heap.size ∧ NN w.heap.size w2.heap.size ∧ NN w1.heap.size w2.heap.size := by omega
 go_wp2
 exact bodyPost_panic rfl (spost_bad (by rw [← unhide HR]; simp only [fWordOperand, ub, eq_false etrue, eq_false efalse, eq_false enil, eq_false efunc, eq_false emake, eq_false enew, eq_false eappend, eq_false ecap, eq_false eclose, eq_false elen, eq_false epanic, eq_false eprint, eq_false erecover, h2n etrue efalse, eq_false (show ¬ [[97, 112, 112, 101, 110, 100], [99, 97, 112], [99, 108, 111, 115, 101], [108, 101, 110], [112, 97, 110, 105, 99], [112, 114, 105, 110, 116], [114, 101, 99, 111, 118, 101, 114]].contains (tok C.ts k).text = true from by simp [eappend, ecap, eclose, elen, epanic, eprint, erecover])]) (by go_wf))
open Go.RowKit Lx Px
set_option maxHeartbeats 4000000 in
theorem shaped_w (C : Ctx) (ok : C.Ok) (n : Nat) (ih : All C n) : CS C 99 .shaped #[.pointer (some ⟨C.b, 0, none⟩)] (n + 1) := by
 intro h k w p hout
 have hr : run C.ts (n + 1) .shaped h k = fShaped C.ts (run C.ts n) h k := rfl
 rw [hr] at hout ⊢
 clear hr
 generalize hR : fShaped C.ts (run C.ts n) h k = r0 at hout ⊢
 have hbl := p.lt
 have htb := ok.lt
 have htf0 := tokF0
 have htf1 := tokF1
 have htf3 := tokF3
 have hmf := hmfL
 have G0 := grown_refl w (some C.b)
 have HR := hide hR
 clear hR
 have HO := hide hout
 clear hout
 go_enter Tryz.func99, Tryz.ntmps99
 by_cases c1 : isS C.ts k [[45], [33], [60, 45]] = true
 rotate_left
 ·skip
  go_wp2_with fail
  refine (isL C ok k h _ (w.heap.size + 1) [[45], [33], [60, 45]] (by decide) (pw2 (by go_wf)) (by simp)).mono ?_
  rintro e w1 ⟨rfl, hgq⟩
  have p1 := PS.quiet (C := C) (k := k) (h := h) (pw2 (by go_wf)) hgq
  have hg := grown_any (r := some C.b) hgq
  clear hgq
  have hz1 := hg.size
  (try simp at hz1)
  have G1 : w.grownBy w1 (some C.b) := grown_trans (gw2 (by go_wf)) hg
  have bl0_1 : BL w1 w.heap.size (nd0) := BL.grown (bw0 (by omega)) hg (by omega)
  have hl0_1 := bl0_1.lt
  clear hg
  have ⟨⟨ne1, nf1⟩, ⟨ne2, nf2⟩, ⟨ne3, nf3⟩⟩ : NN C.b w.heap.size ∧ NN C.b w1.heap.size ∧ NN w.heap.size w1.heap.size := by omega
  go_wp2_with fail
  refine (ih.at.primary h k _ (by go_wf) (fun hx => unhide HO ((unhide HR).symm.trans (by simp only [fShaped, ub, eq_false c1, hx])))).mono ?_
  rintro e w2 hp
  rcases hp with ⟨kd2, tx2, nm2, ps2, kids2, s2, k2, ao2, cp2, hq, rfl, hrow, p2, hg⟩ | ⟨pb, rule, hq, rfl, hg⟩
  rotate_left
  (exact ⟨rfl, spost_bad (by rw [← unhide HR]; simp only [fShaped, ub, eq_false c1, hq]) (grown_trans (by go_wf) hg)⟩)
  have hz2 := hg.size
  (try simp at hz2)
  have G2 : w.grownBy w2 (some C.b) := grown_trans (by go_wf) hg
  have bl0_2 : BL w2 w.heap.size (nd0) := BL.grown (by go_wf) hg (by omega)
  have hl0_2 := bl0_2.lt
  have zc0_2 := bl0_2.cell
  have fz0_2 := bl0_2.frozen
  clear bl0_1
  clear p1
  obtain ⟨lo2, hlo2, row2⟩ := hrow.named
  (try simp at hlo2)
  have HQ2 := hide hq
  clear hrow hq
  clear hg
  have ⟨⟨ne4, nf4⟩, ⟨ne5, nf5⟩⟩ : NN C.b w2.heap.size ∧ NN w.heap.size w2.heap.size := by omega
  go_wp2
  refine bodyPost_ret (v := .tuple #[.agg #[.int .i64 kd2, .string ⟨tx2.toArray⟩, .int .i64 nm2, .int .i64 ps2, .string ⟨#[]⟩, .int .i64 0, .slice ao2 kids2.length cp2], .int .i64 s2]) (by simp [results, Tryz.results99, go_sem, *]) rfl (spost_ok (hi := w2.heap.size) (s := s2) (k' := k2) (tx := tx2) (kids := kids2) (by rw [← unhide HR]; simp only [fShaped, ub, eq_false c1, unhide HQ2]) (row2.ag (aw7 aw0 (by first | omega | (simp <;> omega))) (by omega) (Nat.le_refl _)) (by simp <;> omega) ?_ ?_)
  ·exact pw7 (by go_wf) ok (by first | omega | (simp <;> omega))
  ·exact gw7 (by go_wf) (by first | omega | (simp <;> omega))
 go_wp2_with fail
 refine (isL C ok k h _ (w.heap.size + 1) [[45], [33], [60, 45]] (by decide) (pw2 (by go_wf)) (by simp)).mono ?_
 rintro e w1 ⟨rfl, hgq⟩
 have p1 := PS.quiet (C := C) (k := k) (h := h) (pw2 (by go_wf)) hgq
 have hg := grown_any (r := some C.b) hgq
 clear hgq
 have hz1 := hg.size
 (try simp at hz1)
 have G1 : w.grownBy w1 (some C.b) := grown_trans (gw2 (by go_wf)) hg
 have bl0_1 : BL w1 w.heap.size (nd0) := BL.grown (bw0 (by omega)) hg (by omega)
 have hl0_1 := bl0_1.lt
 clear hg
 have ⟨⟨ne1, nf1⟩, ⟨ne2, nf2⟩, ⟨ne3, nf3⟩⟩ : NN C.b w.heap.size ∧ NN C.b w1.heap.size ∧ NN w.heap.size w1.heap.size := by omega
 go_wp2_with fail
 refine (take_any C ok k h _ (by go_wf) (isS_ne c1)).mono ?_
 rintro e w2 ⟨rfl, p2, hg⟩
 have hz2 := hg.size
 (try simp at hz2)
 have G2 : w.grownBy w2 (some C.b) := grown_trans (by go_wf) hg
 have bl0_2 : BL w2 w.heap.size (nd0) := BL.grown (by go_wf) hg (by omega)
 have hl0_2 := bl0_2.lt
 clear bl0_1
 clear p1
 clear hg
 have ⟨⟨ne4, nf4⟩, ⟨ne5, nf5⟩⟩ : NN C.b w2.heap.size ∧ NN w.heap.size w2.heap.size := by omega
 go_wp2
 have HX := hide (show ∀ w', ((w2.alloc (.cells #[.int .i64 (tok C.ts k).kind, .string ⟨(tok C.ts k).text.toArray⟩, .int .i64 (tok C.ts k).num, .int .i64 (tok C.ts k).pos] 36)).drew.alloc nd0).grownBy w' (some C.b) → (∀ j, w'.cell? ⟨w2.heap.size + 1, j, none⟩ = (#[.int .i64 0, .string ⟨#[]⟩, .int .i64 0, .int .i64 0, .string ⟨#[]⟩, .int .i64 0, .slice none 0 0] : Array Value)[j]?) ∧ (∀ j, w'.frozen? ⟨w2.heap.size + 1, j, none⟩ = false) ∧ w2.heap.size + 1 < w'.heap.size from fun w' hg => (by have b : BL w' (w2.heap.size + 1) nd0 := BL.grown (BL.new (by simp)) hg (by omega); exact ⟨b.cell, b.frozen, b.lt⟩))
 go_region_held2 (fun w' => w'.cell? ⟨w2.heap.size, 1, none⟩ = some (.string ⟨(tok C.ts k).text.toArray⟩) ∧ w'.cell? ⟨w2.heap.size, 3, none⟩ = some (.int .i64 (tok C.ts k).pos)) (go_keep) (first | (go_at_call 112; (refine (ih.at.unary h (k + 1) _ (by first | with_reducible exact pw1 (pw2 (by go_wf)) | with_reducible exact pw1 (pw2 (pw2 (by go_wf)))) (fun hx => unhide HO ((unhide HR).symm.trans (by simp only [fShaped, ub, eq_true c1, hx])))).mono ?_; rintro e w3 hp; rcases hp with ⟨kd3, tx3, nm3, ps3, kids3, s3, k3, ao3, cp3, hq, rfl, hrow, p3, hg⟩ | ⟨pb, rule, hq, rfl, hg⟩; rotate_left; (exact ⟨rfl, spost_bad (by rw [← unhide HR]; simp only [fShaped, ub, eq_true c1, hq]) (grown_trans (by first | with_reducible exact gw1 (gw2 (by go_wf)) | with_reducible exact gw1 (gw2 (gw2 (by go_wf)))) hg)⟩); (try (have hx := (unhide HX) _ hg; have zx := hx.1; have fx := hx.2.1; have hlx := hx.2.2; have nx1 : ¬ w2.heap.size + 1 = w2.heap.size := (by omega); have nx2 : ¬ w2.heap.size = w2.heap.size + 1 := (by omega); have nx3 : ¬ w.heap.size = w2.heap.size + 1 := (by omega); have nx4 : ¬ w2.heap.size + 1 = w.heap.size := (by omega); clear hx)); have hz3 := hg.size; (try simp at hz3); have G3 : w.grownBy w3 (some C.b) := grown_trans (by first | with_reducible exact gw1 (gw2 (by go_wf)) | with_reducible exact gw1 (gw2 (gw2 (by go_wf)))) hg; have bl0_3 : BL w3 w.heap.size (nd0) := BL.grown (by first | with_reducible exact bw1 (bw2 (by go_wf)) | with_reducible exact bw1 (bw2 (bw2 (by go_wf)))) hg (by omega); have hl0_3 := bl0_3.lt; have zc0_3 := bl0_3.cell; have fz0_3 := bl0_3.frozen; have bl1_3 : BL w3 w2.heap.size (.cells #[.int .i64 (tok C.ts k).kind, .string ⟨(tok C.ts k).text.toArray⟩, .int .i64 (tok C.ts k).num, .int .i64 (tok C.ts k).pos] 36) := BL.grown (by first | with_reducible exact bw1 (bw0 (by omega)) | with_reducible exact bw1 (bw2 (bw0 (by omega)))) hg (by omega); have hl1_3 := bl1_3.lt; have zc1_3 := bl1_3.cell; have fz1_3 := bl1_3.frozen; clear bl0_2; clear p2; obtain ⟨lo3, hlo3, row3⟩ := hrow.named; (try simp at hlo3); have HQ3 := hide hq; clear hrow hq; clear hg; have ne6 : ¬ C.b = w3.heap.size := (by omega); have nf6 : ¬ w3.heap.size = C.b := (by omega); have ne7 : ¬ w.heap.size = w3.heap.size := (by omega); have nf7 : ¬ w3.heap.size = w.heap.size := (by omega); have ne8 : ¬ w2.heap.size = w3.heap.size := (by omega); have nf8 : ¬ w3.heap.size = w2.heap.size := (by omega))))
 ·skip
  by_cases ct : (tok C.ts k).text = [60, 45]
  rotate_left
  ·skip
   have bt : ((tok C.ts k).text == [60, 45]) = false := beq_eq_false_iff_ne.2 ct
   go_wp2
   refine bodyPost_ret (v := .tuple #[.agg #[.int .i64 41, .string ⟨(tok C.ts k).text.toArray⟩, .int .i64 0, .int .i64 (tok C.ts k).pos, .string ⟨#[]⟩, .int .i64 0, .slice (some ⟨w3.heap.size, 0, none⟩) 1 1], .int .i64 0]) (by simp [results, Tryz.results99, go_sem, *]) rfl (spost_ok (hi := w3.heap.size + 1) (s := 0) (k' := k3) (tx := (tok C.ts k).text) (kids := [.mk kd3 tx3 nm3 ps3 kids3]) (by rw [← unhide HR]; simp only [fShaped, ub, eq_true c1, unhide HQ3, eq_false ct]) (rowB (cur := #[.int .i64 kd3, .string ⟨tx3.toArray⟩, .int .i64 nm3, .int .i64 ps3, .string ⟨#[]⟩, .int .i64 0, .slice ao3 kids3.length cp3]) (bw2 (bw0 (by simp <;> omega))) ((Nd.mk (kd := kd3) (tx := tx3) (nm := nm3) (ps := ps3) row3).ag (aw2 (aw2 (aw7 aw0 (by first | omega | (simp <;> omega))) (by simp <;> omega)) (by simp <;> omega))) rfl (by omega) (by omega) (by omega) (by omega) (.inr (by omega))) (by simp <;> omega) ?_ ?_)
   ·exact pw2 (pw2 (pw7 (by go_wf) ok (by first | omega | (simp <;> omega))))
   ·exact gw2 (gw2 (gw7 (by go_wf) (by first | omega | (simp <;> omega))))
  have bt : ((tok C.ts k).text == [60, 45]) = true := by simp [ct]
  have CT := hide ct
  clear ct
  go_wp2
  refine bodyPost_ret (v := .tuple #[.agg #[.int .i64 41, .string ⟨(tok C.ts k).text.toArray⟩, .int .i64 0, .int .i64 (tok C.ts k).pos, .string ⟨#[]⟩, .int .i64 0, .slice (some ⟨w3.heap.size, 0, none⟩) 1 1], .int .i64 1]) (by simp [results, Tryz.results99, go_sem, *]) rfl (spost_ok (hi := w3.heap.size + 1) (s := 1) (k' := k3) (tx := (tok C.ts k).text) (kids := [.mk kd3 tx3 nm3 ps3 kids3]) (by rw [← unhide HR]; simp only [fShaped, ub, eq_true c1, unhide HQ3, eq_true (unhide CT)]) (rowB (cur := #[.int .i64 kd3, .string ⟨tx3.toArray⟩, .int .i64 nm3, .int .i64 ps3, .string ⟨#[]⟩, .int .i64 0, .slice ao3 kids3.length cp3]) (bw2 (bw0 (by simp <;> omega))) ((Nd.mk (kd := kd3) (tx := tx3) (nm := nm3) (ps := ps3) row3).ag (aw2 (aw2 (aw7 aw0 (by first | omega | (simp <;> omega))) (by simp <;> omega)) (by simp <;> omega))) rfl (by omega) (by omega) (by omega) (by omega) (.inr (by omega))) (by simp <;> omega) ?_ ?_)
  ·exact pw2 (pw2 (pw7 (by go_wf) ok (by first | omega | (simp <;> omega))))
  ·exact gw2 (gw2 (gw7 (by go_wf) (by first | omega | (simp <;> omega))))
 ·skip
  by_cases ct : (tok C.ts k).text = [60, 45]
  rotate_left
  ·skip
   have bt : ((tok C.ts k).text == [60, 45]) = false := beq_eq_false_iff_ne.2 ct
   go_wp2
   refine bodyPost_ret (v := .tuple #[.agg #[.int .i64 41, .string ⟨(tok C.ts k).text.toArray⟩, .int .i64 0, .int .i64 (tok C.ts k).pos, .string ⟨#[]⟩, .int .i64 0, .slice (some ⟨w3.heap.size + 1, 0, none⟩) 1 1], .int .i64 0]) (by simp [results, Tryz.results99, go_sem, *]) rfl (spost_ok (hi := w3.heap.size + 2) (s := 0) (k' := k3) (tx := (tok C.ts k).text) (kids := [.mk kd3 tx3 nm3 ps3 kids3]) (by rw [← unhide HR]; simp only [fShaped, ub, eq_true c1, unhide HQ3, eq_false ct]) (rowB (cur := #[.int .i64 kd3, .string ⟨tx3.toArray⟩, .int .i64 nm3, .int .i64 ps3, .string ⟨#[]⟩, .int .i64 0, .slice ao3 kids3.length cp3]) (bw0 (by simp <;> omega)) ((Nd.mk (kd := kd3) (tx := tx3) (nm := nm3) (ps := ps3) row3).ag (aw2 (aw2 (aw7 aw0 (by first | omega | (simp <;> omega))) (by simp <;> omega)) (by simp <;> omega))) rfl (by omega) (by omega) (by omega) (by omega) (.inr (by omega))) (by simp <;> omega) ?_ ?_)
   ·exact pw2 (pw2 (pw7 (by go_wf) ok (by first | omega | (simp <;> omega))))
   ·exact gw2 (gw2 (gw7 (by go_wf) (by first | omega | (simp <;> omega))))
  have bt : ((tok C.ts k).text == [60, 45]) = true := by simp [ct]
  have CT := hide ct
  clear ct
  go_wp2
  refine bodyPost_ret (v := .tuple #[.agg #[.int .i64 41, .string ⟨(tok C.ts k).text.toArray⟩, .int .i64 0, .int .i64 (tok C.ts k).pos, .string ⟨#[]⟩, .int .i64 0, .slice (some ⟨w3.heap.size + 1, 0, none⟩) 1 1], .int .i64 1]) (by simp [results, Tryz.results99, go_sem, *]) rfl (spost_ok (hi := w3.heap.size + 2) (s := 1) (k' := k3) (tx := (tok C.ts k).text) (kids := [.mk kd3 tx3 nm3 ps3 kids3]) (by rw [← unhide HR]; simp only [fShaped, ub, eq_true c1, unhide HQ3, eq_true (unhide CT)]) (rowB (cur := #[.int .i64 kd3, .string ⟨tx3.toArray⟩, .int .i64 nm3, .int .i64 ps3, .string ⟨#[]⟩, .int .i64 0, .slice ao3 kids3.length cp3]) (bw0 (by simp <;> omega)) ((Nd.mk (kd := kd3) (tx := tx3) (nm := nm3) (ps := ps3) row3).ag (aw2 (aw2 (aw7 aw0 (by first | omega | (simp <;> omega))) (by simp <;> omega)) (by simp <;> omega))) rfl (by omega) (by omega) (by omega) (by omega) (.inr (by omega))) (by simp <;> omega) ?_ ?_)
  ·exact pw2 (pw2 (pw7 (by go_wf) ok (by first | omega | (simp <;> omega))))
  ·exact gw2 (gw2 (gw7 (by go_wf) (by first | omega | (simp <;> omega))))
 ·skip
  by_cases ct : (tok C.ts k).text = [60, 45]
  rotate_left
  ·skip
   have bt : ((tok C.ts k).text == [60, 45]) = false := beq_eq_false_iff_ne.2 ct
   go_wp2
   refine bodyPost_ret (v := .tuple #[.agg #[.int .i64 41, .string ⟨(tok C.ts k).text.toArray⟩, .int .i64 0, .int .i64 (tok C.ts k).pos, .string ⟨#[]⟩, .int .i64 0, .slice (some ⟨w3.heap.size, 0, none⟩) 1 1], .int .i64 0]) (by simp [results, Tryz.results99, go_sem, *]) rfl (spost_ok (hi := w3.heap.size + 1) (s := 0) (k' := k3) (tx := (tok C.ts k).text) (kids := [.mk kd3 tx3 nm3 ps3 kids3]) (by rw [← unhide HR]; simp only [fShaped, ub, eq_true c1, unhide HQ3, eq_false ct]) (rowB (cur := #[.int .i64 kd3, .string ⟨tx3.toArray⟩, .int .i64 nm3, .int .i64 ps3, .string ⟨#[]⟩, .int .i64 0, .slice ao3 kids3.length cp3]) (bw0 (by simp <;> omega)) ((Nd.mk (kd := kd3) (tx := tx3) (nm := nm3) (ps := ps3) row3).ag (aw2 (aw7 (aw7 aw0 (by first | omega | (simp <;> omega))) (by first | omega | (simp <;> omega))) (by simp <;> omega))) rfl (by omega) (by omega) (by omega) (by omega) (.inr (by omega))) (by simp <;> omega) ?_ ?_)
   ·exact pw2 (pw7 (pw7 (by go_wf) ok (by first | omega | (simp <;> omega))) ok (by first | omega | (simp <;> omega)))
   ·exact gw2 (gw7 (gw7 (by go_wf) (by first | omega | (simp <;> omega))) (by first | omega | (simp <;> omega)))
  have bt : ((tok C.ts k).text == [60, 45]) = true := by simp [ct]
  have CT := hide ct
  clear ct
  go_wp2
  refine bodyPost_ret (v := .tuple #[.agg #[.int .i64 41, .string ⟨(tok C.ts k).text.toArray⟩, .int .i64 0, .int .i64 (tok C.ts k).pos, .string ⟨#[]⟩, .int .i64 0, .slice (some ⟨w3.heap.size, 0, none⟩) 1 1], .int .i64 1]) (by simp [results, Tryz.results99, go_sem, *]) rfl (spost_ok (hi := w3.heap.size + 1) (s := 1) (k' := k3) (tx := (tok C.ts k).text) (kids := [.mk kd3 tx3 nm3 ps3 kids3]) (by rw [← unhide HR]; simp only [fShaped, ub, eq_true c1, unhide HQ3, eq_true (unhide CT)]) (rowB (cur := #[.int .i64 kd3, .string ⟨tx3.toArray⟩, .int .i64 nm3, .int .i64 ps3, .string ⟨#[]⟩, .int .i64 0, .slice ao3 kids3.length cp3]) (bw0 (by simp <;> omega)) ((Nd.mk (kd := kd3) (tx := tx3) (nm := nm3) (ps := ps3) row3).ag (aw2 (aw7 (aw7 aw0 (by first | omega | (simp <;> omega))) (by first | omega | (simp <;> omega))) (by simp <;> omega))) rfl (by omega) (by omega) (by omega) (by omega) (.inr (by omega))) (by simp <;> omega) ?_ ?_)
  ·exact pw2 (pw7 (pw7 (by go_wf) ok (by first | omega | (simp <;> omega))) ok (by first | omega | (simp <;> omega)))
  ·exact gw2 (gw7 (gw7 (by go_wf) (by first | omega | (simp <;> omega))) (by first | omega | (simp <;> omega)))
end Go.Proofs.YtgckmkiiheaeaaaGreatDoor
