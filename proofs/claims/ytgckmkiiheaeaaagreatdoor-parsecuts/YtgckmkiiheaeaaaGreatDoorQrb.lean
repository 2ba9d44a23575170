import Derived.Test.YtgckmkiiheaeaaaGreatDoorQg
import Derived.Test.YtgckmkiiheaeaaaGreatDoorParW
import Derived.Test.YtgckmkiiheaeaaaGreatDoorParA
import Derived.Test.YtgckmkiiheaeaaaGreatDoorParB
set_option linter.unusedVariables false
set_option linter.unusedSimpArgs false
set_option maxRecDepth 100000
namespace Go.Proofs.YtgckmkiiheaeaaaGreatDoor
open Go.RowKit Lx Px
set_option maxHeartbeats 800000 in
theorem jump_w (C : Ctx) (ok : C.Ok) (kd : Int) : ∀ (h : Bool) (k : Nat) (w : World), PS w C k h → (tok C.ts k).kind ≠ 6 → Calls Tryz.prog 88 #[.pointer (some ⟨C.b, 0, none⟩), .int .i64 kd] w (NPost C w.heap.size (jump C.ts kd k) h w) := by
 intro h k w p h6
 generalize hR : jump C.ts kd k = r0 at ⊢
 have H6 := hide h6
 clear h6
 have hbl := p.lt
 have htf0 := tokF0
 have htf1 := tokF1
 have htf3 := tokF3
 have G0 := grown_refl w (some C.b)
 have HR := hide hR
 clear hR
 go_enter Tryz.func88, Tryz.ntmps88
 go_wp2_with fail
 refine (take_any C ok k h _ (pw2 ‹_›) (unhide H6)).mono ?_
 rintro e w1 ⟨rfl, p1, hg⟩
 have hz1 := hg.size
 (try simp at hz1)
 have G1 : w.grownBy w1 (some C.b) := grown_trans (gw2 ‹_›) hg
 have bl0_1 : BL w1 w.heap.size (nd0) := BL.grown (bw0 (by omega)) hg (by omega)
 clear hg
 have ⟨nf1, nf2⟩ : ¬ w.heap.size = C.b ∧ ¬ w1.heap.size = C.b := by omega
 go_wp2_with fail
 refine (token_any C ok (k + 1) h _ (pw2 ‹_›)).mono ?_
 rintro e w2 ⟨rfl, hgq⟩
 have p2 := PS.quiet (C := C) (k := (k + 1)) (h := h) (pw2 ‹_›) hgq
 have hg := grown_any (r := some C.b) hgq
 clear hgq
 have G2 : w.grownBy w2 (some C.b) := grown_trans (gw2 ‹_›) hg
 have bl0_2 : BL w2 w.heap.size (nd0) := BL.grown (bw2 ‹_›) hg (by omega)
 have zc0_2 := bl0_2.cell
 have fz0_2 := bl0_2.frozen
 have bl1_2 : BL w2 w1.heap.size (nqC kd ⟨#[]⟩ 0 (tok C.ts k).pos none 0 0) := BL.grown (bw0 (by omega)) hg (by omega)
 have zc1_2 := bl1_2.cell
 clear bl0_1
 clear p1
 clear hg
 by_cases c1 : (tok C.ts (k + 1)).kind = 1
 rotate_left
 ·skip
  have b1 : ((tok C.ts (k + 1)).kind == 1) = false := by simp [c1]
  go_wp2
  refine bodyPost_ret (v := .agg #[.int .i64 kd, .string ⟨#[]⟩, .int .i64 0, .int .i64 (tok C.ts k).pos, .string ⟨#[]⟩, .int .i64 0, .slice none 0 0]) (by simp [results, Tryz.results88, go_sem, *]) rfl (npost_ok (hi := w2.heap.size) (s := 0) (k' := k + 1) (tx := []) (kids := []) (by rw [← unhide HR]; simp only [jump, ub, eq_false c1]) (RowI.nil _ _ _) (by simp <;> omega) ?_ ?_)
  ·exact pw7 ‹_› ok (by first | omega | (simp <;> omega))
  ·exact gw7 ‹_› (by first | omega | (simp <;> omega))
 have b1 : ((tok C.ts (k + 1)).kind == 1) = true := by simp [c1]
 have h7 : Hid ((tok C.ts (k + 1)).kind ≠ 6) := by show (tok C.ts (k + 1)).kind ≠ 6; omega
 have C1 := hide c1
 clear c1
 go_wp2_with fail
 refine (take_any C ok (k + 1) h _ ‹_› (unhide h7)).mono ?_
 rintro e w3 ⟨rfl, p3, hg⟩
 have G3 : w.grownBy w3 (some C.b) := grown_trans ‹_› hg
 have bl0_3 : BL w3 w.heap.size (nd0) := BL.grown ‹_› hg (by omega)
 have zc0_3 := bl0_3.cell
 have fz0_3 := bl0_3.frozen
 have bl1_3 : BL w3 w1.heap.size (nqC kd ⟨#[]⟩ 0 (tok C.ts k).pos none 0 0) := BL.grown ‹_› hg (by omega)
 have zc1_3 := bl1_3.cell
 have fz1_3 := bl1_3.frozen
 clear bl0_2 zc0_2 fz0_2
 clear bl1_2 zc1_2
 clear p2
 clear hg
 go_wp2
 refine bodyPost_ret (v := .agg #[.int .i64 kd, .string ⟨(tok C.ts (k + 1)).text.toArray⟩, .int .i64 0, .int .i64 (tok C.ts k).pos, .string ⟨#[]⟩, .int .i64 0, .slice none 0 0]) (by simp [results, Tryz.results88, go_sem, *]) rfl (npost_ok (hi := w3.heap.size) (s := 0) (k' := k + 2) (tx := (tok C.ts (k + 1)).text) (kids := []) (by rw [← unhide HR]; simp only [jump, ub, eq_true (unhide C1)]) (RowI.nil _ _ _) (by simp <;> omega) ?_ ?_)
 ·exact pw7 (pw3 ‹_› ok (by simp <;> omega)) ok (by first | omega | (simp <;> omega))
 ·exact gw7 (gw3 ‹_› (by simp <;> omega)) (by first | omega | (simp <;> omega))
set_option maxHeartbeats 800000 in
theorem stmt_w (C : Ctx) (ok : C.Ok) (n : Nat) (ih : All C n) : CN C 84 .stmt #[.pointer (some ⟨C.b, 0, none⟩)] (n + 1) := by
 intro h k w p hout
 have hr : run C.ts (n + 1) .stmt h k = fStmt C.ts (run C.ts n) h k := rfl
 rw [hr] at hout ⊢
 clear hr
 generalize hR : fStmt C.ts (run C.ts n) h k = r0 at hout ⊢
 have hbl := p.lt
 have htf3 := tokF3
 have G0 := grown_refl w (some C.b)
 have HR := hide hR
 clear hR
 have HO := hide hout
 clear hout
 by_cases svar : sign C.ts k = [118, 97, 114]
 ·skip
  have h6 := hide (sign_ne svar)
  go_enter Tryz.func84, Tryz.ntmps84
  go_wp2_with fail
  refine (token_any C ok k h _ (pw2 ‹_›)).mono ?_
  rintro e w1 ⟨rfl, hgq⟩
  have p1 := PS.quiet (C := C) (k := k) (h := h) (pw2 ‹_›) hgq
  have hg := grown_any (r := some C.b) hgq
  clear hgq
  have G1 : w.grownBy w1 (some C.b) := grown_trans (gw2 ‹_›) hg
  have bl0_1 : BL w1 w.heap.size (nd0) := BL.grown (bw0 (by omega)) hg (by omega)
  clear hg
  have nf1 : ¬ w.heap.size = C.b := by omega
  go_wp2_with fail
  refine (sign_any C ok k h _ ‹_›).mono ?_
  rintro e w2 ⟨rfl, hgq⟩
  have p2 := PS.quiet (C := C) (k := k) (h := h) ‹_› hgq
  have hg := grown_any (r := some C.b) hgq
  clear hgq
  have G2 : w.grownBy w2 (some C.b) := grown_trans ‹_› hg
  have bl0_2 : BL w2 w.heap.size (nd0) := BL.grown ‹_› hg (by omega)
  have hl0_2 := bl0_2.lt
  clear bl0_1
  clear p1
  clear hg
  go_wp2_with fail
  refine (ih.at.varStmt h k _ ‹_› (unhide h6) (fun hx => unhide HO ((unhide HR).symm.trans (by simp only [fStmt, ub, eq_true svar, hx])))).mono ?_
  rintro e w3 hp
  rcases hp with ⟨kd3, tx3, nm3, ps3, kids3, s3, k3, ao3, cp3, hq, rfl, hrow, p3, hg⟩ | ⟨pb, rule, hq, rfl, hg⟩
  rotate_left
  (exact ⟨rfl, npost_bad (by rw [← unhide HR]; simp only [fStmt, ub, eq_true svar, hq]) (grown_trans ‹_› hg)⟩)
  have G3 : w.grownBy w3 (some C.b) := grown_trans ‹_› hg
  have bl0_3 : BL w3 w.heap.size (nd0) := BL.grown ‹_› hg (by omega)
  have zc0_3 := bl0_3.cell
  have fz0_3 := bl0_3.frozen
  clear bl0_2
  clear p2
  obtain ⟨lo3, hlo3, row3⟩ := hrow.named
  (try simp at hlo3)
  have HQ3 := hide hq
  clear hrow hq
  clear hg
  go_wp2
  refine bodyPost_ret (v := .agg #[.int .i64 kd3, .string ⟨tx3.toArray⟩, .int .i64 nm3, .int .i64 ps3, .string ⟨#[]⟩, .int .i64 0, .slice ao3 kids3.length cp3]) (by simp [results, Tryz.results84, go_sem, *]) rfl (npost_ok (hi := w3.heap.size) (s := s3) (k' := k3) (tx := tx3) (kids := kids3) (by rw [← unhide HR]; simp only [fStmt, ub, eq_true svar, unhide HQ3]) (row3.ag (aw7 aw0 (by first | omega | (simp <;> omega))) (by omega) (Nat.le_refl _)) (by simp <;> omega) ?_ ?_)
  ·exact pw7 ‹_› ok (by first | omega | (simp <;> omega))
  ·exact gw7 ‹_› (by first | omega | (simp <;> omega))
 by_cases sbrace : sign C.ts k = [123]
 ·skip
  go_enter Tryz.func84, Tryz.ntmps84
  go_wp2_with fail
  refine (token_any C ok k h _ (pw2 ‹_›)).mono ?_
  rintro e w1 ⟨rfl, hgq⟩
  have p1 := PS.quiet (C := C) (k := k) (h := h) (pw2 ‹_›) hgq
  have hg := grown_any (r := some C.b) hgq
  clear hgq
  have G1 : w.grownBy w1 (some C.b) := grown_trans (gw2 ‹_›) hg
  have bl0_1 : BL w1 w.heap.size (nd0) := BL.grown (bw0 (by omega)) hg (by omega)
  clear hg
  have nf1 : ¬ w.heap.size = C.b := by omega
  go_wp2_with fail
  refine (sign_any C ok k h _ ‹_›).mono ?_
  rintro e w2 ⟨rfl, hgq⟩
  have p2 := PS.quiet (C := C) (k := k) (h := h) ‹_› hgq
  have hg := grown_any (r := some C.b) hgq
  clear hgq
  have G2 : w.grownBy w2 (some C.b) := grown_trans ‹_› hg
  have bl0_2 : BL w2 w.heap.size (nd0) := BL.grown ‹_› hg (by omega)
  have hl0_2 := bl0_2.lt
  clear bl0_1
  clear p1
  clear hg
  go_wp2_with fail
  refine (ih.at.block h k _ ‹_› (fun hx => unhide HO ((unhide HR).symm.trans (by simp only [fStmt, ub, eq_false svar, eq_true sbrace, hx])))).mono ?_
  rintro e w3 hp
  rcases hp with ⟨kd3, tx3, nm3, ps3, kids3, s3, k3, ao3, cp3, hq, rfl, hrow, p3, hg⟩ | ⟨pb, rule, hq, rfl, hg⟩
  rotate_left
  (exact ⟨rfl, npost_bad (by rw [← unhide HR]; simp only [fStmt, ub, eq_false svar, eq_true sbrace, hq]) (grown_trans ‹_› hg)⟩)
  have G3 : w.grownBy w3 (some C.b) := grown_trans ‹_› hg
  have bl0_3 : BL w3 w.heap.size (nd0) := BL.grown ‹_› hg (by omega)
  have zc0_3 := bl0_3.cell
  have fz0_3 := bl0_3.frozen
  clear bl0_2
  clear p2
  obtain ⟨lo3, hlo3, row3⟩ := hrow.named
  (try simp at hlo3)
  have HQ3 := hide hq
  clear hrow hq
  clear hg
  go_wp2
  refine bodyPost_ret (v := .agg #[.int .i64 kd3, .string ⟨tx3.toArray⟩, .int .i64 nm3, .int .i64 ps3, .string ⟨#[]⟩, .int .i64 0, .slice ao3 kids3.length cp3]) (by simp [results, Tryz.results84, go_sem, *]) rfl (npost_ok (hi := w3.heap.size) (s := s3) (k' := k3) (tx := tx3) (kids := kids3) (by rw [← unhide HR]; simp only [fStmt, ub, eq_false svar, eq_true sbrace, unhide HQ3]) (row3.ag (aw7 aw0 (by first | omega | (simp <;> omega))) (by omega) (Nat.le_refl _)) (by simp <;> omega) ?_ ?_)
  ·exact pw7 ‹_› ok (by first | omega | (simp <;> omega))
  ·exact gw7 ‹_› (by first | omega | (simp <;> omega))
 by_cases sif : sign C.ts k = [105, 102]
 ·skip
  have h6 := hide (sign_ne sif)
  go_enter Tryz.func84, Tryz.ntmps84
  go_wp2_with fail
  refine (token_any C ok k h _ (pw2 ‹_›)).mono ?_
  rintro e w1 ⟨rfl, hgq⟩
  have p1 := PS.quiet (C := C) (k := k) (h := h) (pw2 ‹_›) hgq
  have hg := grown_any (r := some C.b) hgq
  clear hgq
  have G1 : w.grownBy w1 (some C.b) := grown_trans (gw2 ‹_›) hg
  have bl0_1 : BL w1 w.heap.size (nd0) := BL.grown (bw0 (by omega)) hg (by omega)
  clear hg
  have nf1 : ¬ w.heap.size = C.b := by omega
  go_wp2_with fail
  refine (sign_any C ok k h _ ‹_›).mono ?_
  rintro e w2 ⟨rfl, hgq⟩
  have p2 := PS.quiet (C := C) (k := k) (h := h) ‹_› hgq
  have hg := grown_any (r := some C.b) hgq
  clear hgq
  have G2 : w.grownBy w2 (some C.b) := grown_trans ‹_› hg
  have bl0_2 : BL w2 w.heap.size (nd0) := BL.grown ‹_› hg (by omega)
  have hl0_2 := bl0_2.lt
  clear bl0_1
  clear p1
  clear hg
  go_wp2_with fail
  refine (ih.at.ifStmt h k _ ‹_› (unhide h6) (fun hx => unhide HO ((unhide HR).symm.trans (by simp only [fStmt, ub, eq_false svar, eq_false sbrace, eq_true sif, hx])))).mono ?_
  rintro e w3 hp
  rcases hp with ⟨kd3, tx3, nm3, ps3, kids3, s3, k3, ao3, cp3, hq, rfl, hrow, p3, hg⟩ | ⟨pb, rule, hq, rfl, hg⟩
  rotate_left
  (exact ⟨rfl, npost_bad (by rw [← unhide HR]; simp only [fStmt, ub, eq_false svar, eq_false sbrace, eq_true sif, hq]) (grown_trans ‹_› hg)⟩)
  have G3 : w.grownBy w3 (some C.b) := grown_trans ‹_› hg
  have bl0_3 : BL w3 w.heap.size (nd0) := BL.grown ‹_› hg (by omega)
  have zc0_3 := bl0_3.cell
  have fz0_3 := bl0_3.frozen
  clear bl0_2
  clear p2
  obtain ⟨lo3, hlo3, row3⟩ := hrow.named
  (try simp at hlo3)
  have HQ3 := hide hq
  clear hrow hq
  clear hg
  go_wp2
  refine bodyPost_ret (v := .agg #[.int .i64 kd3, .string ⟨tx3.toArray⟩, .int .i64 nm3, .int .i64 ps3, .string ⟨#[]⟩, .int .i64 0, .slice ao3 kids3.length cp3]) (by simp [results, Tryz.results84, go_sem, *]) rfl (npost_ok (hi := w3.heap.size) (s := s3) (k' := k3) (tx := tx3) (kids := kids3) (by rw [← unhide HR]; simp only [fStmt, ub, eq_false svar, eq_false sbrace, eq_true sif, unhide HQ3]) (row3.ag (aw7 aw0 (by first | omega | (simp <;> omega))) (by omega) (Nat.le_refl _)) (by simp <;> omega) ?_ ?_)
  ·exact pw7 ‹_› ok (by first | omega | (simp <;> omega))
  ·exact gw7 ‹_› (by first | omega | (simp <;> omega))
 by_cases sfor : sign C.ts k = [102, 111, 114]
 ·skip
  go_enter Tryz.func84, Tryz.ntmps84
  go_wp2_with fail
  refine (token_any C ok k h _ (pw2 ‹_›)).mono ?_
  rintro e w1 ⟨rfl, hgq⟩
  have p1 := PS.quiet (C := C) (k := k) (h := h) (pw2 ‹_›) hgq
  have hg := grown_any (r := some C.b) hgq
  clear hgq
  have G1 : w.grownBy w1 (some C.b) := grown_trans (gw2 ‹_›) hg
  have bl0_1 : BL w1 w.heap.size (nd0) := BL.grown (bw0 (by omega)) hg (by omega)
  clear hg
  have nf1 : ¬ w.heap.size = C.b := by omega
  go_wp2_with fail
  refine (sign_any C ok k h _ ‹_›).mono ?_
  rintro e w2 ⟨rfl, hgq⟩
  have p2 := PS.quiet (C := C) (k := k) (h := h) ‹_› hgq
  have hg := grown_any (r := some C.b) hgq
  clear hgq
  have G2 : w.grownBy w2 (some C.b) := grown_trans ‹_› hg
  have bl0_2 : BL w2 w.heap.size (nd0) := BL.grown ‹_› hg (by omega)
  have hl0_2 := bl0_2.lt
  clear bl0_1
  clear p1
  clear hg
  go_wp2_with fail
  refine (ih.at.breakable h k _ ‹_› (fun hx => unhide HO ((unhide HR).symm.trans (by simp only [fStmt, ub, eq_false svar, eq_false sbrace, eq_false sif, eq_true sfor, h3a (a := [102, 111, 114]) (b := [115, 119, 105, 116, 99, 104]) (c := [115, 101, 108, 101, 99, 116]) sfor, hx])))).mono ?_
  rintro e w3 hp
  rcases hp with ⟨kd3, tx3, nm3, ps3, kids3, s3, k3, ao3, cp3, hq, rfl, hrow, p3, hg⟩ | ⟨pb, rule, hq, rfl, hg⟩
  rotate_left
  (exact ⟨rfl, npost_bad (by rw [← unhide HR]; simp only [fStmt, ub, eq_false svar, eq_false sbrace, eq_false sif, eq_true sfor, h3a (a := [102, 111, 114]) (b := [115, 119, 105, 116, 99, 104]) (c := [115, 101, 108, 101, 99, 116]) sfor, hq]) (grown_trans ‹_› hg)⟩)
  have G3 : w.grownBy w3 (some C.b) := grown_trans ‹_› hg
  have bl0_3 : BL w3 w.heap.size (nd0) := BL.grown ‹_› hg (by omega)
  have zc0_3 := bl0_3.cell
  have fz0_3 := bl0_3.frozen
  clear bl0_2
  clear p2
  obtain ⟨lo3, hlo3, row3⟩ := hrow.named
  (try simp at hlo3)
  have HQ3 := hide hq
  clear hrow hq
  clear hg
  go_wp2
  refine bodyPost_ret (v := .agg #[.int .i64 kd3, .string ⟨tx3.toArray⟩, .int .i64 nm3, .int .i64 ps3, .string ⟨#[]⟩, .int .i64 0, .slice ao3 kids3.length cp3]) (by simp [results, Tryz.results84, go_sem, *]) rfl (npost_ok (hi := w3.heap.size) (s := s3) (k' := k3) (tx := tx3) (kids := kids3) (by rw [← unhide HR]; simp only [fStmt, ub, eq_false svar, eq_false sbrace, eq_false sif, eq_true sfor, h3a (a := [102, 111, 114]) (b := [115, 119, 105, 116, 99, 104]) (c := [115, 101, 108, 101, 99, 116]) sfor, unhide HQ3]) (row3.ag (aw7 aw0 (by first | omega | (simp <;> omega))) (by omega) (Nat.le_refl _)) (by simp <;> omega) ?_ ?_)
  ·exact pw7 ‹_› ok (by first | omega | (simp <;> omega))
  ·exact gw7 ‹_› (by first | omega | (simp <;> omega))
 by_cases sswitch : sign C.ts k = [115, 119, 105, 116, 99, 104]
 ·skip
  go_enter Tryz.func84, Tryz.ntmps84
  go_wp2_with fail
  refine (token_any C ok k h _ (pw2 ‹_›)).mono ?_
  rintro e w1 ⟨rfl, hgq⟩
  have p1 := PS.quiet (C := C) (k := k) (h := h) (pw2 ‹_›) hgq
  have hg := grown_any (r := some C.b) hgq
  clear hgq
  have G1 : w.grownBy w1 (some C.b) := grown_trans (gw2 ‹_›) hg
  have bl0_1 : BL w1 w.heap.size (nd0) := BL.grown (bw0 (by omega)) hg (by omega)
  clear hg
  have nf1 : ¬ w.heap.size = C.b := by omega
  go_wp2_with fail
  refine (sign_any C ok k h _ ‹_›).mono ?_
  rintro e w2 ⟨rfl, hgq⟩
  have p2 := PS.quiet (C := C) (k := k) (h := h) ‹_› hgq
  have hg := grown_any (r := some C.b) hgq
  clear hgq
  have G2 : w.grownBy w2 (some C.b) := grown_trans ‹_› hg
  have bl0_2 : BL w2 w.heap.size (nd0) := BL.grown ‹_› hg (by omega)
  have hl0_2 := bl0_2.lt
  clear bl0_1
  clear p1
  clear hg
  go_wp2_with fail
  refine (ih.at.breakable h k _ ‹_› (fun hx => unhide HO ((unhide HR).symm.trans (by simp only [fStmt, ub, eq_false svar, eq_false sbrace, eq_false sif, eq_false sfor, eq_true sswitch, h3b (a := [102, 111, 114]) (b := [115, 119, 105, 116, 99, 104]) (c := [115, 101, 108, 101, 99, 116]) sswitch, hx])))).mono ?_
  rintro e w3 hp
  rcases hp with ⟨kd3, tx3, nm3, ps3, kids3, s3, k3, ao3, cp3, hq, rfl, hrow, p3, hg⟩ | ⟨pb, rule, hq, rfl, hg⟩
  rotate_left
  (exact ⟨rfl, npost_bad (by rw [← unhide HR]; simp only [fStmt, ub, eq_false svar, eq_false sbrace, eq_false sif, eq_false sfor, eq_true sswitch, h3b (a := [102, 111, 114]) (b := [115, 119, 105, 116, 99, 104]) (c := [115, 101, 108, 101, 99, 116]) sswitch, hq]) (grown_trans ‹_› hg)⟩)
  have G3 : w.grownBy w3 (some C.b) := grown_trans ‹_› hg
  have bl0_3 : BL w3 w.heap.size (nd0) := BL.grown ‹_› hg (by omega)
  have zc0_3 := bl0_3.cell
  have fz0_3 := bl0_3.frozen
  clear bl0_2
  clear p2
  obtain ⟨lo3, hlo3, row3⟩ := hrow.named
  (try simp at hlo3)
  have HQ3 := hide hq
  clear hrow hq
  clear hg
  go_wp2
  refine bodyPost_ret (v := .agg #[.int .i64 kd3, .string ⟨tx3.toArray⟩, .int .i64 nm3, .int .i64 ps3, .string ⟨#[]⟩, .int .i64 0, .slice ao3 kids3.length cp3]) (by simp [results, Tryz.results84, go_sem, *]) rfl (npost_ok (hi := w3.heap.size) (s := s3) (k' := k3) (tx := tx3) (kids := kids3) (by rw [← unhide HR]; simp only [fStmt, ub, eq_false svar, eq_false sbrace, eq_false sif, eq_false sfor, eq_true sswitch, h3b (a := [102, 111, 114]) (b := [115, 119, 105, 116, 99, 104]) (c := [115, 101, 108, 101, 99, 116]) sswitch, unhide HQ3]) (row3.ag (aw7 aw0 (by first | omega | (simp <;> omega))) (by omega) (Nat.le_refl _)) (by simp <;> omega) ?_ ?_)
  ·exact pw7 ‹_› ok (by first | omega | (simp <;> omega))
  ·exact gw7 ‹_› (by first | omega | (simp <;> omega))
 by_cases sselect : sign C.ts k = [115, 101, 108, 101, 99, 116]
 ·skip
  go_enter Tryz.func84, Tryz.ntmps84
  go_wp2_with fail
  refine (token_any C ok k h _ (pw2 ‹_›)).mono ?_
  rintro e w1 ⟨rfl, hgq⟩
  have p1 := PS.quiet (C := C) (k := k) (h := h) (pw2 ‹_›) hgq
  have hg := grown_any (r := some C.b) hgq
  clear hgq
  have G1 : w.grownBy w1 (some C.b) := grown_trans (gw2 ‹_›) hg
  have bl0_1 : BL w1 w.heap.size (nd0) := BL.grown (bw0 (by omega)) hg (by omega)
  clear hg
  have nf1 : ¬ w.heap.size = C.b := by omega
  go_wp2_with fail
  refine (sign_any C ok k h _ ‹_›).mono ?_
  rintro e w2 ⟨rfl, hgq⟩
  have p2 := PS.quiet (C := C) (k := k) (h := h) ‹_› hgq
  have hg := grown_any (r := some C.b) hgq
  clear hgq
  have G2 : w.grownBy w2 (some C.b) := grown_trans ‹_› hg
  have bl0_2 : BL w2 w.heap.size (nd0) := BL.grown ‹_› hg (by omega)
  have hl0_2 := bl0_2.lt
  clear bl0_1
  clear p1
  clear hg
  go_wp2_with fail
  refine (ih.at.breakable h k _ ‹_› (fun hx => unhide HO ((unhide HR).symm.trans (by simp only [fStmt, ub, eq_false svar, eq_false sbrace, eq_false sif, eq_false sfor, eq_false sswitch, eq_true sselect, h3c (a := [102, 111, 114]) (b := [115, 119, 105, 116, 99, 104]) (c := [115, 101, 108, 101, 99, 116]) sselect, hx])))).mono ?_
  rintro e w3 hp
  rcases hp with ⟨kd3, tx3, nm3, ps3, kids3, s3, k3, ao3, cp3, hq, rfl, hrow, p3, hg⟩ | ⟨pb, rule, hq, rfl, hg⟩
  rotate_left
  (exact ⟨rfl, npost_bad (by rw [← unhide HR]; simp only [fStmt, ub, eq_false svar, eq_false sbrace, eq_false sif, eq_false sfor, eq_false sswitch, eq_true sselect, h3c (a := [102, 111, 114]) (b := [115, 119, 105, 116, 99, 104]) (c := [115, 101, 108, 101, 99, 116]) sselect, hq]) (grown_trans ‹_› hg)⟩)
  have G3 : w.grownBy w3 (some C.b) := grown_trans ‹_› hg
  have bl0_3 : BL w3 w.heap.size (nd0) := BL.grown ‹_› hg (by omega)
  have zc0_3 := bl0_3.cell
  have fz0_3 := bl0_3.frozen
  clear bl0_2
  clear p2
  obtain ⟨lo3, hlo3, row3⟩ := hrow.named
  (try simp at hlo3)
  have HQ3 := hide hq
  clear hrow hq
  clear hg
  go_wp2
  refine bodyPost_ret (v := .agg #[.int .i64 kd3, .string ⟨tx3.toArray⟩, .int .i64 nm3, .int .i64 ps3, .string ⟨#[]⟩, .int .i64 0, .slice ao3 kids3.length cp3]) (by simp [results, Tryz.results84, go_sem, *]) rfl (npost_ok (hi := w3.heap.size) (s := s3) (k' := k3) (tx := tx3) (kids := kids3) (by rw [← unhide HR]; simp only [fStmt, ub, eq_false svar, eq_false sbrace, eq_false sif, eq_false sfor, eq_false sswitch, eq_true sselect, h3c (a := [102, 111, 114]) (b := [115, 119, 105, 116, 99, 104]) (c := [115, 101, 108, 101, 99, 116]) sselect, unhide HQ3]) (row3.ag (aw7 aw0 (by first | omega | (simp <;> omega))) (by omega) (Nat.le_refl _)) (by simp <;> omega) ?_ ?_)
  ·exact pw7 ‹_› ok (by first | omega | (simp <;> omega))
  ·exact gw7 ‹_› (by first | omega | (simp <;> omega))
 by_cases sbreak : sign C.ts k = [98, 114, 101, 97, 107]
 ·skip
  have h6 := hide (sign_ne sbreak)
  go_enter Tryz.func84, Tryz.ntmps84
  go_wp2_with fail
  refine (token_any C ok k h _ (pw2 ‹_›)).mono ?_
  rintro e w1 ⟨rfl, hgq⟩
  have p1 := PS.quiet (C := C) (k := k) (h := h) (pw2 ‹_›) hgq
  have hg := grown_any (r := some C.b) hgq
  clear hgq
  have G1 : w.grownBy w1 (some C.b) := grown_trans (gw2 ‹_›) hg
  have bl0_1 : BL w1 w.heap.size (nd0) := BL.grown (bw0 (by omega)) hg (by omega)
  clear hg
  have nf1 : ¬ w.heap.size = C.b := by omega
  go_wp2_with fail
  refine (sign_any C ok k h _ ‹_›).mono ?_
  rintro e w2 ⟨rfl, hgq⟩
  have p2 := PS.quiet (C := C) (k := k) (h := h) ‹_› hgq
  have hg := grown_any (r := some C.b) hgq
  clear hgq
  have G2 : w.grownBy w2 (some C.b) := grown_trans ‹_› hg
  have bl0_2 : BL w2 w.heap.size (nd0) := BL.grown ‹_› hg (by omega)
  have hl0_2 := bl0_2.lt
  clear bl0_1
  clear p1
  clear hg
  go_wp2_with fail
  refine (jump_w C ok 27 h k _ ‹_› (unhide h6)).mono ?_
  rintro e w3 hp
  rcases hp with ⟨kd3, tx3, nm3, ps3, kids3, s3, k3, ao3, cp3, hq, rfl, hrow, p3, hg⟩ | ⟨pb, rule, hq, rfl, hg⟩
  rotate_left
  (exact ⟨rfl, npost_bad (by rw [← unhide HR]; simp only [fStmt, ub, eq_false svar, eq_false sbrace, eq_false sif, eq_false sfor, eq_false sswitch, eq_false sselect, eq_true sbreak, h3n sfor sswitch sselect, hq]) (grown_trans ‹_› hg)⟩)
  have G3 : w.grownBy w3 (some C.b) := grown_trans ‹_› hg
  have bl0_3 : BL w3 w.heap.size (nd0) := BL.grown ‹_› hg (by omega)
  have zc0_3 := bl0_3.cell
  have fz0_3 := bl0_3.frozen
  clear bl0_2
  clear p2
  obtain ⟨lo3, hlo3, row3⟩ := hrow.named
  (try simp at hlo3)
  have HQ3 := hide hq
  clear hrow hq
  clear hg
  go_wp2
  refine bodyPost_ret (v := .agg #[.int .i64 kd3, .string ⟨tx3.toArray⟩, .int .i64 nm3, .int .i64 ps3, .string ⟨#[]⟩, .int .i64 0, .slice ao3 kids3.length cp3]) (by simp [results, Tryz.results84, go_sem, *]) rfl (npost_ok (hi := w3.heap.size) (s := s3) (k' := k3) (tx := tx3) (kids := kids3) (by rw [← unhide HR]; simp only [fStmt, ub, eq_false svar, eq_false sbrace, eq_false sif, eq_false sfor, eq_false sswitch, eq_false sselect, eq_true sbreak, h3n sfor sswitch sselect, unhide HQ3]) (row3.ag (aw7 aw0 (by first | omega | (simp <;> omega))) (by omega) (Nat.le_refl _)) (by simp <;> omega) ?_ ?_)
  ·exact pw7 ‹_› ok (by first | omega | (simp <;> omega))
  ·exact gw7 ‹_› (by first | omega | (simp <;> omega))
 by_cases scontinue : sign C.ts k = [99, 111, 110, 116, 105, 110, 117, 101]
 ·skip
  have h6 := hide (sign_ne scontinue)
  go_enter Tryz.func84, Tryz.ntmps84
  go_wp2_with fail
  refine (token_any C ok k h _ (pw2 ‹_›)).mono ?_
  rintro e w1 ⟨rfl, hgq⟩
  have p1 := PS.quiet (C := C) (k := k) (h := h) (pw2 ‹_›) hgq
  have hg := grown_any (r := some C.b) hgq
  clear hgq
  have G1 : w.grownBy w1 (some C.b) := grown_trans (gw2 ‹_›) hg
  have bl0_1 : BL w1 w.heap.size (nd0) := BL.grown (bw0 (by omega)) hg (by omega)
  clear hg
  have nf1 : ¬ w.heap.size = C.b := by omega
  go_wp2_with fail
  refine (sign_any C ok k h _ ‹_›).mono ?_
  rintro e w2 ⟨rfl, hgq⟩
  have p2 := PS.quiet (C := C) (k := k) (h := h) ‹_› hgq
  have hg := grown_any (r := some C.b) hgq
  clear hgq
  have G2 : w.grownBy w2 (some C.b) := grown_trans ‹_› hg
  have bl0_2 : BL w2 w.heap.size (nd0) := BL.grown ‹_› hg (by omega)
  have hl0_2 := bl0_2.lt
  clear bl0_1
  clear p1
  clear hg
  go_wp2_with fail
  refine (jump_w C ok 28 h k _ ‹_› (unhide h6)).mono ?_
  rintro e w3 hp
  rcases hp with ⟨kd3, tx3, nm3, ps3, kids3, s3, k3, ao3, cp3, hq, rfl, hrow, p3, hg⟩ | ⟨pb, rule, hq, rfl, hg⟩
  rotate_left
  (exact ⟨rfl, npost_bad (by rw [← unhide HR]; simp only [fStmt, ub, eq_false svar, eq_false sbrace, eq_false sif, eq_false sfor, eq_false sswitch, eq_false sselect, eq_false sbreak, eq_true scontinue, h3n sfor sswitch sselect, hq]) (grown_trans ‹_› hg)⟩)
  have G3 : w.grownBy w3 (some C.b) := grown_trans ‹_› hg
  have bl0_3 : BL w3 w.heap.size (nd0) := BL.grown ‹_› hg (by omega)
  have zc0_3 := bl0_3.cell
  have fz0_3 := bl0_3.frozen
  clear bl0_2
  clear p2
  obtain ⟨lo3, hlo3, row3⟩ := hrow.named
  (try simp at hlo3)
  have HQ3 := hide hq
  clear hrow hq
  clear hg
  go_wp2
  refine bodyPost_ret (v := .agg #[.int .i64 kd3, .string ⟨tx3.toArray⟩, .int .i64 nm3, .int .i64 ps3, .string ⟨#[]⟩, .int .i64 0, .slice ao3 kids3.length cp3]) (by simp [results, Tryz.results84, go_sem, *]) rfl (npost_ok (hi := w3.heap.size) (s := s3) (k' := k3) (tx := tx3) (kids := kids3) (by rw [← unhide HR]; simp only [fStmt, ub, eq_false svar, eq_false sbrace, eq_false sif, eq_false sfor, eq_false sswitch, eq_false sselect, eq_false sbreak, eq_true scontinue, h3n sfor sswitch sselect, unhide HQ3]) (row3.ag (aw7 aw0 (by first | omega | (simp <;> omega))) (by omega) (Nat.le_refl _)) (by simp <;> omega) ?_ ?_)
  ·exact pw7 ‹_› ok (by first | omega | (simp <;> omega))
  ·exact gw7 ‹_› (by first | omega | (simp <;> omega))
 by_cases sfallthrough : sign C.ts k = [102, 97, 108, 108, 116, 104, 114, 111, 117, 103, 104]
 ·skip
  have h6 := hide (sign_ne sfallthrough)
  go_enter Tryz.func84, Tryz.ntmps84
  go_wp2_with fail
  refine (token_any C ok k h _ (pw2 ‹_›)).mono ?_
  rintro e w1 ⟨rfl, hgq⟩
  have p1 := PS.quiet (C := C) (k := k) (h := h) (pw2 ‹_›) hgq
  have hg := grown_any (r := some C.b) hgq
  clear hgq
  have G1 : w.grownBy w1 (some C.b) := grown_trans (gw2 ‹_›) hg
  have bl0_1 : BL w1 w.heap.size (nd0) := BL.grown (bw0 (by omega)) hg (by omega)
  clear hg
  have nf1 : ¬ w.heap.size = C.b := by omega
  go_wp2_with fail
  refine (sign_any C ok k h _ ‹_›).mono ?_
  rintro e w2 ⟨rfl, hgq⟩
  have p2 := PS.quiet (C := C) (k := k) (h := h) ‹_› hgq
  have hg := grown_any (r := some C.b) hgq
  clear hgq
  have G2 : w.grownBy w2 (some C.b) := grown_trans ‹_› hg
  have bl0_2 : BL w2 w.heap.size (nd0) := BL.grown ‹_› hg (by omega)
  clear bl0_1
  clear p1
  clear hg
  go_wp2_with fail
  refine (take_any C ok k h _ ‹_› (unhide h6)).mono ?_
  rintro e w3 ⟨rfl, p3, hg⟩
  have G3 : w.grownBy w3 (some C.b) := grown_trans ‹_› hg
  have bl0_3 : BL w3 w.heap.size (nd0) := BL.grown ‹_› hg (by omega)
  have zc0_3 := bl0_3.cell
  have fz0_3 := bl0_3.frozen
  clear bl0_2
  clear p2
  clear hg
  go_wp2
  refine bodyPost_ret (v := .agg #[.int .i64 29, .string ⟨#[]⟩, .int .i64 0, .int .i64 (tok C.ts k).pos, .string ⟨#[]⟩, .int .i64 0, .slice none 0 0]) (by simp [results, Tryz.results84, go_sem, *]) rfl (npost_ok (hi := w3.heap.size) (s := 0) (k' := k + 1) (tx := []) (kids := []) (by rw [← unhide HR]; simp only [fStmt, ub, eq_false svar, eq_false sbrace, eq_false sif, eq_false sfor, eq_false sswitch, eq_false sselect, eq_false sbreak, eq_false scontinue, eq_true sfallthrough, h3n sfor sswitch sselect]) (RowI.nil _ _ _) (by simp <;> omega) ?_ ?_)
  ·exact pw7 ‹_› ok (by first | omega | (simp <;> omega))
  ·exact gw7 ‹_› (by first | omega | (simp <;> omega))
 by_cases sreturn : sign C.ts k = [114, 101, 116, 117, 114, 110]
 ·skip
  have h6 := hide (sign_ne sreturn)
  go_enter Tryz.func84, Tryz.ntmps84
  go_wp2_with fail
  refine (token_any C ok k h _ (pw2 ‹_›)).mono ?_
  rintro e w1 ⟨rfl, hgq⟩
  have p1 := PS.quiet (C := C) (k := k) (h := h) (pw2 ‹_›) hgq
  have hg := grown_any (r := some C.b) hgq
  clear hgq
  have G1 : w.grownBy w1 (some C.b) := grown_trans (gw2 ‹_›) hg
  have bl0_1 : BL w1 w.heap.size (nd0) := BL.grown (bw0 (by omega)) hg (by omega)
  clear hg
  have nf1 : ¬ w.heap.size = C.b := by omega
  go_wp2_with fail
  refine (sign_any C ok k h _ ‹_›).mono ?_
  rintro e w2 ⟨rfl, hgq⟩
  have p2 := PS.quiet (C := C) (k := k) (h := h) ‹_› hgq
  have hg := grown_any (r := some C.b) hgq
  clear hgq
  have G2 : w.grownBy w2 (some C.b) := grown_trans ‹_› hg
  have bl0_2 : BL w2 w.heap.size (nd0) := BL.grown ‹_› hg (by omega)
  have hl0_2 := bl0_2.lt
  clear bl0_1
  clear p1
  clear hg
  go_wp2_with fail
  refine (ih.at.returnStmt h k _ ‹_› (unhide h6) (fun hx => unhide HO ((unhide HR).symm.trans (by simp only [fStmt, ub, eq_false svar, eq_false sbrace, eq_false sif, eq_false sfor, eq_false sswitch, eq_false sselect, eq_false sbreak, eq_false scontinue, eq_false sfallthrough, eq_true sreturn, h3n sfor sswitch sselect, hx])))).mono ?_
  rintro e w3 hp
  rcases hp with ⟨kd3, tx3, nm3, ps3, kids3, s3, k3, ao3, cp3, hq, rfl, hrow, p3, hg⟩ | ⟨pb, rule, hq, rfl, hg⟩
  rotate_left
  (exact ⟨rfl, npost_bad (by rw [← unhide HR]; simp only [fStmt, ub, eq_false svar, eq_false sbrace, eq_false sif, eq_false sfor, eq_false sswitch, eq_false sselect, eq_false sbreak, eq_false scontinue, eq_false sfallthrough, eq_true sreturn, h3n sfor sswitch sselect, hq]) (grown_trans ‹_› hg)⟩)
  have G3 : w.grownBy w3 (some C.b) := grown_trans ‹_› hg
  have bl0_3 : BL w3 w.heap.size (nd0) := BL.grown ‹_› hg (by omega)
  have zc0_3 := bl0_3.cell
  have fz0_3 := bl0_3.frozen
  clear bl0_2
  clear p2
  obtain ⟨lo3, hlo3, row3⟩ := hrow.named
  (try simp at hlo3)
  have HQ3 := hide hq
  clear hrow hq
  clear hg
  go_wp2
  refine bodyPost_ret (v := .agg #[.int .i64 kd3, .string ⟨tx3.toArray⟩, .int .i64 nm3, .int .i64 ps3, .string ⟨#[]⟩, .int .i64 0, .slice ao3 kids3.length cp3]) (by simp [results, Tryz.results84, go_sem, *]) rfl (npost_ok (hi := w3.heap.size) (s := s3) (k' := k3) (tx := tx3) (kids := kids3) (by rw [← unhide HR]; simp only [fStmt, ub, eq_false svar, eq_false sbrace, eq_false sif, eq_false sfor, eq_false sswitch, eq_false sselect, eq_false sbreak, eq_false scontinue, eq_false sfallthrough, eq_true sreturn, h3n sfor sswitch sselect, unhide HQ3]) (row3.ag (aw7 aw0 (by first | omega | (simp <;> omega))) (by omega) (Nat.le_refl _)) (by simp <;> omega) ?_ ?_)
  ·exact pw7 ‹_› ok (by first | omega | (simp <;> omega))
  ·exact gw7 ‹_› (by first | omega | (simp <;> omega))
 by_cases sgo : sign C.ts k = [103, 111]
 ·skip
  have h6 := hide (sign_ne sgo)
  go_enter Tryz.func84, Tryz.ntmps84
  go_wp2_with fail
  refine (token_any C ok k h _ (pw2 ‹_›)).mono ?_
  rintro e w1 ⟨rfl, hgq⟩
  have p1 := PS.quiet (C := C) (k := k) (h := h) (pw2 ‹_›) hgq
  have hg := grown_any (r := some C.b) hgq
  clear hgq
  have G1 : w.grownBy w1 (some C.b) := grown_trans (gw2 ‹_›) hg
  have bl0_1 : BL w1 w.heap.size (nd0) := BL.grown (bw0 (by omega)) hg (by omega)
  clear hg
  have nf1 : ¬ w.heap.size = C.b := by omega
  go_wp2_with fail
  refine (sign_any C ok k h _ ‹_›).mono ?_
  rintro e w2 ⟨rfl, hgq⟩
  have p2 := PS.quiet (C := C) (k := k) (h := h) ‹_› hgq
  have hg := grown_any (r := some C.b) hgq
  clear hgq
  have G2 : w.grownBy w2 (some C.b) := grown_trans ‹_› hg
  have bl0_2 : BL w2 w.heap.size (nd0) := BL.grown ‹_› hg (by omega)
  have hl0_2 := bl0_2.lt
  clear bl0_1
  clear p1
  clear hg
  go_wp2_with fail
  refine (ih.at.callStmt 31 h k _ ‹_› (unhide h6) (fun hx => unhide HO ((unhide HR).symm.trans (by simp only [fStmt, ub, eq_false svar, eq_false sbrace, eq_false sif, eq_false sfor, eq_false sswitch, eq_false sselect, eq_false sbreak, eq_false scontinue, eq_false sfallthrough, eq_false sreturn, eq_true sgo, h3n sfor sswitch sselect, hx])))).mono ?_
  rintro e w3 hp
  rcases hp with ⟨kd3, tx3, nm3, ps3, kids3, s3, k3, ao3, cp3, hq, rfl, hrow, p3, hg⟩ | ⟨pb, rule, hq, rfl, hg⟩
  rotate_left
  (exact ⟨rfl, npost_bad (by rw [← unhide HR]; simp only [fStmt, ub, eq_false svar, eq_false sbrace, eq_false sif, eq_false sfor, eq_false sswitch, eq_false sselect, eq_false sbreak, eq_false scontinue, eq_false sfallthrough, eq_false sreturn, eq_true sgo, h3n sfor sswitch sselect, hq]) (grown_trans ‹_› hg)⟩)
  have G3 : w.grownBy w3 (some C.b) := grown_trans ‹_› hg
  have bl0_3 : BL w3 w.heap.size (nd0) := BL.grown ‹_› hg (by omega)
  have zc0_3 := bl0_3.cell
  have fz0_3 := bl0_3.frozen
  clear bl0_2
  clear p2
  obtain ⟨lo3, hlo3, row3⟩ := hrow.named
  (try simp at hlo3)
  have HQ3 := hide hq
  clear hrow hq
  clear hg
  go_wp2
  refine bodyPost_ret (v := .agg #[.int .i64 kd3, .string ⟨tx3.toArray⟩, .int .i64 nm3, .int .i64 ps3, .string ⟨#[]⟩, .int .i64 0, .slice ao3 kids3.length cp3]) (by simp [results, Tryz.results84, go_sem, *]) rfl (npost_ok (hi := w3.heap.size) (s := s3) (k' := k3) (tx := tx3) (kids := kids3) (by rw [← unhide HR]; simp only [fStmt, ub, eq_false svar, eq_false sbrace, eq_false sif, eq_false sfor, eq_false sswitch, eq_false sselect, eq_false sbreak, eq_false scontinue, eq_false sfallthrough, eq_false sreturn, eq_true sgo, h3n sfor sswitch sselect, unhide HQ3]) (row3.ag (aw7 aw0 (by first | omega | (simp <;> omega))) (by omega) (Nat.le_refl _)) (by simp <;> omega) ?_ ?_)
  ·exact pw7 ‹_› ok (by first | omega | (simp <;> omega))
  ·exact gw7 ‹_› (by first | omega | (simp <;> omega))
 by_cases sdefer : sign C.ts k = [100, 101, 102, 101, 114]
 ·skip
  have h6 := hide (sign_ne sdefer)
  go_enter Tryz.func84, Tryz.ntmps84
  go_wp2_with fail
  refine (token_any C ok k h _ (pw2 ‹_›)).mono ?_
  rintro e w1 ⟨rfl, hgq⟩
  have p1 := PS.quiet (C := C) (k := k) (h := h) (pw2 ‹_›) hgq
  have hg := grown_any (r := some C.b) hgq
  clear hgq
  have G1 : w.grownBy w1 (some C.b) := grown_trans (gw2 ‹_›) hg
  have bl0_1 : BL w1 w.heap.size (nd0) := BL.grown (bw0 (by omega)) hg (by omega)
  clear hg
  have nf1 : ¬ w.heap.size = C.b := by omega
  go_wp2_with fail
  refine (sign_any C ok k h _ ‹_›).mono ?_
  rintro e w2 ⟨rfl, hgq⟩
  have p2 := PS.quiet (C := C) (k := k) (h := h) ‹_› hgq
  have hg := grown_any (r := some C.b) hgq
  clear hgq
  have G2 : w.grownBy w2 (some C.b) := grown_trans ‹_› hg
  have bl0_2 : BL w2 w.heap.size (nd0) := BL.grown ‹_› hg (by omega)
  have hl0_2 := bl0_2.lt
  clear bl0_1
  clear p1
  clear hg
  go_wp2_with fail
  refine (ih.at.callStmt 32 h k _ ‹_› (unhide h6) (fun hx => unhide HO ((unhide HR).symm.trans (by simp only [fStmt, ub, eq_false svar, eq_false sbrace, eq_false sif, eq_false sfor, eq_false sswitch, eq_false sselect, eq_false sbreak, eq_false scontinue, eq_false sfallthrough, eq_false sreturn, eq_false sgo, eq_true sdefer, h3n sfor sswitch sselect, hx])))).mono ?_
  rintro e w3 hp
  rcases hp with ⟨kd3, tx3, nm3, ps3, kids3, s3, k3, ao3, cp3, hq, rfl, hrow, p3, hg⟩ | ⟨pb, rule, hq, rfl, hg⟩
  rotate_left
  (exact ⟨rfl, npost_bad (by rw [← unhide HR]; simp only [fStmt, ub, eq_false svar, eq_false sbrace, eq_false sif, eq_false sfor, eq_false sswitch, eq_false sselect, eq_false sbreak, eq_false scontinue, eq_false sfallthrough, eq_false sreturn, eq_false sgo, eq_true sdefer, h3n sfor sswitch sselect, hq]) (grown_trans ‹_› hg)⟩)
  have G3 : w.grownBy w3 (some C.b) := grown_trans ‹_› hg
  have bl0_3 : BL w3 w.heap.size (nd0) := BL.grown ‹_› hg (by omega)
  have zc0_3 := bl0_3.cell
  have fz0_3 := bl0_3.frozen
  clear bl0_2
  clear p2
  obtain ⟨lo3, hlo3, row3⟩ := hrow.named
  (try simp at hlo3)
  have HQ3 := hide hq
  clear hrow hq
  clear hg
  go_wp2
  refine bodyPost_ret (v := .agg #[.int .i64 kd3, .string ⟨tx3.toArray⟩, .int .i64 nm3, .int .i64 ps3, .string ⟨#[]⟩, .int .i64 0, .slice ao3 kids3.length cp3]) (by simp [results, Tryz.results84, go_sem, *]) rfl (npost_ok (hi := w3.heap.size) (s := s3) (k' := k3) (tx := tx3) (kids := kids3) (by rw [← unhide HR]; simp only [fStmt, ub, eq_false svar, eq_false sbrace, eq_false sif, eq_false sfor, eq_false sswitch, eq_false sselect, eq_false sbreak, eq_false scontinue, eq_false sfallthrough, eq_false sreturn, eq_false sgo, eq_true sdefer, h3n sfor sswitch sselect, unhide HQ3]) (row3.ag (aw7 aw0 (by first | omega | (simp <;> omega))) (by omega) (Nat.le_refl _)) (by simp <;> omega) ?_ ?_)
  ·exact pw7 ‹_› ok (by first | omega | (simp <;> omega))
  ·exact gw7 ‹_› (by first | omega | (simp <;> omega))
 have bsvar : (sign C.ts k == [118, 97, 114]) = false := beq_eq_false_iff_ne.2 svar
 have bsbrace : (sign C.ts k == [123]) = false := beq_eq_false_iff_ne.2 sbrace
 have bsif : (sign C.ts k == [105, 102]) = false := beq_eq_false_iff_ne.2 sif
 have bsfor : (sign C.ts k == [102, 111, 114]) = false := beq_eq_false_iff_ne.2 sfor
 have bsswitch : (sign C.ts k == [115, 119, 105, 116, 99, 104]) = false := beq_eq_false_iff_ne.2 sswitch
 have bsselect : (sign C.ts k == [115, 101, 108, 101, 99, 116]) = false := beq_eq_false_iff_ne.2 sselect
 have bsbreak : (sign C.ts k == [98, 114, 101, 97, 107]) = false := beq_eq_false_iff_ne.2 sbreak
 have bscontinue : (sign C.ts k == [99, 111, 110, 116, 105, 110, 117, 101]) = false := beq_eq_false_iff_ne.2 scontinue
 have bsfallthrough : (sign C.ts k == [102, 97, 108, 108, 116, 104, 114, 111, 117, 103, 104]) = false := beq_eq_false_iff_ne.2 sfallthrough
 have bsreturn : (sign C.ts k == [114, 101, 116, 117, 114, 110]) = false := beq_eq_false_iff_ne.2 sreturn
 have bsgo : (sign C.ts k == [103, 111]) = false := beq_eq_false_iff_ne.2 sgo
 have bsdefer : (sign C.ts k == [100, 101, 102, 101, 114]) = false := beq_eq_false_iff_ne.2 sdefer
 go_enter Tryz.func84, Tryz.ntmps84
 go_wp2_with fail
 refine (token_any C ok k h _ (pw2 ‹_›)).mono ?_
 rintro e w1 ⟨rfl, hgq⟩
 have p1 := PS.quiet (C := C) (k := k) (h := h) (pw2 ‹_›) hgq
 have hg := grown_any (r := some C.b) hgq
 clear hgq
 have G1 : w.grownBy w1 (some C.b) := grown_trans (gw2 ‹_›) hg
 have bl0_1 : BL w1 w.heap.size (nd0) := BL.grown (bw0 (by omega)) hg (by omega)
 clear hg
 have nf1 : ¬ w.heap.size = C.b := by omega
 go_wp2_with fail
 refine (sign_any C ok k h _ ‹_›).mono ?_
 rintro e w2 ⟨rfl, hgq⟩
 have p2 := PS.quiet (C := C) (k := k) (h := h) ‹_› hgq
 have hg := grown_any (r := some C.b) hgq
 clear hgq
 have G2 : w.grownBy w2 (some C.b) := grown_trans ‹_› hg
 have bl0_2 : BL w2 w.heap.size (nd0) := BL.grown ‹_› hg (by omega)
 clear bl0_1
 clear p1
 clear hg
 by_cases cl : labels C.ts k = true
 rotate_left
 ·skip
  go_wp2_with fail
  refine (labels_any C ok k h _ ‹_›).mono ?_
  rintro e w3 ⟨rfl, hgq⟩
  have p3 := PS.quiet (C := C) (k := k) (h := h) ‹_› hgq
  have hg := grown_any (r := some C.b) hgq
  clear hgq
  have G3 : w.grownBy w3 (some C.b) := grown_trans ‹_› hg
  have bl0_3 : BL w3 w.heap.size (nd0) := BL.grown ‹_› hg (by omega)
  have hl0_3 := bl0_3.lt
  clear bl0_2
  clear p2
  clear hg
  go_wp2_with fail
  refine (ih.at.simple h k _ ‹_› (fun hx => unhide HO ((unhide HR).symm.trans (by simp only [fStmt, ub, eq_false svar, eq_false sbrace, eq_false sif, eq_false sfor, eq_false sswitch, eq_false sselect, eq_false sbreak, eq_false scontinue, eq_false sfallthrough, eq_false sreturn, eq_false sgo, eq_false sdefer, h3n sfor sswitch sselect, eq_false cl, hx])))).mono ?_
  rintro e w4 hp
  rcases hp with ⟨kd4, tx4, nm4, ps4, kids4, s4, k4, ao4, cp4, hq, rfl, hrow, p4, hg⟩ | ⟨pb, rule, hq, rfl, hg⟩
  rotate_left
  (exact ⟨rfl, npost_bad (by rw [← unhide HR]; simp only [fStmt, ub, eq_false svar, eq_false sbrace, eq_false sif, eq_false sfor, eq_false sswitch, eq_false sselect, eq_false sbreak, eq_false scontinue, eq_false sfallthrough, eq_false sreturn, eq_false sgo, eq_false sdefer, h3n sfor sswitch sselect, eq_false cl, hq]) (grown_trans ‹_› hg)⟩)
  have G4 : w.grownBy w4 (some C.b) := grown_trans ‹_› hg
  have bl0_4 : BL w4 w.heap.size (nd0) := BL.grown ‹_› hg (by omega)
  have zc0_4 := bl0_4.cell
  have fz0_4 := bl0_4.frozen
  clear bl0_3
  clear p3
  obtain ⟨lo4, hlo4, row4⟩ := hrow.named
  (try simp at hlo4)
  have HQ4 := hide hq
  clear hrow hq
  clear hg
  go_wp2
  refine bodyPost_ret (v := .agg #[.int .i64 kd4, .string ⟨tx4.toArray⟩, .int .i64 nm4, .int .i64 ps4, .string ⟨#[]⟩, .int .i64 0, .slice ao4 kids4.length cp4]) (by simp [results, Tryz.results84, go_sem, *]) rfl (npost_ok (hi := w4.heap.size) (s := s4) (k' := k4) (tx := tx4) (kids := kids4) (by rw [← unhide HR]; simp only [fStmt, ub, eq_false svar, eq_false sbrace, eq_false sif, eq_false sfor, eq_false sswitch, eq_false sselect, eq_false sbreak, eq_false scontinue, eq_false sfallthrough, eq_false sreturn, eq_false sgo, eq_false sdefer, h3n sfor sswitch sselect, eq_false cl, unhide HQ4]) (row4.ag (aw7 aw0 (by first | omega | (simp <;> omega))) (by omega) (Nat.le_refl _)) (by simp <;> omega) ?_ ?_)
  ·exact pw7 ‹_› ok (by first | omega | (simp <;> omega))
  ·exact gw7 ‹_› (by first | omega | (simp <;> omega))
 go_wp2_with fail
 refine (labels_any C ok k h _ ‹_›).mono ?_
 rintro e w3 ⟨rfl, hgq⟩
 have p3 := PS.quiet (C := C) (k := k) (h := h) ‹_› hgq
 have hg := grown_any (r := some C.b) hgq
 clear hgq
 have G3 : w.grownBy w3 (some C.b) := grown_trans ‹_› hg
 have bl0_3 : BL w3 w.heap.size (nd0) := BL.grown ‹_› hg (by omega)
 have hl0_3 := bl0_3.lt
 clear bl0_2
 clear p2
 clear hg
 have h7 : Hid ((tok C.ts k).kind ≠ 6) := by have h8 := cl; unfold labels at h8; show (tok C.ts k).kind ≠ 6; intro h9; simp [h9] at h8
 go_wp2_with fail
 refine (ih.at.labelled h k _ ‹_› (unhide h7) (fun hx => unhide HO ((unhide HR).symm.trans (by simp only [fStmt, ub, eq_false svar, eq_false sbrace, eq_false sif, eq_false sfor, eq_false sswitch, eq_false sselect, eq_false sbreak, eq_false scontinue, eq_false sfallthrough, eq_false sreturn, eq_false sgo, eq_false sdefer, h3n sfor sswitch sselect, eq_true cl, hx])))).mono ?_
 rintro e w4 hp
 rcases hp with ⟨kd4, tx4, nm4, ps4, kids4, s4, k4, ao4, cp4, hq, rfl, hrow, p4, hg⟩ | ⟨pb, rule, hq, rfl, hg⟩
 rotate_left
 (exact ⟨rfl, npost_bad (by rw [← unhide HR]; simp only [fStmt, ub, eq_false svar, eq_false sbrace, eq_false sif, eq_false sfor, eq_false sswitch, eq_false sselect, eq_false sbreak, eq_false scontinue, eq_false sfallthrough, eq_false sreturn, eq_false sgo, eq_false sdefer, h3n sfor sswitch sselect, eq_true cl, hq]) (grown_trans ‹_› hg)⟩)
 have G4 : w.grownBy w4 (some C.b) := grown_trans ‹_› hg
 have bl0_4 : BL w4 w.heap.size (nd0) := BL.grown ‹_› hg (by omega)
 have zc0_4 := bl0_4.cell
 have fz0_4 := bl0_4.frozen
 clear bl0_3
 clear p3
 obtain ⟨lo4, hlo4, row4⟩ := hrow.named
 (try simp at hlo4)
 have HQ4 := hide hq
 clear hrow hq
 clear hg
 go_wp2
 refine bodyPost_ret (v := .agg #[.int .i64 kd4, .string ⟨tx4.toArray⟩, .int .i64 nm4, .int .i64 ps4, .string ⟨#[]⟩, .int .i64 0, .slice ao4 kids4.length cp4]) (by simp [results, Tryz.results84, go_sem, *]) rfl (npost_ok (hi := w4.heap.size) (s := s4) (k' := k4) (tx := tx4) (kids := kids4) (by rw [← unhide HR]; simp only [fStmt, ub, eq_false svar, eq_false sbrace, eq_false sif, eq_false sfor, eq_false sswitch, eq_false sselect, eq_false sbreak, eq_false scontinue, eq_false sfallthrough, eq_false sreturn, eq_false sgo, eq_false sdefer, h3n sfor sswitch sselect, eq_true cl, unhide HQ4]) (row4.ag (aw7 aw0 (by first | omega | (simp <;> omega))) (by omega) (Nat.le_refl _)) (by simp <;> omega) ?_ ?_)
 ·exact pw7 ‹_› ok (by first | omega | (simp <;> omega))
 ·exact gw7 ‹_› (by first | omega | (simp <;> omega))
set_option maxHeartbeats 800000 in
theorem labelled_w (C : Ctx) (ok : C.Ok) (n : Nat) (ih : All C n) : CNt C 92 .labelled #[.pointer (some ⟨C.b, 0, none⟩)] (n + 1) := by
 intro h k w p h6 hout
 have hr : run C.ts (n + 1) .labelled h k = fLabelled C.ts (run C.ts n) h k := rfl
 rw [hr] at hout ⊢
 clear hr
 generalize hR : fLabelled C.ts (run C.ts n) h k = r0 at hout ⊢
 have H6 := hide h6
 clear h6
 have hbl := p.lt
 have G0 := grown_refl w (some C.b)
 have HR := hide hR
 clear hR
 have HO := hide hout
 clear hout
 go_enter Tryz.func92, Tryz.ntmps92
 go_wp2_with fail
 refine (take_any C ok k h _ (pw2 ‹_›) (unhide H6)).mono ?_
 rintro e w1 ⟨rfl, p1, hg⟩
 have hz1 := hg.size
 (try simp at hz1)
 have G1 : w.grownBy w1 (some C.b) := grown_trans (gw2 ‹_›) hg
 have bl0_1 : BL w1 w.heap.size (nd0) := BL.grown (bw0 (by omega)) hg (by omega)
 clear hg
 have ⟨nf1, nf2, ne3⟩ : ¬ w.heap.size = C.b ∧ ¬ w1.heap.size = C.b ∧ ¬ w.heap.size = w1.heap.size := by omega
 by_cases c1 : isS C.ts (k + 1) [[58]] = true
 rotate_left
 ·skip
  go_wp2_with fail
  refine (want_no C ok (k + 1) h _ ⟨#[108, 97, 98, 101, 108]⟩ [58] (pw2 ‹_›) (Bool.eq_false_iff.2 c1)).mono ?_
  rintro e w2 ⟨rfl, hgq⟩
  exact ⟨rfl, npost_bad (by rw [← unhide HR]; simp only [fLabelled, ub, eq_false c1]) (grown_trans (gw2 ‹_›) (grown_any hgq))⟩
 go_wp2_with fail
 refine (want_yes C ok (k + 1) h _ ⟨#[108, 97, 98, 101, 108]⟩ [58] (pw2 ‹_›) c1).mono ?_
 rintro e w2 ⟨rfl, p2, hg⟩
 have G2 : w.grownBy w2 (some C.b) := grown_trans (gw2 ‹_›) hg
 have bl0_2 : BL w2 w.heap.size (nd0) := BL.grown (bw2 ‹_›) hg (by omega)
 have hl0_2 := bl0_2.lt
 have bl1_2 : BL w2 w1.heap.size (.cells #[.int .i64 (tok C.ts k).kind, .string ⟨(tok C.ts k).text.toArray⟩, .int .i64 (tok C.ts k).num, .int .i64 (tok C.ts k).pos] 36) := BL.grown (bw0 (by omega)) hg (by omega)
 have zc1_2 := bl1_2.cell
 clear bl0_1
 clear p1
 clear hg
 go_wp2
 go_region_held2 (fun w' => w'.cell? ⟨w1.heap.size, 1, none⟩ = some (.string ⟨(tok C.ts k).text.toArray⟩) ∧ w'.cell? ⟨w1.heap.size, 3, none⟩ = some (.int .i64 (tok C.ts k).pos)) (go_keep) (first | (go_at_call 87; (refine (ih.at.breakable h (k + 1 + 1) _ (pw1 ‹_›) (fun hx => unhide HO ((unhide HR).symm.trans (by simp only [fLabelled, ub, eq_true c1, hx])))).mono ?_; rintro e w3 hp; rcases hp with ⟨kd3, tx3, nm3, ps3, kids3, s3, k3, ao3, cp3, hq, rfl, hrow, p3, hg⟩ | ⟨pb, rule, hq, rfl, hg⟩; rotate_left; (exact ⟨rfl, npost_bad (by rw [← unhide HR]; simp only [fLabelled, ub, eq_true c1, hq]) (grown_trans (gw1 ‹_›) hg)⟩); have hz3 := hg.size; (try simp at hz3); have G3 : w.grownBy w3 (some C.b) := grown_trans (gw1 ‹_›) hg; have bl0_3 : BL w3 w.heap.size (nd0) := BL.grown (bw1 ‹_›) hg (by omega); have hl0_3 := bl0_3.lt; have zc0_3 := bl0_3.cell; have fz0_3 := bl0_3.frozen; have bl1_3 : BL w3 w1.heap.size (.cells #[.int .i64 (tok C.ts k).kind, .string ⟨(tok C.ts k).text.toArray⟩, .int .i64 (tok C.ts k).num, .int .i64 (tok C.ts k).pos] 36) := BL.grown (bw1 ‹_›) hg (by omega); have hl1_3 := bl1_3.lt; have zc1_3 := bl1_3.cell; have fz1_3 := bl1_3.frozen; clear bl0_2; clear bl1_2 zc1_2; clear p2; obtain ⟨lo3, hlo3, row3⟩ := hrow.named; (try simp at hlo3); have HQ3 := hide hq; clear hrow hq; clear hg; have ne7 : ¬ C.b = w3.heap.size := (by omega); have nf7 : ¬ w3.heap.size = C.b := (by omega); have ne8 : ¬ w.heap.size = w3.heap.size := (by omega); have nf8 : ¬ w3.heap.size = w.heap.size := (by omega); have ne9 : ¬ w1.heap.size = w3.heap.size := (by omega); have nf9 : ¬ w3.heap.size = w1.heap.size := (by omega))))
 go_wp2
 refine bodyPost_ret (v := .agg #[.int .i64 35, .string ⟨(tok C.ts k).text.toArray⟩, .int .i64 0, .int .i64 (tok C.ts k).pos, .string ⟨#[]⟩, .int .i64 0, .slice (some ⟨w3.heap.size, 0, none⟩) 1 1]) (by simp [results, Tryz.results92, go_sem, *]) rfl (npost_ok (hi := w3.heap.size + 1) (s := 0) (k' := k3) (tx := (tok C.ts k).text) (kids := [.mk kd3 tx3 nm3 ps3 kids3]) (by rw [← unhide HR]; simp only [fLabelled, ub, eq_true c1, unhide HQ3]) (rowB (cur := #[.int .i64 kd3, .string ⟨tx3.toArray⟩, .int .i64 nm3, .int .i64 ps3, .string ⟨#[]⟩, .int .i64 0, .slice ao3 kids3.length cp3]) (bw0 (by simp <;> omega)) ((Nd.mk (kd := kd3) (tx := tx3) (nm := nm3) (ps := ps3) row3).ag (aw2 (aw7 aw0 (by first | omega | (simp <;> omega))) (by simp <;> omega))) rfl (by omega) (by omega) (by omega) (by omega) (.inr (by omega))) (by simp <;> omega) ?_ ?_)
 ·exact pw2 (pw7 ‹_› ok (by first | omega | (simp <;> omega)))
 ·exact gw2 (gw7 ‹_› (by first | omega | (simp <;> omega)))
set_option maxHeartbeats 800000 in
theorem initial_w (C : Ctx) (ok : C.Ok) (n : Nat) (ih : All C n) : CN C 124 .initial #[.pointer (some ⟨C.b, 0, none⟩)] (n + 1) := by
 intro h k w p hout
 have hr : run C.ts (n + 1) .initial h k = fInitial C.ts (run C.ts n) h k := rfl
 rw [hr] at hout ⊢
 clear hr
 generalize hR : fInitial C.ts (run C.ts n) h k = r0 at hout ⊢
 have hbl := p.lt
 have G0 := grown_refl w (some C.b)
 have HR := hide hR
 clear hR
 have HO := hide hout
 clear hout
 go_enter Tryz.func124, Tryz.ntmps124
 by_cases n1 : (tok C.ts k).kind = 1
 rotate_left
 ·skip
  go_wp2_with fail
  refine (name_no C ok k h _ ⟨#[105, 110, 105, 116]⟩ (pw2 ‹_›) n1).mono ?_
  rintro e w1 ⟨rfl, hgq⟩
  exact ⟨rfl, npost_bad (by rw [← unhide HR]; simp only [fInitial, ub, eq_false n1]) (grown_trans (gw2 ‹_›) (grown_any hgq))⟩
 have Hn1 := hide n1
 clear n1
 go_wp2_with fail
 refine (name_yes C ok k h _ ⟨#[105, 110, 105, 116]⟩ (pw2 ‹_›) (unhide Hn1)).mono ?_
 rintro e w1 ⟨rfl, p1, hg⟩
 have hz1 := hg.size
 (try simp at hz1)
 have G1 : w.grownBy w1 (some C.b) := grown_trans (gw2 ‹_›) hg
 have bl0_1 : BL w1 w.heap.size (nd0) := BL.grown (bw0 (by omega)) hg (by omega)
 clear hg
 have ⟨nf1, nf2, ne3⟩ : ¬ w.heap.size = C.b ∧ ¬ w1.heap.size = C.b ∧ ¬ w.heap.size = w1.heap.size := by omega
 by_cases c1 : isS C.ts (k + 1) [[58]] = true
 rotate_left
 ·skip
  go_wp2_with fail
  refine (want_no C ok (k + 1) h _ ⟨#[105, 110, 105, 116]⟩ [58] (pw2 ‹_›) (Bool.eq_false_iff.2 c1)).mono ?_
  rintro e w2 ⟨rfl, hgq⟩
  exact ⟨rfl, npost_bad (by rw [← unhide HR]; simp only [fInitial, ub, eq_true (unhide Hn1), eq_false c1]) (grown_trans (gw2 ‹_›) (grown_any hgq))⟩
 go_wp2_with fail
 refine (want_yes C ok (k + 1) h _ ⟨#[105, 110, 105, 116]⟩ [58] (pw2 ‹_›) c1).mono ?_
 rintro e w2 ⟨rfl, p2, hg⟩
 have G2 : w.grownBy w2 (some C.b) := grown_trans (gw2 ‹_›) hg
 have bl0_2 : BL w2 w.heap.size (nd0) := BL.grown (bw2 ‹_›) hg (by omega)
 have hl0_2 := bl0_2.lt
 have bl1_2 : BL w2 w1.heap.size (.cells #[.int .i64 (tok C.ts k).kind, .string ⟨(tok C.ts k).text.toArray⟩, .int .i64 (tok C.ts k).num, .int .i64 (tok C.ts k).pos] 36) := BL.grown (bw0 (by omega)) hg (by omega)
 have zc1_2 := bl1_2.cell
 clear bl0_1
 clear p1
 clear hg
 go_wp2
 go_region_held2 (fun w' => w'.cell? ⟨w1.heap.size, 1, none⟩ = some (.string ⟨(tok C.ts k).text.toArray⟩) ∧ w'.cell? ⟨w1.heap.size, 3, none⟩ = some (.int .i64 (tok C.ts k).pos)) (go_keep) (first | (go_at_call 94; (refine (ih.at.expr h (k + 1 + 1) _ (pw1 ‹_›) (fun hx => unhide HO ((unhide HR).symm.trans (by simp only [fInitial, ub, eq_true (unhide Hn1), eq_true c1, hx])))).mono ?_; rintro e w3 hp; rcases hp with ⟨kd3, tx3, nm3, ps3, kids3, s3, k3, ao3, cp3, hq, rfl, hrow, p3, hg⟩ | ⟨pb, rule, hq, rfl, hg⟩; rotate_left; (exact ⟨rfl, npost_bad (by rw [← unhide HR]; simp only [fInitial, ub, eq_true (unhide Hn1), eq_true c1, hq]) (grown_trans (gw1 ‹_›) hg)⟩); have hz3 := hg.size; (try simp at hz3); have G3 : w.grownBy w3 (some C.b) := grown_trans (gw1 ‹_›) hg; have bl0_3 : BL w3 w.heap.size (nd0) := BL.grown (bw1 ‹_›) hg (by omega); have hl0_3 := bl0_3.lt; have zc0_3 := bl0_3.cell; have fz0_3 := bl0_3.frozen; have bl1_3 : BL w3 w1.heap.size (.cells #[.int .i64 (tok C.ts k).kind, .string ⟨(tok C.ts k).text.toArray⟩, .int .i64 (tok C.ts k).num, .int .i64 (tok C.ts k).pos] 36) := BL.grown (bw1 ‹_›) hg (by omega); have hl1_3 := bl1_3.lt; have zc1_3 := bl1_3.cell; have fz1_3 := bl1_3.frozen; clear bl0_2; clear bl1_2 zc1_2; clear p2; obtain ⟨lo3, hlo3, row3⟩ := hrow.named; (try simp at hlo3); have HQ3 := hide hq; clear hrow hq; clear hg; have ne7 : ¬ C.b = w3.heap.size := (by omega); have nf7 : ¬ w3.heap.size = C.b := (by omega); have ne8 : ¬ w.heap.size = w3.heap.size := (by omega); have nf8 : ¬ w3.heap.size = w.heap.size := (by omega); have ne9 : ¬ w1.heap.size = w3.heap.size := (by omega); have nf9 : ¬ w3.heap.size = w1.heap.size := (by omega))))
 go_wp2
 refine bodyPost_ret (v := .agg #[.int .i64 5, .string ⟨(tok C.ts k).text.toArray⟩, .int .i64 0, .int .i64 (tok C.ts k).pos, .string ⟨#[]⟩, .int .i64 0, .slice (some ⟨w3.heap.size, 0, none⟩) 1 1]) (by simp [results, Tryz.results124, go_sem, *]) rfl (npost_ok (hi := w3.heap.size + 1) (s := 0) (k' := k3) (tx := (tok C.ts k).text) (kids := [.mk kd3 tx3 nm3 ps3 kids3]) (by rw [← unhide HR]; simp only [fInitial, ub, eq_true (unhide Hn1), eq_true c1, unhide HQ3]) (rowB (cur := #[.int .i64 kd3, .string ⟨tx3.toArray⟩, .int .i64 nm3, .int .i64 ps3, .string ⟨#[]⟩, .int .i64 0, .slice ao3 kids3.length cp3]) (bw0 (by simp <;> omega)) ((Nd.mk (kd := kd3) (tx := tx3) (nm := nm3) (ps := ps3) row3).ag (aw2 (aw7 aw0 (by first | omega | (simp <;> omega))) (by simp <;> omega))) rfl (by omega) (by omega) (by omega) (by omega) (.inr (by omega))) (by simp <;> omega) ?_ ?_)
 ·exact pw2 (pw7 ‹_› ok (by first | omega | (simp <;> omega)))
 ·exact gw2 (gw7 ‹_› (by first | omega | (simp <;> omega)))
set_option maxHeartbeats 800000 in
theorem newArgs_w (C : Ctx) (ok : C.Ok) (n : Nat) (ih : All C n) : CL C 122 .newArgs #[.pointer (some ⟨C.b, 0, none⟩)] (n + 1) := by
 intro h k w p hout
 have hr : run C.ts (n + 1) .newArgs h k = fNewArgs C.ts h k := rfl
 rw [hr] at hout ⊢
 clear hr
 generalize hR : fNewArgs C.ts h k = r0 at hout ⊢
 have hbl := p.lt
 have G0 := grown_refl w (some C.b)
 have HR := hide hR
 clear hR
 clear hout
 go_enter Tryz.func122, Tryz.ntmps122
 by_cases n1 : (tok C.ts k).kind = 1
 rotate_left
 ·skip
  go_wp2_with fail
  refine (name_no C ok k h _ ⟨#[110, 101, 119]⟩ ‹_› n1).mono ?_
  rintro e w1 ⟨rfl, hgq⟩
  exact ⟨rfl, lpost_bad (by rw [← unhide HR]; simp only [fNewArgs, ub, eq_false n1]) (grown_trans ‹_› (grown_any hgq))⟩
 have Hn1 := hide n1
 clear n1
 go_wp2_with fail
 refine (name_yes C ok k h _ ⟨#[110, 101, 119]⟩ ‹_› (unhide Hn1)).mono ?_
 rintro e w1 ⟨rfl, p1, hg⟩
 have hz1 := hg.size
 (try simp at hz1)
 have G1 : w.grownBy w1 (some C.b) := grown_trans ‹_› hg
 clear hg
 have nf1 : ¬ w1.heap.size = C.b := by omega
 by_cases c1 : isS C.ts (k + 1) [[41]] = true
 rotate_left
 ·skip
  go_wp2_with fail
  refine (want_no C ok (k + 1) h _ ⟨#[110, 101, 119]⟩ [41] (pw2 ‹_›) (Bool.eq_false_iff.2 c1)).mono ?_
  rintro e w2 ⟨rfl, hgq⟩
  exact ⟨rfl, lpost_bad (by rw [← unhide HR]; simp only [fNewArgs, ub, eq_true (unhide Hn1), eq_false c1]) (grown_trans (gw2 ‹_›) (grown_any hgq))⟩
 go_wp2_with fail
 refine (want_yes C ok (k + 1) h _ ⟨#[110, 101, 119]⟩ [41] (pw2 ‹_›) c1).mono ?_
 rintro e w2 ⟨rfl, p2, hg⟩
 have hz2 := hg.size
 (try simp at hz2)
 have G2 : w.grownBy w2 (some C.b) := grown_trans (gw2 ‹_›) hg
 have bl0_2 : BL w2 w1.heap.size (.cells #[.int .i64 (tok C.ts k).kind, .string ⟨(tok C.ts k).text.toArray⟩, .int .i64 (tok C.ts k).num, .int .i64 (tok C.ts k).pos] 36) := BL.grown (bw0 (by omega)) hg (by omega)
 have zc0_2 := bl0_2.cell
 clear p1
 clear hg
 go_wp2
 go_ret
 refine lpost_ok (hi := w2.heap.size + 1) (s := 0) (k' := k + 1 + 1) (l := [.mk 12 (tok C.ts k).text 0 (tok C.ts k).pos []]) (by rw [← unhide HR]; simp only [fNewArgs, ub, eq_true (unhide Hn1), eq_true c1]) (rowB (cur := #[.int .i64 12, .string ⟨(tok C.ts k).text.toArray⟩, .int .i64 0, .int .i64 (tok C.ts k).pos, .string ⟨#[]⟩, .int .i64 0, .slice none 0 0]) (bw0 (by omega)) (Nd.mk (kd := 12) (tx := (tok C.ts k).text) (nm := 0) (ps := (tok C.ts k).pos) (RowI.nil _ w.heap.size w.heap.size)) rfl (by omega) (by omega) (by omega) (by omega) (.inr (by omega))) (by simp <;> omega) ?_ ?_
 ·exact pw2 ‹_›
 ·exact gw2 ‹_›
set_option maxHeartbeats 800000 in
theorem makeArgs_w (C : Ctx) (ok : C.Ok) (n : Nat) (ih : All C n) : CL C 121 .makeArgs #[.pointer (some ⟨C.b, 0, none⟩)] (n + 1) := by
 intro h k w p hout
 have hr : run C.ts (n + 1) .makeArgs h k = fMakeArgs C.ts (run C.ts n) h k := rfl
 rw [hr] at hout ⊢
 clear hr
 generalize hR : fMakeArgs C.ts (run C.ts n) h k = r0 at hout ⊢
 have hbl := p.lt
 have G0 := grown_refl w (some C.b)
 have HR := hide hR
 clear hR
 have HO := hide hout
 clear hout
 go_enter Tryz.func121, Tryz.ntmps121
 go_wp2_with fail
 refine (ih.at.wtype h k _ ‹_› (fun hx => unhide HO ((unhide HR).symm.trans (by simp only [fMakeArgs, ub, hx])))).mono ?_
 rintro e w1 hp
 rcases hp with ⟨kd1, tx1, nm1, ps1, kids1, s1, k1, ao1, cp1, hq, rfl, hrow, p1, hg⟩ | ⟨pb, rule, hq, rfl, hg⟩
 rotate_left
 (exact ⟨rfl, lpost_bad (by rw [← unhide HR]; simp only [fMakeArgs, ub, hq]) (grown_trans ‹_› hg)⟩)
 have hz1 := hg.size
 (try simp at hz1)
 have G1 : w.grownBy w1 (some C.b) := grown_trans ‹_› hg
 obtain ⟨lo1, hlo1, row1⟩ := hrow.named
 (try simp at hlo1)
 have HQ1 := hide hq
 clear hrow hq
 clear hg
 have nf1 : ¬ w1.heap.size = C.b := by omega
 by_cases c2 : isS C.ts k1 [[44]] = true
 rotate_left
 ·skip
  go_wp2_with fail
  refine (skip_no C ok k1 h _ [44] (pw2 ‹_›) (Bool.eq_false_iff.2 c2)).mono ?_
  rintro e w2 ⟨rfl, hgq⟩
  have p2 := PS.quiet (C := C) (k := k1) (h := h) (pw2 ‹_›) hgq
  have hg := grown_any (r := some C.b) hgq
  clear hgq
  have hz2 := hg.size
  (try simp at hz2)
  have G2 : w.grownBy w2 (some C.b) := grown_trans (gw2 ‹_›) hg
  replace row1 := RowI.ag row1 (Ag.grown (aw2 aw0 (by simp <;> omega)) hg (by simp <;> omega) (by omega)) (Nat.le_refl _) (Nat.le_refl _)
  have bl0_2 : BL w2 w1.heap.size (nqC kd1 ⟨tx1.toArray⟩ nm1 ps1 ao1 kids1.length cp1) := BL.grown (bw0 (by omega)) hg (by omega)
  clear p1
  clear hg
  by_cases c3 : isS C.ts k1 [[41]] = true
  rotate_left
  ·skip
   go_wp2_with fail
   refine (want_no C ok k1 h _ ⟨#[109, 97, 107, 101]⟩ [41] ‹_› (Bool.eq_false_iff.2 c3)).mono ?_
   rintro e w3 ⟨rfl, hgq⟩
   exact ⟨rfl, lpost_bad (by rw [← unhide HR]; simp only [fMakeArgs, ub, unhide HQ1, eq_false c2, eq_false c3]) (grown_trans ‹_› (grown_any hgq))⟩
  go_wp2_with fail
  refine (want_yes C ok k1 h _ ⟨#[109, 97, 107, 101]⟩ [41] ‹_› c3).mono ?_
  rintro e w3 ⟨rfl, p3, hg⟩
  have G3 : w.grownBy w3 (some C.b) := grown_trans ‹_› hg
  replace row1 := RowI.ag row1 (Ag.grown aw0 hg (by omega) (by omega)) (Nat.le_refl _) (Nat.le_refl _)
  have bl0_3 : BL w3 w1.heap.size (nqC kd1 ⟨tx1.toArray⟩ nm1 ps1 ao1 kids1.length cp1) := BL.grown ‹_› hg (by omega)
  have hl0_3 := bl0_3.lt
  clear bl0_2
  clear p2
  clear hg
  go_wp2
  go_ret
  refine lpost_ok (hi := w1.heap.size + 1) (s := 0) (k' := k1 + 1) (l := [.mk kd1 tx1 nm1 ps1 kids1]) (by rw [← unhide HR]; simp only [fMakeArgs, ub, unhide HQ1, eq_false c2, eq_true c3]) (rowB (cur := #[.int .i64 kd1, .string ⟨tx1.toArray⟩, .int .i64 nm1, .int .i64 ps1, .string ⟨#[]⟩, .int .i64 0, .slice ao1 kids1.length cp1]) ‹_› ((Nd.mk (kd := kd1) (tx := tx1) (nm := nm1) (ps := ps1) row1).ag aw0) rfl (by omega) (by omega) (by omega) (by omega) (.inr (by omega))) (by omega) ?_ ?_
  ·assumption
  ·assumption
 go_wp2_with fail
 refine (skip_yes C ok k1 h _ [44] (pw2 ‹_›) c2).mono ?_
 rintro e w2 ⟨rfl, p2, hg⟩
 have hz2 := hg.size
 (try simp at hz2)
 have G2 : w.grownBy w2 (some C.b) := grown_trans (gw2 ‹_›) hg
 replace row1 := RowI.ag row1 (Ag.grown (aw2 aw0 (by simp <;> omega)) hg (by simp <;> omega) (by omega)) (Nat.le_refl _) (Nat.le_refl _)
 have bl0_2 : BL w2 w1.heap.size (nqC kd1 ⟨tx1.toArray⟩ nm1 ps1 ao1 kids1.length cp1) := BL.grown (bw0 (by omega)) hg (by omega)
 clear p1
 clear hg
 go_wp2_with fail
 refine (ih.at.expr h (k1 + 1) _ ‹_› (fun hx => unhide HO ((unhide HR).symm.trans (by simp only [fMakeArgs, ub, unhide HQ1, eq_true c2, hx])))).mono ?_
 rintro e w3 hp
 rcases hp with ⟨kd3, tx3, nm3, ps3, kids3, s3, k3, ao3, cp3, hq, rfl, hrow, p3, hg⟩ | ⟨pb, rule, hq, rfl, hg⟩
 rotate_left
 (exact ⟨rfl, lpost_bad (by rw [← unhide HR]; simp only [fMakeArgs, ub, unhide HQ1, eq_true c2, hq]) (grown_trans ‹_› hg)⟩)
 have G3 : w.grownBy w3 (some C.b) := grown_trans ‹_› hg
 replace row1 := RowI.ag row1 (Ag.grown aw0 hg (by omega) (by omega)) (Nat.le_refl _) (Nat.le_refl _)
 have bl0_3 : BL w3 w1.heap.size (nqC kd1 ⟨tx1.toArray⟩ nm1 ps1 ao1 kids1.length cp1) := BL.grown ‹_› hg (by omega)
 have hl0_3 := bl0_3.lt
 clear bl0_2
 clear p2
 obtain ⟨lo3, hlo3, row3⟩ := hrow.named
 (try simp at hlo3)
 have HQ3 := hide hq
 clear hrow hq
 clear hg
 have rowx : RowI w3 lo1 (w1.heap.size + 1) (.slice (some ⟨w1.heap.size, 0, none⟩) 1 1) [.mk kd1 tx1 nm1 ps1 kids1] := rowB (cur := #[.int .i64 kd1, .string ⟨tx1.toArray⟩, .int .i64 nm1, .int .i64 ps1, .string ⟨#[]⟩, .int .i64 0, .slice ao1 kids1.length cp1]) bl0_3 ((Nd.mk (kd := kd1) (tx := tx1) (nm := nm1) (ps := ps1) row1)) rfl (by omega) (by omega) (by omega) (by omega) (.inr (by omega))
 go_wp2_with (first | (at_builtin; (refine wpList_app rfl (.tmp 9) (.tmp 12) rfl (lo := lo1) (hi := w1.heap.size + 1) (ao := (some ⟨w1.heap.size, 0, none⟩)) (cp := 1) (l := [.mk kd1 tx1 nm1 ps1 kids1]) (t := .mk kd3 tx3 nm3 ps3 kids3) (A := lo3) (B := w3.heap.size) (g0 := w3.heap.size) (cur := #[.int .i64 kd3, .string ⟨tx3.toArray⟩, .int .i64 nm3, .int .i64 ps3, .string ⟨#[]⟩, .int .i64 0, .slice ao3 kids3.length cp3]) (by simp [Act.eval]) (RowI.ag rowx (aw2 aw0 (by omega)) (Nat.le_refl _) (Nat.le_refl _)) (by simp [Act.eval]) (bw0 (by omega)) ((Nd.mk (kd := kd3) (tx := tx3) (nm := nm3) (ps := ps3) row3).ag (aw2 aw0 (by simp <;> omega))) rfl one7 (by simp) (by simp <;> omega) (by simp <;> omega) (by omega) (by simp <;> omega) (by omega) ?_; intro g4 cp4 w4 hrw4 hgA hat4 hgl4; have hob := rowx.own; have hz4 := hgA.size; (try simp at hz4); (try simp at hat4); have G4 : w.grownBy w4 (some C.b) := grown_own (gw2 ‹_›) hgA (fun x hx => by have := hob x hx; omega); have p4 := PS.own (C := C) (k := k3) (h := h) (pw2 ‹_›) ok hgA (fun x hx => by have := hob x hx; omega); clear p3 hgA hob; have ne6 : ¬ C.b = w4.heap.size := (by omega); have nf6 : ¬ w4.heap.size = C.b := (by omega))))
 have row4 := hrw4 w4 (Nat.le_refl _) rfl (Ag.refl _ _ _) (Ag.refl _ _ _)
 clear hrw4
 by_cases c4 : isS C.ts k3 [[41]] = true
 rotate_left
 ·skip
  go_wp2_with fail
  refine (want_no C ok k3 h _ ⟨#[109, 97, 107, 101]⟩ [41] ‹_› (Bool.eq_false_iff.2 c4)).mono ?_
  rintro e w5 ⟨rfl, hgq⟩
  exact ⟨rfl, lpost_bad (by rw [← unhide HR]; simp only [fMakeArgs, ub, unhide HQ1, eq_true c2, unhide HQ3, eq_false c4]) (grown_trans ‹_› (grown_any hgq))⟩
 go_wp2_with fail
 refine (want_yes C ok k3 h _ ⟨#[109, 97, 107, 101]⟩ [41] ‹_› c4).mono ?_
 rintro e w5 ⟨rfl, p5, hg⟩
 have hz5 := hg.size
 (try simp at hz5)
 have G5 : w.grownBy w5 (some C.b) := grown_trans ‹_› hg
 replace row4 := RowI.ag row4 (Ag.grown aw0 hg (by omega) (by omega)) (Nat.le_refl _) (Nat.le_refl _)
 clear p4
 clear hg
 go_wp2
 go_ret
 refine lpost_ok (hi := w4.heap.size) (s := 0) (k' := k3 + 1) (l := [.mk kd1 tx1 nm1 ps1 kids1, .mk kd3 tx3 nm3 ps3 kids3]) (by rw [← unhide HR]; simp only [fMakeArgs, ub, unhide HQ1, eq_true c2, unhide HQ3, eq_true c4]) (row4.ag aw0 (by omega) (Nat.le_refl _)) (by omega) ?_ ?_
 ·assumption
 ·assumption
open Go.RowKit Lx Px
set_option maxHeartbeats 4000000 in
theorem function_w (C : Ctx) (ok : C.Ok) (n : Nat) (ih : All C n) : CL C 61 .function #[.pointer (some ⟨C.b, 0, none⟩)] (n + 1) := by
 intro h k w p hout
 have hr : run C.ts (n + 1) .function h k = fFunction C.ts (run C.ts n) h k := rfl
 rw [hr] at hout ⊢
 clear hr
 generalize hR : fFunction C.ts (run C.ts n) h k = r0 at hout ⊢
 have hbl := p.lt
 have htf3 := tokF3
 have G0 := grown_refl w (some C.b)
 have HR := hide hR
 clear hR
 have HO := hide hout
 clear hout
 go_enter Tryz.func61, Tryz.ntmps61
 by_cases c1 : isS C.ts k [[40]] = true
 rotate_left
 ·skip
  go_wp2_with fail
  refine (want_no C ok k h _ ⟨#[115, 105, 103, 110, 97, 116, 117, 114, 101]⟩ [40] (pw2 ‹_›) (Bool.eq_false_iff.2 c1)).mono ?_
  rintro e w1 ⟨rfl, hgq⟩
  exact ⟨rfl, lpost_bad (by rw [← unhide HR]; simp only [fFunction, ub, eq_false c1]) (grown_trans (gw2 ‹_›) (grown_any hgq))⟩
 go_wp2_with fail
 refine (want_yes C ok k h _ ⟨#[115, 105, 103, 110, 97, 116, 117, 114, 101]⟩ [40] (pw2 ‹_›) c1).mono ?_
 rintro e w1 ⟨rfl, p1, hg⟩
 have hz1 := hg.size
 (try simp at hz1)
 have G1 : w.grownBy w1 (some C.b) := grown_trans (gw2 ‹_›) hg
 have bl0_1 : BL w1 w.heap.size (.cells #[.pointer (some ⟨C.b, 0, none⟩)] 88) := BL.grown (bw0 (by omega)) hg (by omega)
 have hl0_1 := bl0_1.lt
 have zc0_1 := bl0_1.cell
 clear hg
 have ⟨nf1, nf2, nf3⟩ : ¬ w.heap.size = C.b ∧ ¬ w1.heap.size = C.b ∧ ¬ w1.heap.size = w.heap.size := by omega
 go_wp2_with fail
 refine (ih.at.listedN w.heap.size h (k + 1) _ (pw2 ‹_›) ⟨(bw2 ‹_›), (by omega)⟩ (fun hx => unhide HO ((unhide HR).symm.trans (by simp only [fFunction, ub, eq_true c1, hx])))).mono ?_
 rintro e w2 hp
 rcases hp with ⟨l2, s2, k2, ao2, cp2, hq, rfl, hrow, p2, hg⟩ | ⟨pb, rule, hq, rfl, hg⟩
 rotate_left
 (exact ⟨rfl, lpost_bad (by rw [← unhide HR]; simp only [fFunction, ub, eq_true c1, hq]) (grown_trans (gw2 ‹_›) hg)⟩)
 have hz2 := hg.size
 (try simp at hz2)
 have G2 : w.grownBy w2 (some C.b) := grown_trans (gw2 ‹_›) hg
 have bl0_2 : BL w2 w.heap.size (.cells #[.pointer (some ⟨C.b, 0, none⟩)] 88) := BL.grown (bw2 ‹_›) hg (by omega)
 have hl0_2 := bl0_2.lt
 have zc0_2 := bl0_2.cell
 have bl1_2 : BL w2 w1.heap.size (nqC 6 ⟨#[]⟩ 0 (tok C.ts k).pos none 0 0) := BL.grown (bw0 (by omega)) hg (by omega)
 have zc1_2 := bl1_2.cell
 have fz1_2 := bl1_2.frozen
 clear bl0_1 zc0_1
 clear p1
 obtain ⟨lo2, hlo2, row2⟩ := hrow.named
 (try simp at hlo2)
 have HQ2 := hide hq
 clear hrow hq
 clear hg
 go_wp2_with fail
 refine (ih.at.result h k2 _ (pw3 ‹_› ok (by simp <;> omega)) (fun hx => unhide HO ((unhide HR).symm.trans (by simp only [fFunction, ub, eq_true c1, unhide HQ2, hx])))).mono ?_
 rintro e w3 hp
 rcases hp with ⟨kd3, tx3, nm3, ps3, kids3, s3, k3, ao3, cp3, hq, rfl, hrow, p3, hg⟩ | ⟨pb, rule, hq, rfl, hg⟩
 rotate_left
 (exact ⟨rfl, lpost_bad (by rw [← unhide HR]; simp only [fFunction, ub, eq_true c1, unhide HQ2, hq]) (grown_trans (gw3 ‹_› (by simp <;> omega)) hg)⟩)
 have hz3 := hg.size
 (try simp at hz3)
 have G3 : w.grownBy w3 (some C.b) := grown_trans (gw3 ‹_› (by simp <;> omega)) hg
 replace row2 := RowI.ag row2 (Ag.grown (aw3 aw0 (by simp <;> omega)) hg (by simp <;> omega) (by omega)) (Nat.le_refl _) (Nat.le_refl _)
 have bl0_3 : BL w3 w.heap.size (.cells #[.pointer (some ⟨C.b, 0, none⟩)] 88) := BL.grown (bw3 ‹_› (by omega)) hg (by omega)
 have hl0_3 := bl0_3.lt
 have zc0_3 := bl0_3.cell
 have bl1_3 : BL w3 w1.heap.size (nqC 6 ⟨#[]⟩ 0 (tok C.ts k).pos ao2 l2.length cp2) := BL.grown (by apply BL.put2 ‹_›; simp) hg (by omega)
 have zc1_3 := bl1_3.cell
 clear bl0_2 zc0_2
 clear bl1_2 zc1_2 fz1_2
 clear p2
 obtain ⟨lo3, hlo3, row3⟩ := hrow.named
 (try simp at hlo3)
 have HQ3 := hide hq
 clear hrow hq
 clear hg
 have nf7 : ¬ w3.heap.size = C.b := by omega
 go_wp2
 go_region_held2 (fun w' => w'.cell? ⟨w1.heap.size, 0, none⟩ = some (.int .i64 6) ∧ w'.cell? ⟨w1.heap.size, 1, none⟩ = some (.string ⟨#[]⟩) ∧ w'.cell? ⟨w1.heap.size, 2, none⟩ = some (.int .i64 0) ∧ w'.cell? ⟨w1.heap.size, 3, none⟩ = some (.int .i64 (tok C.ts k).pos) ∧ w'.cell? ⟨w1.heap.size, 4, none⟩ = some (.string ⟨#[]⟩) ∧ w'.cell? ⟨w1.heap.size, 5, none⟩ = some (.int .i64 0) ∧ w'.cell? ⟨w1.heap.size, 6, none⟩ = some (.slice ao2 l2.length cp2) ∧ w'.cell? ⟨w3.heap.size, 0, none⟩ = some (.int .i64 kd3) ∧ w'.cell? ⟨w3.heap.size, 1, none⟩ = some (.string ⟨tx3.toArray⟩) ∧ w'.cell? ⟨w3.heap.size, 2, none⟩ = some (.int .i64 nm3) ∧ w'.cell? ⟨w3.heap.size, 3, none⟩ = some (.int .i64 ps3) ∧ w'.cell? ⟨w3.heap.size, 4, none⟩ = some (.string ⟨#[]⟩) ∧ w'.cell? ⟨w3.heap.size, 5, none⟩ = some (.int .i64 0) ∧ w'.cell? ⟨w3.heap.size, 6, none⟩ = some (.slice ao3 kids3.length cp3) ∧ w'.cell? ⟨w.heap.size, 0, none⟩ = some (.pointer (some ⟨C.b, 0, none⟩))) (go_keep) (first | (go_at_call 76; (refine (withinN C ok 77 #[.pointer (some ⟨C.b, 0, none⟩)] #[] en75 (run C.ts n .block false k3) false h k3 _ (pw1 (pw2 ‹_›)) (fun w0 _ q0 => ih.at.block false k3 w0 q0 (fun hx => unhide HO ((unhide HR).symm.trans (by simp only [fFunction, ub, eq_true c1, unhide HQ2, unhide HQ3, hx]))))).mono ?_; rintro e w4 hp; rcases hp with ⟨kd4, tx4, nm4, ps4, kids4, s4, k4, ao4, cp4, hq, rfl, hrow, p4, hg⟩ | ⟨pb, rule, hq, rfl, hg⟩; rotate_left; (exact ⟨rfl, lpost_bad (by rw [← unhide HR]; simp only [fFunction, ub, eq_true c1, unhide HQ2, unhide HQ3, hq]) (grown_trans (gw1 (gw2 ‹_›)) hg)⟩); have hz4 := hg.size; (try simp at hz4); have G4 : w.grownBy w4 (some C.b) := grown_trans (gw1 (gw2 ‹_›)) hg; replace row2 := RowI.ag row2 (Ag.grown (aw1 (aw2 aw0 (by omega))) hg (by simp <;> omega) (by omega)) (Nat.le_refl _) (Nat.le_refl _); replace row3 := RowI.ag row3 (Ag.grown (aw1 (aw2 aw0 (by simp <;> omega))) hg (by simp <;> omega) (by omega)) (Nat.le_refl _) (Nat.le_refl _); have bl0_4 : BL w4 w.heap.size (.cells #[.pointer (some ⟨C.b, 0, none⟩)] 88) := BL.grown (bw1 (bw2 ‹_›)) hg (by omega); have hl0_4 := bl0_4.lt; have zc0_4 := bl0_4.cell; have fz0_4 := bl0_4.frozen; have bl1_4 : BL w4 w1.heap.size (.cells #[.int .i64 6, .string ⟨#[]⟩, .int .i64 0, .int .i64 (tok C.ts k).pos, .string ⟨#[]⟩, .int .i64 0, .slice ao2 l2.length cp2] 24) := BL.grown (bw1 (bw2 ‹_›)) hg (by omega); have hl1_4 := bl1_4.lt; have zc1_4 := bl1_4.cell; have fz1_4 := bl1_4.frozen; have bl2_4 : BL w4 w3.heap.size (.cells #[.int .i64 kd3, .string ⟨tx3.toArray⟩, .int .i64 nm3, .int .i64 ps3, .string ⟨#[]⟩, .int .i64 0, .slice ao3 kids3.length cp3] 24) := BL.grown (bw1 (bw0 (by omega))) hg (by omega); have hl2_4 := bl2_4.lt; have zc2_4 := bl2_4.cell; have fz2_4 := bl2_4.frozen; clear bl0_3 zc0_3; clear bl1_3 zc1_3; clear p3; obtain ⟨lo4, hlo4, row4⟩ := hrow.named; (try simp at hlo4); have HQ4 := hide hq; clear hrow hq; clear hg; have ne10 : ¬ C.b = w4.heap.size := (by omega); have nf10 : ¬ w4.heap.size = C.b := (by omega); have ne11 : ¬ w.heap.size = w4.heap.size := (by omega); have nf11 : ¬ w4.heap.size = w.heap.size := (by omega); have ne12 : ¬ w1.heap.size = w4.heap.size := (by omega); have nf12 : ¬ w4.heap.size = w1.heap.size := (by omega); have ne13 : ¬ w3.heap.size = w4.heap.size := (by omega); have nf13 : ¬ w4.heap.size = w3.heap.size := (by omega))))
 go_wp2
 go_ret
 refine lpost_ok (hi := w4.heap.size + 1) (s := 0) (k' := k4) (l := [.mk 6 [] 0 (tok C.ts k).pos l2, .mk kd3 tx3 nm3 ps3 kids3, .mk kd4 tx4 nm4 ps4 kids4]) (by rw [← unhide HR]; simp only [fFunction, ub, eq_true c1, unhide HQ2, unhide HQ3, unhide HQ4]) (rowL (cur := #[.int .i64 6, .string ⟨#[]⟩, .int .i64 0, .int .i64 (tok C.ts k).pos, .string ⟨#[]⟩, .int .i64 0, .slice ao2 l2.length cp2, .int .i64 kd3, .string ⟨tx3.toArray⟩, .int .i64 nm3, .int .i64 ps3, .string ⟨#[]⟩, .int .i64 0, .slice ao3 kids3.length cp3, .int .i64 kd4, .string ⟨tx4.toArray⟩, .int .i64 nm4, .int .i64 ps4, .string ⟨#[]⟩, .int .i64 0, .slice ao4 kids4.length cp4]) (bw0 (by omega)) rfl rfl (by decide) (by omega) (by omega) (Kids.snoc (Kids.snoc (Kids.one ((Nd.mk (kd := 6) (tx := []) (nm := 0) (ps := (tok C.ts k).pos) row2).ag (aw2 aw0 (by omega))) (by omega) (by omega) (.inr (by omega))) ((Nd.mk (kd := kd3) (tx := tx3) (nm := nm3) (ps := ps3) row3).ag (aw2 aw0 (by omega))) (by omega) (by omega) (.inr (by omega))) ((Nd.mk (kd := kd4) (tx := tx4) (nm := nm4) (ps := ps4) row4).ag (aw2 aw0 (by simp <;> omega))) (by omega) (by omega) (.inr (by omega)))) (by simp <;> omega) ?_ ?_
 ·exact pw2 ‹_›
 ·exact gw2 ‹_›
open Go.RowKit Lx Px
set_option maxHeartbeats 4000000 in
theorem simple_w (C : Ctx) (ok : C.Ok) (n : Nat) (ih : All C n) : CN C 93 .simple #[.pointer (some ⟨C.b, 0, none⟩)] (n + 1) := by
 intro h k w p hout
 have hr : run C.ts (n + 1) .simple h k = fSimple C.ts (run C.ts n) h k := rfl
 rw [hr] at hout ⊢
 clear hr
 generalize hR : fSimple C.ts (run C.ts n) h k = r0 at hout ⊢
 have hbl := p.lt
 have G0 := grown_refl w (some C.b)
 have HR := hide hR
 clear hR
 have HO := hide hout
 clear hout
 go_enter Tryz.func93, Tryz.ntmps93
 by_cases c0 : isS C.ts k [[45], [33]] = true
 ·skip
  go_wp2_with fail
  refine (isL C ok k h _ (w.heap.size + 1) [[45], [33]] (by decide) (pw2 ‹_›) (by simp)).mono ?_
  rintro e w1 ⟨rfl, hgq⟩
  have p1 := PS.quiet (C := C) (k := k) (h := h) (pw2 ‹_›) hgq
  have hg := grown_any (r := some C.b) hgq
  clear hgq
  have G1 : w.grownBy w1 (some C.b) := grown_trans (gw2 ‹_›) hg
  clear hg
  go_wp2_with fail
  refine (broken_any C ok k h _ ⟨#[115, 105, 109, 112, 108, 101]⟩ ‹_›).mono ?_
  rintro e w2 ⟨rfl, hgq⟩
  have hg := grown_any (r := some C.b) hgq
  clear hgq
  have G2 : w.grownBy w2 (some C.b) := grown_trans ‹_› hg
  clear p1
  clear hg
  go_wp2
  exact bodyPost_panic rfl (npost_bad (by rw [← unhide HR]; simp only [fSimple, eq_self, (show ((0 : Int) = 1) = False from by decide), ub, eq_true c0]) ‹_›)
 go_wp2_with fail
 refine (isL C ok k h _ (w.heap.size + 1) [[45], [33]] (by decide) (pw2 ‹_›) (by simp)).mono ?_
 rintro e w1 ⟨rfl, hgq⟩
 have p1 := PS.quiet (C := C) (k := k) (h := h) (pw2 ‹_›) hgq
 have hg := grown_any (r := some C.b) hgq
 clear hgq
 have hz1 := hg.size
 (try simp at hz1)
 have G1 : w.grownBy w1 (some C.b) := grown_trans (gw2 ‹_›) hg
 have bl0_1 : BL w1 (w.heap.size) (nd0) := BL.grown (bw0 (by omega)) hg (by omega)
 clear hg
 have nf1 : ¬ w.heap.size = C.b := by omega
 go_wp2_with fail
 refine (ih.at.shaped h k _ ‹_› (fun hx => unhide HO ((unhide HR).symm.trans (by simp only [fSimple, eq_self, (show ((0 : Int) = 1) = False from by decide), ub, eq_false c0, hx])))).mono ?_
 rintro e w2 hp
 rcases hp with ⟨kd2, tx2, nm2, ps2, kids2, s2, k2, ao2, cp2, hq, rfl, hrow, p2, hg⟩ | ⟨pb, rule, hq, rfl, hg⟩
 rotate_left
 (exact ⟨rfl, npost_bad (by rw [← unhide HR]; simp only [fSimple, eq_self, (show ((0 : Int) = 1) = False from by decide), ub, eq_false c0, hq]) (grown_trans ‹_› hg)⟩)
 have hz2 := hg.size
 (try simp at hz2)
 have G2 : w.grownBy w2 (some C.b) := grown_trans ‹_› hg
 have bl0_2 : BL w2 (w.heap.size) (nd0) := BL.grown ‹_› hg (by omega)
 have hl0_2 := bl0_2.lt
 clear bl0_1
 clear p1
 obtain ⟨lo2, hlo2, row2⟩ := hrow.named
 (try simp at hlo2)
 have HQ2 := hide hq
 clear hrow hq
 clear hg
 have nf4 : ¬ w2.heap.size = C.b := by omega
 go_wp2_with fail
 refine (ih.at.acting kd2 tx2 nm2 ps2 kids2 s2 ao2 cp2 h k2 _ lo2 w2.heap.size (pw2 ‹_›) (by omega) (by simp <;> omega) (by simp <;> omega) (row2.ag (aw2 aw0 (by simp <;> omega)) (Nat.le_refl _) (Nat.le_refl _)) (fun hx => unhide HO ((unhide HR).symm.trans (by simp only [fSimple, eq_self, (show ((0 : Int) = 1) = False from by decide), ub, eq_false c0, unhide HQ2, hx])))).mono ?_
 rintro e w3 hp
 rcases hp with ⟨kd3, tx3, nm3, ps3, kids3, k3, ao3, cp3, hq, rfl, hrow, p3, hg⟩ | ⟨k3, hq, rfl, p3, hg⟩ | ⟨pb, rule, hq, rfl, hg⟩
 ·skip
  have G3 : w.grownBy w3 (some C.b) := grown_trans (gw2 ‹_›) hg
  have bl0_3 : BL w3 (w.heap.size) (nd0) := BL.grown (bw2 ‹_›) hg (by omega)
  have hl0_3 := bl0_3.lt
  have zc0_3 := bl0_3.cell
  have fz0_3 := bl0_3.frozen
  clear bl0_2
  clear p2
  obtain ⟨lo3, hlo3, row3⟩ := hrow.named
  (try simp at hlo3)
  have HQ3 := hide hq
  clear hrow hq
  clear hg
  go_wp2
  refine bodyPost_ret (v := .agg #[.int .i64 kd3, .string ⟨tx3.toArray⟩, .int .i64 nm3, .int .i64 ps3, .string ⟨#[]⟩, .int .i64 0, .slice ao3 kids3.length cp3]) (by simp [results, Tryz.results93, go_sem, *]) rfl (npost_ok (hi := w3.heap.size) (s := 0) (k' := k3) (tx := tx3) (kids := kids3)  (by rw [← unhide HR]; simp only [fSimple, eq_self, (show ((0 : Int) = 1) = False from by decide), ub, eq_false c0, unhide HQ2, unhide HQ3]) (row3.ag (aw2 (aw7 aw0 (by first | omega | (simp <;> omega))) (by simp <;> omega)) (by omega) (Nat.le_refl _)) (by simp <;> omega) ?_ ?_)
  ·exact pw2 (pw7 ‹_› ok (by first | omega | (simp <;> omega)))
  ·exact gw2 (gw7 ‹_› (by first | omega | (simp <;> omega)))
 ·skip
  have hz3 := hg.size
  (try simp at hz3)
  have G3 : w.grownBy w3 (some C.b) := grown_trans (gw2 ‹_›) hg
  replace row2 := RowI.ag row2 (Ag.grown (aw2 aw0 (by simp <;> omega)) hg (by simp <;> omega) (by omega)) (Nat.le_refl _) (Nat.le_refl _)
  have bl0_3 : BL w3 (w.heap.size) (nd0) := BL.grown (bw2 ‹_›) hg (by omega)
  have bl1_3 : BL w3 (w2.heap.size) (nqC kd2 ⟨tx2.toArray⟩ nm2 ps2 ao2 kids2.length cp2) := BL.grown (bw0 (by omega)) hg (by omega)
  clear bl0_2
  clear p2
  clear hg
  have HQ3 := hide hq
  clear hq
  by_cases cs : stands s2 = true
  rotate_left
  ·skip
   go_wp2_with fail
   refine (stands_any s2 _).mono ?_
   rintro e w4 ⟨rfl, hgq⟩
   have p4 := PS.quiet (C := C) (k := k3) (h := h) (pw2 ‹_›) hgq
   have hg := grown_any (r := some C.b) hgq
   clear hgq
   have G4 : w.grownBy w4 (some C.b) := grown_trans (gw2 ‹_›) hg
   clear bl0_3
   clear bl1_3
   clear p3
   clear hg
   go_wp2_with fail
   refine (broken_any C ok k3 h _ ⟨#[115, 105, 109, 112, 108, 101]⟩ ‹_›).mono ?_
   rintro e w5 ⟨rfl, hgq⟩
   have hg := grown_any (r := some C.b) hgq
   clear hgq
   have G5 : w.grownBy w5 (some C.b) := grown_trans ‹_› hg
   clear p4
   clear hg
   go_wp2
   exact bodyPost_panic rfl (npost_bad (by rw [← unhide HR]; simp only [fSimple, eq_self, (show ((0 : Int) = 1) = False from by decide), ub, eq_false c0, unhide HQ2, unhide HQ3, eq_false cs]) ‹_›)
  go_wp2_with fail
  refine (stands_any s2 _).mono ?_
  rintro e w4 ⟨rfl, hgq⟩
  have p4 := PS.quiet (C := C) (k := k3) (h := h) (pw2 ‹_›) hgq
  have hg := grown_any (r := some C.b) hgq
  clear hgq
  have G4 : w.grownBy w4 (some C.b) := grown_trans (gw2 ‹_›) hg
  replace row2 := RowI.ag row2 (Ag.grown (aw2 aw0 (by omega)) hg (by simp <;> omega) (by omega)) (Nat.le_refl _) (Nat.le_refl _)
  have bl0_4 : BL w4 (w.heap.size) (nd0) := BL.grown (bw2 ‹_›) hg (by omega)
  have bl1_4 : BL w4 (w2.heap.size) (nqC kd2 ⟨tx2.toArray⟩ nm2 ps2 ao2 kids2.length cp2) := BL.grown (bw2 ‹_›) hg (by omega)
  have hl1_4 := bl1_4.lt
  have zc1_4 := bl1_4.cell
  clear bl0_3
  clear bl1_3
  clear p3
  clear hg
  go_wp2_with fail
  refine (alone_any kd2 nm2 ps2 tx2 kids2 ao2 cp2 lo2 w2.heap.size _ (by omega) (by omega) (row2.ag aw0 (Nat.le_refl _) (Nat.le_refl _))).mono ?_
  rintro e w5 ⟨g5, rfl, hrow, hgq⟩
  have p5 := PS.quiet (C := C) (k := k3) (h := h) ‹_› hgq
  have hg := grown_any (r := some C.b) hgq
  clear hgq
  have G5 : w.grownBy w5 (some C.b) := grown_trans ‹_› hg
  have bl0_5 : BL w5 (w.heap.size) (nd0) := BL.grown ‹_› hg (by omega)
  have zc0_5 := bl0_5.cell
  have fz0_5 := bl0_5.frozen
  clear bl0_4
  clear bl1_4 zc1_4
  clear p4
  clear hg
  obtain ⟨lo5, hlo5, row5⟩ := hrow.named
  (try simp at hlo5)
  clear hrow
  go_wp2
  refine bodyPost_ret (v := .agg #[.int .i64 34, .string ⟨#[]⟩, .int .i64 0, .int .i64 ps2, .string ⟨#[]⟩, .int .i64 0, .slice (some ⟨g5, 0, none⟩) 1 1]) (by simp [results, Tryz.results93, go_sem, *]) rfl (npost_ok (hi := w5.heap.size) (s := 0) (k' := k3) (tx := []) (kids := [.mk kd2 tx2 nm2 ps2 kids2])  (by rw [← unhide HR]; simp only [fSimple, eq_self, (show ((0 : Int) = 1) = False from by decide), ub, eq_false c0, unhide HQ2, unhide HQ3, eq_true cs]) (row5.ag (aw7 aw0 (by first | omega | (simp <;> omega))) (by omega) (Nat.le_refl _)) (by simp <;> omega) ?_ ?_)
  ·exact pw7 ‹_› ok (by first | omega | (simp <;> omega))
  ·exact gw7 ‹_› (by first | omega | (simp <;> omega))
 ·exact ⟨rfl, npost_bad (by rw [← unhide HR]; simp only [fSimple, eq_self, (show ((0 : Int) = 1) = False from by decide), ub, eq_false c0, unhide HQ2, hq]) (grown_trans (gw2 ‹_›) hg)⟩
open Go.RowKit Lx Px
set_option maxHeartbeats 4000000 in
theorem forLead_w (C : Ctx) (ok : C.Ok) (n : Nat) (ih : All C n) : ∀ (h : Bool) (k : Nat) (w : World), PS w C k h → run C.ts (n + 1) .forLead h k ≠ .out → Calls Tryz.prog 114 #[.pointer (some ⟨C.b, 0, none⟩)] w (FPost C w.heap.size (run C.ts (n + 1) .forLead h k) h w) := by
 intro h k w p hout
 have hr : run C.ts (n + 1) .forLead h k = fForLead C.ts (run C.ts n) h k := rfl
 rw [hr] at hout ⊢
 clear hr
 generalize hR : fForLead C.ts (run C.ts n) h k = r0 at hout ⊢
 have hbl := p.lt
 have G0 := grown_refl w (some C.b)
 have HR := hide hR
 clear hR
 have HO := hide hout
 clear hout
 go_enter Tryz.func114, Tryz.ntmps114
 go_wp2_with fail
 refine (ih.at.shaped h k _ (pw2 ‹_›) (fun hx => unhide HO ((unhide HR).symm.trans (by simp only [fForLead, eq_self, (show ((0 : Int) = 1) = False from by decide), ub, hx])))).mono ?_
 rintro e w1 hp
 rcases hp with ⟨kd1, tx1, nm1, ps1, kids1, s1, k1, ao1, cp1, hq, rfl, hrow, p1, hg⟩ | ⟨pb, rule, hq, rfl, hg⟩
 rotate_left
 (exact ⟨rfl, fpost_bad (by rw [← unhide HR]; simp only [fForLead, eq_self, (show ((0 : Int) = 1) = False from by decide), ub, hq]) (grown_trans (gw2 ‹_›) hg)⟩)
 have hz1 := hg.size
 (try simp at hz1)
 have G1 : w.grownBy w1 (some C.b) := grown_trans (gw2 ‹_›) hg
 have bl0_1 : BL w1 (w.heap.size) (nd0) := BL.grown (bw0 (by omega)) hg (by omega)
 obtain ⟨lo1, hlo1, row1⟩ := hrow.named
 (try simp at hlo1)
 have HQ1 := hide hq
 clear hrow hq
 clear hg
 have ⟨nf1, nf2⟩ : ¬ w.heap.size = C.b ∧ ¬ w1.heap.size = C.b := by omega
 go_wp2_with fail
 refine (ih.at.acting kd1 tx1 nm1 ps1 kids1 s1 ao1 cp1 h k1 _ lo1 w1.heap.size (pw2 ‹_›) (by omega) (by simp <;> omega) (by simp <;> omega) (row1.ag (aw2 aw0 (by simp <;> omega)) (Nat.le_refl _) (Nat.le_refl _)) (fun hx => unhide HO ((unhide HR).symm.trans (by simp only [fForLead, eq_self, (show ((0 : Int) = 1) = False from by decide), ub, unhide HQ1, hx])))).mono ?_
 rintro e w2 hp
 rcases hp with ⟨kd2, tx2, nm2, ps2, kids2, k2, ao2, cp2, hq, rfl, hrow, p2, hg⟩ | ⟨k2, hq, rfl, p2, hg⟩ | ⟨pb, rule, hq, rfl, hg⟩
 ·skip
  have G2 : w.grownBy w2 (some C.b) := grown_trans (gw2 ‹_›) hg
  have bl0_2 : BL w2 (w.heap.size) (nd0) := BL.grown (bw2 ‹_›) hg (by omega)
  have hl0_2 := bl0_2.lt
  have zc0_2 := bl0_2.cell
  have fz0_2 := bl0_2.frozen
  clear bl0_1
  clear p1
  obtain ⟨lo2, hlo2, row2⟩ := hrow.named
  (try simp at hlo2)
  have HQ2 := hide hq
  clear hrow hq
  clear hg
  go_wp2
  refine bodyPost_ret (v := .tuple #[.agg #[.int .i64 kd2, .string ⟨tx2.toArray⟩, .int .i64 nm2, .int .i64 ps2, .string ⟨#[]⟩, .int .i64 0, .slice ao2 kids2.length cp2], .bool true]) (by simp [results, Tryz.results114, go_sem, *]) rfl (fpost_ok (hi := w2.heap.size) (s := 1) (k' := k2) (tx := tx2) (kids := kids2) (by decide) (by rw [← unhide HR]; simp only [fForLead, eq_self, (show ((0 : Int) = 1) = False from by decide), ub, unhide HQ1, unhide HQ2]) (row2.ag (aw2 (aw7 aw0 (by first | omega | (simp <;> omega))) (by simp <;> omega)) (by omega) (Nat.le_refl _)) (by simp <;> omega) ?_ ?_)
  ·exact pw2 (pw7 ‹_› ok (by first | omega | (simp <;> omega)))
  ·exact gw2 (gw7 ‹_› (by first | omega | (simp <;> omega)))
 ·skip
  have hz2 := hg.size
  (try simp at hz2)
  have G2 : w.grownBy w2 (some C.b) := grown_trans (gw2 ‹_›) hg
  replace row1 := RowI.ag row1 (Ag.grown (aw2 aw0 (by simp <;> omega)) hg (by simp <;> omega) (by omega)) (Nat.le_refl _) (Nat.le_refl _)
  have bl0_2 : BL w2 (w.heap.size) (nd0) := BL.grown (bw2 ‹_›) hg (by omega)
  have bl1_2 : BL w2 (w1.heap.size) (nqC kd1 ⟨tx1.toArray⟩ nm1 ps1 ao1 kids1.length cp1) := BL.grown (bw0 (by omega)) hg (by omega)
  clear bl0_1
  clear p1
  clear hg
  have HQ2 := hide hq
  clear hq
  by_cases cs : stands s1 = true
  rotate_left
  ·skip
   go_wp2_with fail
   refine (stands_any s1 _).mono ?_
   rintro e w3 ⟨rfl, hgq⟩
   have p3 := PS.quiet (C := C) (k := k2) (h := h) (pw2 ‹_›) hgq
   have hg := grown_any (r := some C.b) hgq
   clear hgq
   have G3 : w.grownBy w3 (some C.b) := grown_trans (gw2 ‹_›) hg
   replace row1 := RowI.ag row1 (Ag.grown (aw2 aw0 (by omega)) hg (by simp <;> omega) (by omega)) (Nat.le_refl _) (Nat.le_refl _)
   have bl0_3 : BL w3 (w.heap.size) (nd0) := BL.grown (bw2 ‹_›) hg (by omega)
   have hl0_3 := bl0_3.lt
   have bl1_3 : BL w3 (w1.heap.size) (nqC kd1 ⟨tx1.toArray⟩ nm1 ps1 ao1 kids1.length cp1) := BL.grown (bw2 ‹_›) hg (by omega)
   have hl1_3 := bl1_3.lt
   have zc1_3 := bl1_3.cell
   clear bl0_2
   clear bl1_2
   clear p2
   clear hg
   go_wp2_with fail
   refine (ih.at.opOf kd1 tx1 nm1 ps1 kids1 1 ao1 cp1 (by decide) h k2 _ lo1 w1.heap.size ‹_› (by omega) (by omega) (by omega) (row1.ag aw0 (Nat.le_refl _) (Nat.le_refl _)) (fun hx => unhide HO ((unhide HR).symm.trans (by simp only [fForLead, eq_self, (show ((0 : Int) = 1) = False from by decide), ub, unhide HQ1, unhide HQ2, eq_false cs, hx])))).mono ?_
   rintro e w4 hp
   rcases hp with ⟨kd4, tx4, nm4, ps4, kids4, s4, k4, ao4, cp4, hq, rfl, hrow, p4, hg⟩ | ⟨pb, rule, hq, rfl, hg⟩
   rotate_left
   (exact ⟨rfl, fpost_bad (by rw [← unhide HR]; simp only [fForLead, eq_self, (show ((0 : Int) = 1) = False from by decide), ub, unhide HQ1, unhide HQ2, eq_false cs, hq]) (grown_trans ‹_› hg)⟩)
   have G4 : w.grownBy w4 (some C.b) := grown_trans ‹_› hg
   have bl0_4 : BL w4 (w.heap.size) (nd0) := BL.grown ‹_› hg (by omega)
   have zc0_4 := bl0_4.cell
   have fz0_4 := bl0_4.frozen
   clear bl0_3
   clear bl1_3 zc1_3
   clear p3
   obtain ⟨lo4, hlo4, row4⟩ := hrow.named
   (try simp at hlo4)
   have HQ4 := hide hq
   clear hrow hq
   clear hg
   go_wp2
   refine bodyPost_ret (v := .tuple #[.agg #[.int .i64 kd4, .string ⟨tx4.toArray⟩, .int .i64 nm4, .int .i64 ps4, .string ⟨#[]⟩, .int .i64 0, .slice ao4 kids4.length cp4], .bool false]) (by simp [results, Tryz.results114, go_sem, *]) rfl (fpost_ok (hi := w4.heap.size) (s := 0) (k' := k4) (tx := tx4) (kids := kids4) (by decide) (by rw [← unhide HR]; simp only [fForLead, eq_self, (show ((0 : Int) = 1) = False from by decide), ub, unhide HQ1, unhide HQ2, eq_false cs, unhide HQ4]) (row4.ag (aw7 aw0 (by first | omega | (simp <;> omega))) (by omega) (Nat.le_refl _)) (by simp <;> omega) ?_ ?_)
   ·exact pw7 ‹_› ok (by first | omega | (simp <;> omega))
   ·exact gw7 ‹_› (by first | omega | (simp <;> omega))
  go_wp2_with fail
  refine (stands_any s1 _).mono ?_
  rintro e w3 ⟨rfl, hgq⟩
  have p3 := PS.quiet (C := C) (k := k2) (h := h) (pw2 ‹_›) hgq
  have hg := grown_any (r := some C.b) hgq
  clear hgq
  have G3 : w.grownBy w3 (some C.b) := grown_trans (gw2 ‹_›) hg
  replace row1 := RowI.ag row1 (Ag.grown (aw2 aw0 (by omega)) hg (by simp <;> omega) (by omega)) (Nat.le_refl _) (Nat.le_refl _)
  have bl0_3 : BL w3 (w.heap.size) (nd0) := BL.grown (bw2 ‹_›) hg (by omega)
  have bl1_3 : BL w3 (w1.heap.size) (nqC kd1 ⟨tx1.toArray⟩ nm1 ps1 ao1 kids1.length cp1) := BL.grown (bw2 ‹_›) hg (by omega)
  have hl1_3 := bl1_3.lt
  clear bl0_2
  clear bl1_2
  clear p2
  clear hg
  by_cases c5 : isS C.ts k2 [[59]] = true
  rotate_left
  ·skip
   go_wp2_with fail
   refine (isL C ok k2 h _ w3.heap.size [[59]] (by decide) ‹_› (by simp)).mono ?_
   rintro e w4 ⟨rfl, hgq⟩
   have p4 := PS.quiet (C := C) (k := k2) (h := h) ‹_› hgq
   have hg := grown_any (r := some C.b) hgq
   clear hgq
   have G4 : w.grownBy w4 (some C.b) := grown_trans ‹_› hg
   replace row1 := RowI.ag row1 (Ag.grown aw0 hg (by omega) (by omega)) (Nat.le_refl _) (Nat.le_refl _)
   have bl0_4 : BL w4 (w.heap.size) (nd0) := BL.grown ‹_› hg (by omega)
   have hl0_4 := bl0_4.lt
   have bl1_4 : BL w4 (w1.heap.size) (nqC kd1 ⟨tx1.toArray⟩ nm1 ps1 ao1 kids1.length cp1) := BL.grown ‹_› hg (by omega)
   have hl1_4 := bl1_4.lt
   have zc1_4 := bl1_4.cell
   clear bl0_3
   clear bl1_3
   clear p3
   clear hg
   go_wp2_with fail
   refine (ih.at.opOf kd1 tx1 nm1 ps1 kids1 1 ao1 cp1 (by decide) h k2 _ lo1 w1.heap.size ‹_› (by omega) (by omega) (by omega) (row1.ag aw0 (Nat.le_refl _) (Nat.le_refl _)) (fun hx => unhide HO ((unhide HR).symm.trans (by simp only [fForLead, eq_self, (show ((0 : Int) = 1) = False from by decide), ub, unhide HQ1, unhide HQ2, eq_true cs, eq_false c5, hx])))).mono ?_
   rintro e w5 hp
   rcases hp with ⟨kd5, tx5, nm5, ps5, kids5, s5, k5, ao5, cp5, hq, rfl, hrow, p5, hg⟩ | ⟨pb, rule, hq, rfl, hg⟩
   rotate_left
   (exact ⟨rfl, fpost_bad (by rw [← unhide HR]; simp only [fForLead, eq_self, (show ((0 : Int) = 1) = False from by decide), ub, unhide HQ1, unhide HQ2, eq_true cs, eq_false c5, hq]) (grown_trans ‹_› hg)⟩)
   have G5 : w.grownBy w5 (some C.b) := grown_trans ‹_› hg
   have bl0_5 : BL w5 (w.heap.size) (nd0) := BL.grown ‹_› hg (by omega)
   have zc0_5 := bl0_5.cell
   have fz0_5 := bl0_5.frozen
   clear bl0_4
   clear bl1_4 zc1_4
   clear p4
   obtain ⟨lo5, hlo5, row5⟩ := hrow.named
   (try simp at hlo5)
   have HQ5 := hide hq
   clear hrow hq
   clear hg
   go_wp2
   refine bodyPost_ret (v := .tuple #[.agg #[.int .i64 kd5, .string ⟨tx5.toArray⟩, .int .i64 nm5, .int .i64 ps5, .string ⟨#[]⟩, .int .i64 0, .slice ao5 kids5.length cp5], .bool false]) (by simp [results, Tryz.results114, go_sem, *]) rfl (fpost_ok (hi := w5.heap.size) (s := 0) (k' := k5) (tx := tx5) (kids := kids5) (by decide) (by rw [← unhide HR]; simp only [fForLead, eq_self, (show ((0 : Int) = 1) = False from by decide), ub, unhide HQ1, unhide HQ2, eq_true cs, eq_false c5, unhide HQ5]) (row5.ag (aw7 aw0 (by first | omega | (simp <;> omega))) (by omega) (Nat.le_refl _)) (by simp <;> omega) ?_ ?_)
   ·exact pw7 ‹_› ok (by first | omega | (simp <;> omega))
   ·exact gw7 ‹_› (by first | omega | (simp <;> omega))
  go_wp2_with fail
  refine (isL C ok k2 h _ w3.heap.size [[59]] (by decide) ‹_› (by simp)).mono ?_
  rintro e w4 ⟨rfl, hgq⟩
  have p4 := PS.quiet (C := C) (k := k2) (h := h) ‹_› hgq
  have hg := grown_any (r := some C.b) hgq
  clear hgq
  have G4 : w.grownBy w4 (some C.b) := grown_trans ‹_› hg
  replace row1 := RowI.ag row1 (Ag.grown aw0 hg (by omega) (by omega)) (Nat.le_refl _) (Nat.le_refl _)
  have bl0_4 : BL w4 (w.heap.size) (nd0) := BL.grown ‹_› hg (by omega)
  have hl0_4 := bl0_4.lt
  have bl1_4 : BL w4 (w1.heap.size) (nqC kd1 ⟨tx1.toArray⟩ nm1 ps1 ao1 kids1.length cp1) := BL.grown ‹_› hg (by omega)
  have hl1_4 := bl1_4.lt
  have zc1_4 := bl1_4.cell
  clear bl0_3
  clear bl1_3
  clear p3
  clear hg
  go_wp2_with fail
  refine (alone_any kd1 nm1 ps1 tx1 kids1 ao1 cp1 lo1 w1.heap.size _ (by omega) (by omega) (row1.ag aw0 (Nat.le_refl _) (Nat.le_refl _))).mono ?_
  rintro e w5 ⟨g5, rfl, hrow, hgq⟩
  have p5 := PS.quiet (C := C) (k := k2) (h := h) ‹_› hgq
  have hg := grown_any (r := some C.b) hgq
  clear hgq
  have G5 : w.grownBy w5 (some C.b) := grown_trans ‹_› hg
  have bl0_5 : BL w5 (w.heap.size) (nd0) := BL.grown ‹_› hg (by omega)
  have zc0_5 := bl0_5.cell
  have fz0_5 := bl0_5.frozen
  clear bl0_4
  clear bl1_4 zc1_4
  clear p4
  clear hg
  obtain ⟨lo5, hlo5, row5⟩ := hrow.named
  (try simp at hlo5)
  clear hrow
  go_wp2
  refine bodyPost_ret (v := .tuple #[.agg #[.int .i64 34, .string ⟨#[]⟩, .int .i64 0, .int .i64 ps1, .string ⟨#[]⟩, .int .i64 0, .slice (some ⟨g5, 0, none⟩) 1 1], .bool true]) (by simp [results, Tryz.results114, go_sem, *]) rfl (fpost_ok (hi := w5.heap.size) (s := 1) (k' := k2) (tx := []) (kids := [.mk kd1 tx1 nm1 ps1 kids1]) (by decide) (by rw [← unhide HR]; simp only [fForLead, eq_self, (show ((0 : Int) = 1) = False from by decide), ub, unhide HQ1, unhide HQ2, eq_true cs, eq_true c5]) (row5.ag (aw7 aw0 (by first | omega | (simp <;> omega))) (by omega) (Nat.le_refl _)) (by simp <;> omega) ?_ ?_)
  ·exact pw7 ‹_› ok (by first | omega | (simp <;> omega))
  ·exact gw7 ‹_› (by first | omega | (simp <;> omega))
 ·exact ⟨rfl, fpost_bad (by rw [← unhide HR]; simp only [fForLead, eq_self, (show ((0 : Int) = 1) = False from by decide), ub, unhide HQ1, hq]) (grown_trans (gw2 ‹_›) hg)⟩
open Go.RowKit Lx Px
set_option maxHeartbeats 4000000 in
theorem file_w (C : Ctx) (ok : C.Ok) (n : Nat) (ih : All C n) : CN C 31 (.fileMore []) #[.pointer (some ⟨C.b, 0, none⟩)] (n + 1) := by
 intro h k w p hout
 have hr : run C.ts (n + 1) (.fileMore []) h k = run C.ts (n + 1) (.fileMore []) h k := rfl
 rw [hr] at hout ⊢
 clear hr
 generalize hR : run C.ts (n + 1) (.fileMore []) h k = r0 at hout ⊢
 have hbl := p.lt
 have htf0 := tokF0
 have G0 := grown_refl w (some C.b)
 have HR := hide hR
 clear hR
 have HO := hide hout
 clear hout
 have hfew := ok.few
 go_enter Tryz.func31, Tryz.ntmps31
 go_wp2
 go_loopg [6] (n + 1) (fun gk _ wr => ∃ (acc : List Tree) (k' : Nat) (ao : Option Addr) (cp : Nat), PS wr C k' h ∧ BL wr w.heap.size nd0 ∧ BL wr (w.heap.size + 1) (.cells #[.int .i64 1, .string ⟨#[]⟩, .int .i64 0, .int .i64 0, .string ⟨#[]⟩, .int .i64 0, .slice ao acc.length cp] 24) ∧ RowI wr (w.heap.size + 2) wr.heap.size (.slice ao acc.length cp) acc ∧ w.grownBy wr (some C.b) ∧ Hid (run C.ts gk (.fileMore acc) h k' = r0) ∧ gk ≤ n + 1 ∧ acc.length ≤ k' ∧ w.heap.size + 2 ≤ wr.heap.size)
 case atStart => exact ⟨[], k, none, 0, (pw2 (pw2 ‹_›)), (bw2 (bw0 (by omega))), by show BL _ (w.heap.size + 1) (.cells #[.int .i64 1,.string ⟨#[]⟩,.int .i64 0,.int .i64 0,.string ⟨#[]⟩,.int .i64 0,.slice none 0 0] 24); exact bw0 (by simp <;> omega), RowI.nil _ _ _, (gw2 (gw2 ‹_›)), HR, Nat.le_refl _, Nat.zero_le _, by simp⟩
 case round =>
  obtain ⟨acc, k0, ao0, cp0, p0, bl0_0, bl1_0, row0, Gr, HRr, hle, hacc, hzw⟩ := hrel
  obtain ⟨m, rfl⟩ : ∃ m, gk = m + 1 := (by cases gk with | zero => exact absurd (unhide HRr).symm (unhide HO) | succ m => exact ⟨m, rfl⟩)
  clear HR
  have HR : Hid (fFileMore C.ts (run C.ts m) acc h k0 = r0) := unhide HRr
  have hkl0 := p0.kl
  have ihm := ih m (by omega)
  clear HRr p
  go_wp2_with fail
  refine (token_any C ok k0 h _ ‹_›).mono ?_
  rintro e w1 ⟨rfl, hgq⟩
  have p1 := PS.quiet (C := C) (k := k0) (h := h) ‹_› hgq
  have hg := grown_any (r := some C.b) hgq
  clear hgq
  have hz1 := hg.size
  (try simp at hz1)
  have G1 : w.grownBy w1 (some C.b) := grown_trans ‹_› hg
  replace row0 := RowI.ag row0 (Ag.grown aw0 hg (by omega) (by omega)) (Nat.le_refl _) (Nat.le_refl _)
  have bl0_1 : BL w1 (w.heap.size) (nd0) := BL.grown ‹_› hg (by omega)
  have zc0_1 := bl0_1.cell
  have fz0_1 := bl0_1.frozen
  have bl1_1 : BL w1 (w.heap.size + 1) (nqC 1 ⟨#[]⟩ 0 0 ao0 acc.length cp0) := BL.grown ‹_› hg (by omega)
  have hl1_1 := bl1_1.lt
  have zc1_1 := bl1_1.cell
  clear bl0_0
  clear bl1_0
  clear hg
  have ⟨nf1, nf2, nf4⟩ : ¬ w.heap.size = C.b ∧ ¬ w.heap.size + 1 = C.b ∧ ¬ w.heap.size + 1 = w.heap.size := by omega
  clear p0
  by_cases c6 : (tok C.ts k0).kind = 6
  ·skip
   have b6 : ((tok C.ts k0).kind == 6) = true := by simp [c6]
   have C6 := hide c6
   clear c6
   go_wp2
   refine bodyPost_ret (v := .agg #[.int .i64 1, .string ⟨#[]⟩, .int .i64 0, .int .i64 0, .string ⟨#[]⟩, .int .i64 0, .slice ao0 acc.length cp0]) (by simp [results, Tryz.results31, go_sem, *]) rfl (npost_ok (hi := wr.heap.size) (s := 0) (k' := k0) (tx := []) (kids := acc)  (by rw [← unhide HR]; simp only [fFileMore, ub, eq_true (unhide C6)]) (row0.ag (aw7 aw0 (by first | omega | (simp <;> omega))) (by omega) (Nat.le_refl _)) (by simp <;> omega) ?_ ?_)
   ·exact pw7 ‹_› ok (by first | omega | (simp <;> omega))
   ·exact gw7 ‹_› (by first | omega | (simp <;> omega))
  have b6 : ((tok C.ts k0).kind == 6) = false := by simp [c6]
  go_wp2
  go_region_law (first | (refine step_app rfl (.tmp 10) (.tmp 13) rfl (lo := w.heap.size + 2) (hi := wr.heap.size) (ao := ao0) (cp := cp0) (l := acc) (t := .mk kd2 tx2 nm2 ps2 kids2) (A := lo2) (B := w2.heap.size) (g0 := w2.heap.size) (cur := #[.int .i64 kd2, .string ⟨tx2.toArray⟩, .int .i64 nm2, .int .i64 ps2, .string ⟨#[]⟩, .int .i64 0, .slice ao2 kids2.length cp2]) (by simp [Act.eval]) (RowI.ag row0 (aw2 aw0 (by omega)) (Nat.le_refl _) (Nat.le_refl _)) (by simp [Act.eval]) (bw0 (by omega)) ((Nd.mk (kd := kd2) (tx := tx2) (nm := nm2) (ps := ps2) row2).ag (aw2 aw0 (by simp <;> omega))) rfl one7 (by omega) (by simp <;> omega) (by simp <;> omega) (by omega) (by simp <;> omega) (by omega) ?_; intro g3 cp3 w3 hrw3 hgA hat3 hgl3; have hob := row0.own; have hz3 := hgA.size; (try simp at hz3); (try simp at hat3); have G3 : w.grownBy w3 (some C.b) := grown_own (gw2 ‹_›) hgA (fun x hx => by have := hob x hx; omega); have p3 := PS.own (C := C) (k := k2) (h := h) (pw2 ‹_›) ok hgA (fun x hx => by have := hob x hx; omega); have bl0_3 : BL w3 (w.heap.size) (nd0) := BL.own (bw2 ‹_›) hgA (fun e => by have := hob _ e.symm; omega); have hl0_3 := bl0_3.lt; have zc0_3 := bl0_3.cell; have fz0_3 := bl0_3.frozen; have bl1_3 : BL w3 (w.heap.size + 1) (.cells #[.int .i64 1, .string ⟨#[]⟩, .int .i64 0, .int .i64 0, .string ⟨#[]⟩, .int .i64 0, .slice ao0 acc.length cp0] 24) := BL.own (bw2 ‹_›) hgA (fun e => by have := hob _ e.symm; omega); have hl1_3 := bl1_3.lt; have zc1_3 := bl1_3.cell; have fz1_3 := bl1_3.frozen; clear bl0_2 zc0_2 fz0_2; clear bl1_2 zc1_2 fz1_2; clear p2 hgA hob; have ne10 : ¬ C.b = w3.heap.size := (by omega); have nf10 : ¬ w3.heap.size = C.b := (by omega); have ne11 : ¬ w.heap.size = w3.heap.size := (by omega); have nf11 : ¬ w3.heap.size = w.heap.size := (by omega); have ne12 : ¬ w.heap.size + 1 = w3.heap.size := (by omega); have nf12 : ¬ w3.heap.size = w.heap.size + 1 := (by omega)) | (go_simp; go_at_call 40; (refine (ihm.decl h k0 _ (pw1 ‹_›) (fun hx => unhide HO ((unhide HR).symm.trans (by simp only [fFileMore, ub, eq_false c6, hx])))).mono ?_; rintro e w2 hp; rcases hp with ⟨kd2, tx2, nm2, ps2, kids2, s2, k2, ao2, cp2, hq, rfl, hrow, p2, hg⟩ | ⟨pb, rule, hq, rfl, hg⟩; rotate_left; (exact ⟨rfl, npost_bad (by rw [← unhide HR]; simp only [fFileMore, ub, eq_false c6, hq]) (grown_trans (gw1 ‹_›) hg)⟩); have hz2 := hg.size; (try simp at hz2); have G2 : w.grownBy w2 (some C.b) := grown_trans (gw1 ‹_›) hg; replace row0 := RowI.ag row0 (Ag.grown (aw1 aw0) hg (by simp <;> omega) (by omega)) (Nat.le_refl _) (Nat.le_refl _); have bl0_2 : BL w2 (w.heap.size) (nd0) := BL.grown (bw1 ‹_›) hg (by omega); have hl0_2 := bl0_2.lt; have zc0_2 := bl0_2.cell; have fz0_2 := bl0_2.frozen; have bl1_2 : BL w2 (w.heap.size + 1) (.cells #[.int .i64 1, .string ⟨#[]⟩, .int .i64 0, .int .i64 0, .string ⟨#[]⟩, .int .i64 0, .slice ao0 acc.length cp0] 24) := BL.grown (bw1 ‹_›) hg (by omega); have hl1_2 := bl1_2.lt; have zc1_2 := bl1_2.cell; have fz1_2 := bl1_2.frozen; clear bl0_1 zc0_1 fz0_1; clear bl1_1 zc1_1; clear p1; obtain ⟨lo2, hlo2, row2⟩ := hrow.named; (try simp at hlo2); have HQ2 := hide hq; clear hrow hq; clear hg; have ne7 : ¬ C.b = w2.heap.size := (by omega); have nf7 : ¬ w2.heap.size = C.b := (by omega); have ne8 : ¬ w.heap.size = w2.heap.size := (by omega); have nf8 : ¬ w2.heap.size = w.heap.size := (by omega); have ne9 : ¬ w.heap.size + 1 = w2.heap.size := (by omega); have nf9 : ¬ w2.heap.size = w.heap.size + 1 := (by omega); skip)))
  all_goals
   have hmono := run_fine C.ts m .decl h k0 _ s2 k2 (unhide HQ2)
   simp only [st, bnd] at hmono
   have hmon := hmono.1
   clear hmono
   have rowz : RowI (w3.setCell ⟨w.heap.size + 1, 6, none⟩ (.slice (some ⟨g3, 0, none⟩) (acc.length + 1) cp3)) (w.heap.size + 2) w3.heap.size (.slice (some ⟨g3, 0, none⟩) (acc.length + 1) cp3) (acc ++ [.mk kd2 tx2 nm2 ps2 kids2]) := RowI.wide (hrw3 _ (by simp <;> omega) (Ag.one (aw3 aw0 (by simp <;> omega))) (aw3 aw0 (by simp <;> omega)) (aw3 aw0 (by simp <;> omega))) (Nat.le_refl _) (by simp)
   by_cases cw : isS C.ts k2 [[59]] = true
   rotate_left
   ·skip
    go_wp2_with fail
    refine (want_no C ok k2 h _ ⟨#[102, 105, 108, 101]⟩ [59] (pw3 ‹_› ok (by simp <;> omega)) (Bool.eq_false_iff.2 cw)).mono ?_
    rintro e w4 ⟨rfl, hgq⟩
    exact ⟨rfl, npost_bad (by rw [← unhide HR]; simp only [fFileMore, ub, eq_false c6, unhide HQ2, eq_false cw]) (grown_trans (gw3 ‹_› (by simp <;> omega)) (grown_any hgq))⟩
   go_wp2_with fail
   refine (want_yes C ok k2 h _ ⟨#[102, 105, 108, 101]⟩ [59] (pw3 ‹_› ok (by simp <;> omega)) cw).mono ?_
   rintro e w4 ⟨rfl, p4, hg⟩
   have rowy := RowI.ag rowz (Ag.grown (Ag.refl _ _ _) hg (by simp <;> omega) (by omega)) (Nat.le_refl _) (Nat.le_refl _)
   have hz4 := hg.size
   (try simp at hz4)
   have G4 : w.grownBy w4 (some C.b) := grown_trans (gw3 ‹_› (by simp <;> omega)) hg
   have bl0_4 : BL w4 (w.heap.size) (nd0) := BL.grown (bw3 ‹_› (by omega)) hg (by omega)
   have bl1_4 : BL w4 (w.heap.size + 1) (nqC 1 ⟨#[]⟩ 0 0 (some ⟨g3, 0, none⟩) (acc.length + 1) cp3) := BL.grown (by apply BL.put2 ‹_›; simp) hg (by omega)
   have hl1_4 := bl1_4.lt
   clear bl0_3 zc0_3 fz0_3
   clear bl1_3 zc1_3 fz1_3
   clear p3
   clear hg
   go_wp2
   go_roundg m
   case measure => omega
   case rel => exact ⟨acc ++ [.mk kd2 tx2 nm2 ps2 kids2], k2 + 1, some ⟨g3, 0, none⟩, cp3, ‹_›, ‹_›, by simpa using bl1_4, by simpa using RowI.wide (hi' := w4.heap.size) rowy (Nat.le_refl _) (by omega), ‹_›, hide (by rw [← unhide HR]; simp only [fFileMore, ub, eq_false c6, unhide HQ2, eq_true cw]), by omega, by simp; omega, by omega⟩
open Go.RowKit Lx Px
set_option maxHeartbeats 4000000 in
theorem typeDecl_w (C : Ctx) (ok : C.Ok) (n : Nat) (ih : All C n) : CNt C 57 .typeDecl #[.pointer (some ⟨C.b, 0, none⟩)] (n + 1) := by
 intro h k w p h6 hout
 have hr : run C.ts (n + 1) .typeDecl h k = fTypeDecl C.ts (run C.ts n) h k := rfl
 rw [hr] at hout ⊢
 clear hr
 generalize hR : fTypeDecl C.ts (run C.ts n) h k = r0 at hout ⊢
 have H6 := hide h6
 clear h6
 have hbl := p.lt
 have htf1 := tokF1
 have htf3 := tokF3
 have G0 := grown_refl w (some C.b)
 have HR := hide hR
 clear hR
 have HO := hide hout
 clear hout
 have hfew := ok.few
 go_enter Tryz.func57, Tryz.ntmps57
 go_wp2_with fail
 refine (take_any C ok k h _ (pw2 ‹_›) (unhide H6)).mono ?_
 rintro e w1 ⟨rfl, p1, hg⟩
 have hz1 := hg.size
 (try simp at hz1)
 have G1 : w.grownBy w1 (some C.b) := grown_trans (gw2 ‹_›) hg
 have bl0_1 : BL w1 (w.heap.size) (nd0) := BL.grown (bw0 (by omega)) hg (by omega)
 clear hg
 have ⟨nf1, nf2, nf3⟩ : ¬ w.heap.size = C.b ∧ ¬ w1.heap.size = C.b ∧ ¬ w1.heap.size = w.heap.size := by omega
 by_cases n1 : (tok C.ts (k + 1)).kind = 1
 rotate_left
 ·skip
  go_wp2_with fail
  refine (name_no C ok (k + 1) h _ ⟨#[100, 101, 99, 108]⟩ (pw2 ‹_›) n1).mono ?_
  rintro e w2 ⟨rfl, hgq⟩
  exact ⟨rfl, npost_bad (by rw [← unhide HR]; simp only [fTypeDecl, ub, eq_false n1]) (grown_trans (gw2 ‹_›) (grown_any hgq))⟩
 have Hn1 := hide n1
 clear n1
 go_wp2_with fail
 refine (name_yes C ok (k + 1) h _ ⟨#[100, 101, 99, 108]⟩ (pw2 ‹_›) (unhide Hn1)).mono ?_
 rintro e w2 ⟨rfl, p2, hg⟩
 have G2 : w.grownBy w2 (some C.b) := grown_trans (gw2 ‹_›) hg
 have bl0_2 : BL w2 (w.heap.size) (nd0) := BL.grown (bw2 ‹_›) hg (by omega)
 have bl1_2 : BL w2 (w1.heap.size) (nqC 2 ⟨#[]⟩ 0 (tok C.ts k).pos none 0 0) := BL.grown (bw0 (by omega)) hg (by omega)
 have zc1_2 := bl1_2.cell
 have fz1_2 := bl1_2.frozen
 clear bl0_1
 clear p1
 clear hg
 by_cases c1 : isS C.ts (k + 1 + 1) [[115, 116, 114, 117, 99, 116]] = true
 rotate_left
 ·skip
  go_wp2_with fail
  refine (want_no C ok (k + 1 + 1) h _ ⟨#[100, 101, 99, 108]⟩ [115, 116, 114, 117, 99, 116] (pw3 ‹_› ok (by simp <;> omega)) (Bool.eq_false_iff.2 c1)).mono ?_
  rintro e w3 ⟨rfl, hgq⟩
  exact ⟨rfl, npost_bad (by rw [← unhide HR]; simp only [fTypeDecl, ub, eq_true (unhide Hn1), eq_false c1]) (grown_trans (gw3 ‹_› (by simp <;> omega)) (grown_any hgq))⟩
 go_wp2_with fail
 refine (want_yes C ok (k + 1 + 1) h _ ⟨#[100, 101, 99, 108]⟩ [115, 116, 114, 117, 99, 116] (pw3 ‹_› ok (by simp <;> omega)) c1).mono ?_
 rintro e w3 ⟨rfl, p3, hg⟩
 have G3 : w.grownBy w3 (some C.b) := grown_trans (gw3 ‹_› (by simp <;> omega)) hg
 have bl0_3 : BL w3 (w.heap.size) (nd0) := BL.grown (bw3 ‹_› (by omega)) hg (by omega)
 have bl1_3 : BL w3 (w1.heap.size) (nqC 2 ⟨(tok C.ts (k + 1)).text.toArray⟩ 0 (tok C.ts k).pos none 0 0) := BL.grown (by apply BL.put2 ‹_›; simp) hg (by omega)
 clear bl0_2
 clear bl1_2 zc1_2 fz1_2
 clear p2
 clear hg
 by_cases c2 : isS C.ts (k + 1 + 1 + 1) [[123]] = true
 rotate_left
 ·skip
  go_wp2_with fail
  refine (want_no C ok (k + 1 + 1 + 1) h _ ⟨#[100, 101, 99, 108]⟩ [123] ‹_› (Bool.eq_false_iff.2 c2)).mono ?_
  rintro e w4 ⟨rfl, hgq⟩
  exact ⟨rfl, npost_bad (by rw [← unhide HR]; simp only [fTypeDecl, ub, eq_true (unhide Hn1), eq_true c1, eq_false c2]) (grown_trans ‹_› (grown_any hgq))⟩
 go_wp2_with fail
 refine (want_yes C ok (k + 1 + 1 + 1) h _ ⟨#[100, 101, 99, 108]⟩ [123] ‹_› c2).mono ?_
 rintro e w4 ⟨rfl, p4, hg⟩
 have G4 : w.grownBy w4 (some C.b) := grown_trans ‹_› hg
 have bl0_4 : BL w4 (w.heap.size) (nd0) := BL.grown ‹_› hg (by omega)
 have bl1_4 : BL w4 (w1.heap.size) (nqC 2 ⟨(tok C.ts (k + 1)).text.toArray⟩ 0 (tok C.ts k).pos none 0 0) := BL.grown ‹_› hg (by omega)
 have hl1_4 := bl1_4.lt
 clear bl0_3
 clear bl1_3
 clear p3
 clear hg
 have hb1 : w1.heap.size + 1 ≤ w4.heap.size := (by have := bl1_4.lt; omega)
 have HR0 : Hid ((run C.ts n (.fieldsMore []) h (k + 1 + 1 + 1 + 1)).bind (fun l _ k5 => R.ok [nd 2 (tok C.ts (k + 1)).text (tok C.ts k).pos l] 0 k5) = r0) := hide (by rw [← unhide HR]; simp only [fTypeDecl, want, wantName, if_true, eq_true (unhide Hn1), eq_true c1, eq_true c2])
 go_wp2
 go_loopg [17] n (fun gk _ wr => ∃ (acc : List Tree) (k' : Nat) (ao : Option Addr) (cp : Nat), PS wr C k' h ∧ BL wr w.heap.size nd0 ∧ BL wr w1.heap.size (.cells #[.int .i64 2, .string ⟨(tok C.ts (k + 1)).text.toArray⟩, .int .i64 0, .int .i64 (tok C.ts k).pos, .string ⟨#[]⟩, .int .i64 0, .slice ao acc.length cp] 24) ∧ RowI wr (w1.heap.size + 1) wr.heap.size (.slice ao acc.length cp) acc ∧ w.grownBy wr (some C.b) ∧ Hid ((run C.ts gk (.fieldsMore acc) h k').bind (fun l _ k5 => R.ok [nd 2 (tok C.ts (k + 1)).text (tok C.ts k).pos l] 0 k5) = r0) ∧ gk ≤ n ∧ acc.length ≤ k' ∧ w1.heap.size + 1 ≤ wr.heap.size)
 case atStart => exact ⟨[], k + 1 + 1 + 1 + 1, none, 0, ‹_›, ‹_›, by show BL _ w1.heap.size (.cells #[.int .i64 2,.string ⟨(tok C.ts (k + 1)).text.toArray⟩,.int .i64 0,.int .i64 (tok C.ts k).pos,.string ⟨#[]⟩,.int .i64 0,.slice none 0 0] 24); assumption, RowI.nil _ _ _, ‹_›, HR0, Nat.le_refl _, Nat.zero_le _, by omega⟩
 case round =>
  clear HR bl0_4 bl1_4 p4 HR0
  obtain ⟨acc, k0, ao0, cp0, p0, bl0_0, bl1_0, row0, Gr, HRr, hle, hacc, hzw⟩ := hrel
  obtain ⟨m, rfl⟩ : ∃ m, gk = m + 1 := (by cases gk with | zero => exact absurd (unhide HRr).symm (unhide HO) | succ m => exact ⟨m, rfl⟩)
  have HR : Hid ((fFieldsMore C.ts (run C.ts m) acc h k0).bind (fun l _ k5 => R.ok [nd 2 (tok C.ts (k + 1)).text (tok C.ts k).pos l] 0 k5) = r0) := unhide HRr
  have hkl0 := p0.kl
  have ihm := ih m (by omega)
  clear HRr p
  have p4 := p0
  clear p0
  by_cases c3 : isS C.ts k0 [[125]] = true
  ·skip
   go_wp2_with fail
   refine (skip_yes C ok k0 h _ [125] ‹_› c3).mono ?_
   rintro e w5 ⟨rfl, p5, hg⟩
   have hz5 := hg.size
   (try simp at hz5)
   have G5 : w.grownBy w5 (some C.b) := grown_trans ‹_› hg
   replace row0 := RowI.ag row0 (Ag.grown aw0 hg (by omega) (by omega)) (Nat.le_refl _) (Nat.le_refl _)
   have bl0_5 : BL w5 (w.heap.size) (nd0) := BL.grown ‹_› hg (by omega)
   have zc0_5 := bl0_5.cell
   have fz0_5 := bl0_5.frozen
   have bl1_5 : BL w5 (w1.heap.size) (nqC 2 ⟨(tok C.ts (k + 1)).text.toArray⟩ 0 (tok C.ts k).pos ao0 acc.length cp0) := BL.grown ‹_› hg (by omega)
   have zc1_5 := bl1_5.cell
   clear bl0_0
   clear bl1_0
   clear p4
   clear hg
   go_wp2
   refine bodyPost_ret (v := .agg #[.int .i64 2, .string ⟨(tok C.ts (k + 1)).text.toArray⟩, .int .i64 0, .int .i64 (tok C.ts k).pos, .string ⟨#[]⟩, .int .i64 0, .slice ao0 acc.length cp0]) (by simp [results, Tryz.results57, go_sem, *]) rfl (npost_ok (hi := wr.heap.size) (s := 0) (k' := k0 + 1) (tx := (tok C.ts (k + 1)).text) (kids := acc)  (by rw [← unhide HR]; simp only [fFieldsMore, ub, eq_true c3]) (row0.ag (aw7 aw0 (by first | omega | (simp <;> omega))) (by omega) (Nat.le_refl _)) (by simp <;> omega) ?_ ?_)
   ·exact pw7 ‹_› ok (by first | omega | (simp <;> omega))
   ·exact gw7 ‹_› (by first | omega | (simp <;> omega))
  go_wp2_with fail
  refine (skip_no C ok k0 h _ [125] ‹_› (Bool.eq_false_iff.2 c3)).mono ?_
  rintro e w5 ⟨rfl, hgq⟩
  have p5 := PS.quiet (C := C) (k := k0) (h := h) ‹_› hgq
  have hg := grown_any (r := some C.b) hgq
  clear hgq
  have hz5 := hg.size
  (try simp at hz5)
  have G5 : w.grownBy w5 (some C.b) := grown_trans ‹_› hg
  replace row0 := RowI.ag row0 (Ag.grown aw0 hg (by omega) (by omega)) (Nat.le_refl _) (Nat.le_refl _)
  have bl0_5 : BL w5 (w.heap.size) (nd0) := BL.grown ‹_› hg (by omega)
  have bl1_5 : BL w5 (w1.heap.size) (nqC 2 ⟨(tok C.ts (k + 1)).text.toArray⟩ 0 (tok C.ts k).pos ao0 acc.length cp0) := BL.grown ‹_› hg (by omega)
  have hl1_5 := bl1_5.lt
  have zc1_5 := bl1_5.cell
  clear bl0_0
  clear bl1_0
  clear p4
  clear hg
  go_wp2
  go_region_law (first | (refine step_app rfl (.tmp 20) (.tmp 23) rfl (lo := w1.heap.size + 1) (hi := wr.heap.size) (ao := ao0) (cp := cp0) (l := acc) (t := .mk kd6 tx6 nm6 ps6 kids6) (A := lo6) (B := w6.heap.size) (g0 := w6.heap.size) (cur := #[.int .i64 kd6, .string ⟨tx6.toArray⟩, .int .i64 nm6, .int .i64 ps6, .string ⟨#[]⟩, .int .i64 0, .slice ao6 kids6.length cp6]) (by simp [Act.eval]) (RowI.ag row0 (aw2 aw0 (by omega)) (Nat.le_refl _) (Nat.le_refl _)) (by simp [Act.eval]) (bw0 (by omega)) ((Nd.mk (kd := kd6) (tx := tx6) (nm := nm6) (ps := ps6) row6).ag (aw2 aw0 (by simp <;> omega))) rfl one7 (by omega) (by simp <;> omega) (by simp <;> omega) (by omega) (by simp <;> omega) (by omega) ?_; intro g7 cp7 w7 hrw7 hgA hat7 hgl7; have hob := row0.own; have hz7 := hgA.size; (try simp at hz7); (try simp at hat7); have G7 : w.grownBy w7 (some C.b) := grown_own (gw2 ‹_›) hgA (fun x hx => by have := hob x hx; omega); have p7 := PS.own (C := C) (k := k6) (h := h) (pw2 ‹_›) ok hgA (fun x hx => by have := hob x hx; omega); have bl0_7 : BL w7 (w.heap.size) (nd0) := BL.own (bw2 ‹_›) hgA (fun e => by have := hob _ e.symm; omega); have hl0_7 := bl0_7.lt; have zc0_7 := bl0_7.cell; have fz0_7 := bl0_7.frozen; have bl1_7 : BL w7 (w1.heap.size) (.cells #[.int .i64 2, .string ⟨(tok C.ts (k + 1)).text.toArray⟩, .int .i64 0, .int .i64 (tok C.ts k).pos, .string ⟨#[]⟩, .int .i64 0, .slice ao0 acc.length cp0] 24) := BL.own (bw2 ‹_›) hgA (fun e => by have := hob _ e.symm; omega); have hl1_7 := bl1_7.lt; have zc1_7 := bl1_7.cell; have fz1_7 := bl1_7.frozen; clear bl0_6 zc0_6 fz0_6; clear bl1_6 zc1_6 fz1_6; clear p6 hgA hob; have ne19 : ¬ C.b = w7.heap.size := (by omega); have nf19 : ¬ w7.heap.size = C.b := (by omega); have ne20 : ¬ w.heap.size = w7.heap.size := (by omega); have nf20 : ¬ w7.heap.size = w.heap.size := (by omega); have ne21 : ¬ w1.heap.size = w7.heap.size := (by omega); have nf21 : ¬ w7.heap.size = w1.heap.size := (by omega)) | (go_simp; go_at_call 59; (refine (ihm.named 5 h k0 _ (pw1 ‹_›) (fun hx => unhide HO ((unhide HR).symm.trans (by simp only [fFieldsMore, ub, eq_false c3, hx])))).mono ?_; rintro e w6 hp; rcases hp with ⟨kd6, tx6, nm6, ps6, kids6, s6, k6, ao6, cp6, hq, rfl, hrow, p6, hg⟩ | ⟨pb, rule, hq, rfl, hg⟩; rotate_left; (exact ⟨rfl, npost_bad (by rw [← unhide HR]; simp only [fFieldsMore, ub, eq_false c3, hq]) (grown_trans (gw1 ‹_›) hg)⟩); have hz6 := hg.size; (try simp at hz6); have G6 : w.grownBy w6 (some C.b) := grown_trans (gw1 ‹_›) hg; replace row0 := RowI.ag row0 (Ag.grown (aw1 aw0) hg (by simp <;> omega) (by omega)) (Nat.le_refl _) (Nat.le_refl _); have bl0_6 : BL w6 (w.heap.size) (nd0) := BL.grown (bw1 ‹_›) hg (by omega); have hl0_6 := bl0_6.lt; have zc0_6 := bl0_6.cell; have fz0_6 := bl0_6.frozen; have bl1_6 : BL w6 (w1.heap.size) (.cells #[.int .i64 2, .string ⟨(tok C.ts (k + 1)).text.toArray⟩, .int .i64 0, .int .i64 (tok C.ts k).pos, .string ⟨#[]⟩, .int .i64 0, .slice ao0 acc.length cp0] 24) := BL.grown (bw1 ‹_›) hg (by omega); have hl1_6 := bl1_6.lt; have zc1_6 := bl1_6.cell; have fz1_6 := bl1_6.frozen; clear bl0_5; clear bl1_5 zc1_5; clear p5; obtain ⟨lo6, hlo6, row6⟩ := hrow.named; (try simp at hlo6); have HQ6 := hide hq; clear hrow hq; clear hg; have ne16 : ¬ C.b = w6.heap.size := (by omega); have nf16 : ¬ w6.heap.size = C.b := (by omega); have ne17 : ¬ w.heap.size = w6.heap.size := (by omega); have nf17 : ¬ w6.heap.size = w.heap.size := (by omega); have ne18 : ¬ w1.heap.size = w6.heap.size := (by omega); have nf18 : ¬ w6.heap.size = w1.heap.size := (by omega); skip)))
  all_goals
   have hmono := run_fine C.ts m (.named 5) h k0 _ s6 k6 (unhide HQ6)
   simp only [st, bnd] at hmono
   have hmon := hmono.1
   clear hmono
   have rowz : RowI (w7.setCell ⟨w1.heap.size, 6, none⟩ (.slice (some ⟨g7, 0, none⟩) (acc.length + 1) cp7)) (w1.heap.size + 1) w7.heap.size (.slice (some ⟨g7, 0, none⟩) (acc.length + 1) cp7) (acc ++ [.mk kd6 tx6 nm6 ps6 kids6]) := RowI.wide (hrw7 _ (by simp <;> omega) (Ag.one (aw3 aw0 (by simp <;> omega))) (aw3 aw0 (by simp <;> omega)) (aw3 aw0 (by simp <;> omega))) (Nat.le_refl _) (by simp)
   by_cases cw : isS C.ts k6 [[59]] = true
   rotate_left
   ·skip
    go_wp2_with fail
    refine (want_no C ok k6 h _ ⟨#[102, 105, 101, 108, 100]⟩ [59] (pw3 ‹_› ok (by simp <;> omega)) (Bool.eq_false_iff.2 cw)).mono ?_
    rintro e w8 ⟨rfl, hgq⟩
    exact ⟨rfl, npost_bad (by rw [← unhide HR]; simp only [fFieldsMore, ub, eq_false c3, unhide HQ6, eq_false cw]) (grown_trans (gw3 ‹_› (by simp <;> omega)) (grown_any hgq))⟩
   go_wp2_with fail
   refine (want_yes C ok k6 h _ ⟨#[102, 105, 101, 108, 100]⟩ [59] (pw3 ‹_› ok (by simp <;> omega)) cw).mono ?_
   rintro e w8 ⟨rfl, p8, hg⟩
   have rowy := RowI.ag rowz (Ag.grown (Ag.refl _ _ _) hg (by simp <;> omega) (by omega)) (Nat.le_refl _) (Nat.le_refl _)
   have hz8 := hg.size
   (try simp at hz8)
   have G8 : w.grownBy w8 (some C.b) := grown_trans (gw3 ‹_› (by simp <;> omega)) hg
   have bl0_8 : BL w8 (w.heap.size) (nd0) := BL.grown (bw3 ‹_› (by omega)) hg (by omega)
   have bl1_8 : BL w8 (w1.heap.size) (nqC 2 ⟨(tok C.ts (k + 1)).text.toArray⟩ 0 (tok C.ts k).pos (some ⟨g7, 0, none⟩) (acc.length + 1) cp7) := BL.grown (by apply BL.put2 ‹_›; simp) hg (by omega)
   have hl1_8 := bl1_8.lt
   clear bl0_7 zc0_7 fz0_7
   clear bl1_7 zc1_7 fz1_7
   clear p7
   clear hg
   go_wp2
   go_roundg m
   case measure => omega
   case rel => exact ⟨acc ++ [.mk kd6 tx6 nm6 ps6 kids6], k6 + 1, some ⟨g7, 0, none⟩, cp7, ‹_›, ‹_›, by simpa using bl1_8, by simpa using RowI.wide (hi' := w8.heap.size) rowy (Nat.le_refl _) (by omega), ‹_›, hide (by rw [← unhide HR]; simp only [fFieldsMore, ub, eq_false c3, unhide HQ6, eq_true cw]), by omega, by simp; omega, by omega⟩
open Go.RowKit Lx Px
set_option maxHeartbeats 4000000 in
theorem opOf_w (C : Ctx) (ok : C.Ok) (n : Nat) (ih : All C n) (kd : Int) (tx : List UInt8) (nm ps : Int) (kids : List Tree) (least : Int) (ao : Option Addr) (cp : Nat) (hleast : 1 ≤ least) : CLd C 113 (.opOf (.mk kd tx nm ps kids) least) #[.pointer (some ⟨C.b, 0, none⟩), .agg #[.int .i64 kd, .string ⟨tx.toArray⟩, .int .i64 nm, .int .i64 ps, .string ⟨#[]⟩, .int .i64 0, .slice ao kids.length cp], .int .i64 least] kids ao cp NPost (n + 1) := by
 intro h k w lo hi p hblo hhi hlow rowa hout
 have hr : run C.ts (n + 1) (.opOf (.mk kd tx nm ps kids) least) h k = run C.ts (n + 1) (.opOf (.mk kd tx nm ps kids) least) h k := rfl
 rw [hr] at hout ⊢
 clear hr
 generalize hR : run C.ts (n + 1) (.opOf (.mk kd tx nm ps kids) least) h k = r0 at hout ⊢
 have hbl := p.lt
 have G0 := grown_refl w (some C.b)
 have HR := hide hR
 clear hR
 have HO := hide hout
 clear hout
 go_enter Tryz.func113, Tryz.ntmps113
 go_wp2
 go_loopg [10] (n + 1) (fun gk _ wr => ∃ (kdx : Int) (txx : List UInt8) (nmx psx : Int) (kidsx : List Tree) (k' : Nat) (aox : Option Addr) (cpx : Nat), PS wr C k' h ∧ BL wr w.heap.size (.cells #[.int .i64 kdx, .string ⟨txx.toArray⟩, .int .i64 nmx, .int .i64 psx, .string ⟨#[]⟩, .int .i64 0, .slice aox kidsx.length cpx] 24) ∧ BL wr (w.heap.size + 1) nd0 ∧ RowJ wr lo hi (w.heap.size + 2) wr.heap.size (.slice aox kidsx.length cpx) kidsx ∧ w.grownBy wr (some C.b) ∧ Hid (run C.ts gk (.opOf (.mk kdx txx nmx psx kidsx) least) h k' = r0) ∧ gk ≤ n + 1 ∧ w.heap.size + 2 ≤ wr.heap.size)
 case atStart => exact ⟨kd, tx, nm, ps, kids, k, ao, cp, (pw2 (pw2 ‹_›)), (bw2 (bw0 (by omega))), (bw0 (by simp <;> omega)), RowJ.of (rowa.ag (aw2 (aw2 aw0 (by omega)) (by simp <;> omega)) (Nat.le_refl _) (Nat.le_refl _)) _ _, (gw2 (gw2 ‹_›)), HR, Nat.le_refl _, by simp⟩
 case round =>
  obtain ⟨kdx, txx, nmx, psx, kidsx, k0, aox, cpx, p0, bl0_0, bl1_0, rowl, Gr, HRr, hle, hzw⟩ := hrel
  obtain ⟨m, rfl⟩ : ∃ m, gk = m + 1 := (by cases gk with | zero => exact absurd (unhide HRr).symm (unhide HO) | succ m => exact ⟨m, rfl⟩)
  clear HR rowa
  have HR : Hid (fOpOf C.ts (run C.ts m) (.mk kdx txx nmx psx kidsx) least h k0 = r0) := unhide HRr
  have ihm := ih m (by omega)
  clear HRr p
  go_wp2_with fail
  refine (sign_any C ok k0 h _ ‹_›).mono ?_
  rintro e w1 ⟨rfl, hgq⟩
  have p1 := PS.quiet (C := C) (k := k0) (h := h) ‹_› hgq
  have hg := grown_any (r := some C.b) hgq
  clear hgq
  replace rowl := RowJ.ag rowl (Ag.grown aw0 hg (by omega) (by omega)) (Ag.grown aw0 hg (by omega) (by omega)) (Nat.le_refl _)
  have hz1 := hg.size
  (try simp at hz1)
  have G1 : w.grownBy w1 (some C.b) := grown_trans ‹_› hg
  have bl0_1 : BL w1 (w.heap.size) (nqC kdx ⟨txx.toArray⟩ nmx psx aox kidsx.length cpx) := BL.grown ‹_› hg (by omega)
  have bl1_1 : BL w1 (w.heap.size + 1) (nd0) := BL.grown ‹_› hg (by omega)
  have hl1_1 := bl1_1.lt
  clear bl0_0
  clear bl1_0
  clear hg
  have ⟨nf1, nf2, ne4⟩ : ¬ w.heap.size = C.b ∧ ¬ w.heap.size + 1 = C.b ∧ ¬ w.heap.size = w.heap.size + 1 := by omega
  clear p0
  go_wp2_with fail
  refine (strength_any (sign C.ts k0) _).mono ?_
  rintro e w2 ⟨rfl, hgq⟩
  have p2 := PS.quiet (C := C) (k := k0) (h := h) ‹_› hgq
  have hg := grown_any (r := some C.b) hgq
  clear hgq
  replace rowl := RowJ.ag rowl (Ag.grown aw0 hg (by omega) (by omega)) (Ag.grown aw0 hg (by omega) (by omega)) (Nat.le_refl _)
  have hz2 := hg.size
  (try simp at hz2)
  have G2 : w.grownBy w2 (some C.b) := grown_trans ‹_› hg
  have bl0_2 : BL w2 (w.heap.size) (nqC kdx ⟨txx.toArray⟩ nmx psx aox kidsx.length cpx) := BL.grown ‹_› hg (by omega)
  have zc0_2 := bl0_2.cell
  have bl1_2 : BL w2 (w.heap.size + 1) (nd0) := BL.grown ‹_› hg (by omega)
  have hl1_2 := bl1_2.lt
  have zc1_2 := bl1_2.cell
  have fz1_2 := bl1_2.frozen
  clear bl0_1
  clear bl1_1
  clear p1
  clear hg
  have hsb := strength_bd (sign C.ts k0)
  obtain ⟨hsb1, hsb2⟩ := hsb
  by_cases cl : least ≤ strength (sign C.ts k0)
  rotate_left
  ·skip
   have hlt2 : strength (sign C.ts k0) < least := by omega
   clear cl
   go_wp2
   refine bodyPost_ret (v := .agg #[.int .i64 kdx, .string ⟨txx.toArray⟩, .int .i64 nmx, .int .i64 psx, .string ⟨#[]⟩, .int .i64 0, .slice aox kidsx.length cpx]) (by simp [results, Tryz.results113, go_sem, *]) rfl (npost_ok (hi := w2.heap.size) (s := 0) (k' := k0) (tx := txx) (kids := kidsx)  (by rw [← unhide HR]; simp only [fOpOf, ub, eq_false (show ¬ least ≤ strength (sign C.ts k0) from by omega)]) (RowJ.toI (z := w2.heap.size) (RowJ.ag rowl (aw8 aw0 (by first | omega | (simp <;> omega))) (aw7 aw0 (by first | omega | (simp <;> omega))) (Nat.le_refl _)) (by omega) (by omega) (by omega)) (by simp <;> omega) ?_ ?_)
   ·exact pw7 ‹_› ok (by first | omega | (simp <;> omega))
   ·exact gw7 ‹_› (by first | omega | (simp <;> omega))
  obtain ⟨h6, hst⟩ := strength_ne (ts := C.ts) (k := k0) (by omega)
  have H6 := hide h6
  clear h6 hst
  go_wp2_with fail
  refine (take_any C ok k0 h _ ‹_› (unhide H6)).mono ?_
  rintro e w3 ⟨rfl, p3, hg⟩
  replace rowl := RowJ.ag rowl (Ag.grown aw0 hg (by omega) (by omega)) (Ag.grown aw0 hg (by omega) (by omega)) (Nat.le_refl _)
  have hz3 := hg.size
  (try simp at hz3)
  have G3 : w.grownBy w3 (some C.b) := grown_trans ‹_› hg
  have bl0_3 : BL w3 (w.heap.size) (nqC kdx ⟨txx.toArray⟩ nmx psx aox kidsx.length cpx) := BL.grown ‹_› hg (by omega)
  have bl1_3 : BL w3 (w.heap.size + 1) (nd0) := BL.grown ‹_› hg (by omega)
  have hl1_3 := bl1_3.lt
  clear bl0_2 zc0_2
  clear bl1_2 zc1_2 fz1_2
  clear p2
  clear hg
  have nf10 : ¬ w3.heap.size = C.b := by omega
  go_wp2_with fail
  refine (strength_any (tok C.ts k0).text _).mono ?_
  rintro e w4 ⟨rfl, hgq⟩
  have p4 := PS.quiet (C := C) (k := (k0 + 1)) (h := h) (pw2 ‹_›) hgq
  have hg := grown_any (r := some C.b) hgq
  clear hgq
  replace rowl := RowJ.ag rowl (Ag.grown (aw2 aw0 (by omega)) hg (by simp <;> omega) (by omega)) (Ag.grown (aw2 aw0 (by omega)) hg (by simp <;> omega) (by omega)) (Nat.le_refl _)
  have hz4 := hg.size
  (try simp at hz4)
  have G4 : w.grownBy w4 (some C.b) := grown_trans (gw2 ‹_›) hg
  have bl0_4 : BL w4 (w.heap.size) (nqC kdx ⟨txx.toArray⟩ nmx psx aox kidsx.length cpx) := BL.grown (bw2 ‹_›) hg (by omega)
  have bl1_4 : BL w4 (w.heap.size + 1) (nd0) := BL.grown (bw2 ‹_›) hg (by omega)
  have hl1_4 := bl1_4.lt
  have bl2_4 : BL w4 (w3.heap.size) (.cells #[.int .i64 (tok C.ts k0).kind, .string ⟨(tok C.ts k0).text.toArray⟩, .int .i64 (tok C.ts k0).num, .int .i64 (tok C.ts k0).pos] 36) := BL.grown (bw0 (by omega)) hg (by omega)
  clear bl0_3
  clear bl1_3
  clear p3
  clear hg
  obtain ⟨hsc1, hsc2⟩ := strength_bd (tok C.ts k0).text
  go_wp2_with fail
  refine (ihm.op (strength (tok C.ts k0).text + 1) (by omega) h (k0 + 1) _ ‹_› (fun hx => unhide HO ((unhide HR).symm.trans (by simp only [fOpOf, ub, eq_true (show least ≤ strength (sign C.ts k0) from by omega), hx])))).mono ?_
  rintro e w5 hp
  rcases hp with ⟨kd5, tx5, nm5, ps5, kids5, s5, k5, ao5, cp5, hq, rfl, hrow, p5, hg⟩ | ⟨pb, rule, hq, rfl, hg⟩
  rotate_left
  (exact ⟨rfl, npost_bad (by rw [← unhide HR]; simp only [fOpOf, ub, eq_true (show least ≤ strength (sign C.ts k0) from by omega), hq]) (grown_trans ‹_› hg)⟩)
  replace rowl := RowJ.ag rowl (Ag.grown aw0 hg (by omega) (by omega)) (Ag.grown aw0 hg (by omega) (by omega)) (Nat.le_refl _)
  have G5 : w.grownBy w5 (some C.b) := grown_trans ‹_› hg
  have bl0_5 : BL w5 (w.heap.size) (nqC kdx ⟨txx.toArray⟩ nmx psx aox kidsx.length cpx) := BL.grown ‹_› hg (by omega)
  have hl0_5 := bl0_5.lt
  have zc0_5 := bl0_5.cell
  have fz0_5 := bl0_5.frozen
  have bl1_5 : BL w5 (w.heap.size + 1) (nd0) := BL.grown ‹_› hg (by omega)
  have hl1_5 := bl1_5.lt
  have bl2_5 : BL w5 (w3.heap.size) (.cells #[.int .i64 (tok C.ts k0).kind, .string ⟨(tok C.ts k0).text.toArray⟩, .int .i64 (tok C.ts k0).num, .int .i64 (tok C.ts k0).pos] 36) := BL.grown ‹_› hg (by omega)
  have hl2_5 := bl2_5.lt
  have zc2_5 := bl2_5.cell
  clear bl0_4
  clear bl1_4
  clear bl2_4
  clear p4
  obtain ⟨lo5, hlo5, row5⟩ := hrow.named
  (try simp at hlo5)
  have HQ5 := hide hq
  clear hrow hq
  clear hg
  go_wp2
  go_roundg m
  case measure => omega
  case rel => exact ⟨42, (tok C.ts k0).text, 0, (tok C.ts k0).pos, [.mk kdx txx nmx psx kidsx, .mk kd5 tx5 nm5 ps5 kids5], k5, some ⟨w5.heap.size + 1, 0, none⟩, 2, (pw2 (pw2 (pw7 ‹_› ok (by first | omega | (simp <;> omega))))), by show BL _ w.heap.size (.cells #[.int .i64 42, .string ⟨(tok C.ts k0).text.toArray⟩, .int .i64 0, .int .i64 (tok C.ts k0).pos, .string ⟨#[]⟩, .int .i64 0, .slice (some ⟨w5.heap.size + 1, 0, none⟩) 2 2] 24); exact bw2 (bw2 (by apply BL.put7 ‹_›; rfl)), (bw2 (bw2 (bw7 ‹_› (by first | omega | (simp <;> omega))))), rowJ2 (b := wr.heap.size) (cur := #[.int .i64 kdx, .string ⟨txx.toArray⟩, .int .i64 nmx, .int .i64 psx, .string ⟨#[]⟩, .int .i64 0, .slice aox kidsx.length cpx, .int .i64 kd5, .string ⟨tx5.toArray⟩, .int .i64 nm5, .int .i64 ps5, .string ⟨#[]⟩, .int .i64 0, .slice ao5 kids5.length cp5]) (bw0 (by simp <;> omega)) (RowJ.nd (RowJ.ag rowl (aw2 (aw2 (aw8 aw0 (by first | omega | (simp <;> omega))) (by simp <;> omega)) (by simp <;> omega)) (aw2 (aw2 (aw7 aw0 (by first | omega | (simp <;> omega))) (by simp <;> omega)) (by simp <;> omega)) (Nat.le_refl _))) ((Nd.mk (kd := kd5) (tx := tx5) (nm := nm5) (ps := ps5) row5).ag (aw2 (aw2 (aw7 aw0 (by first | omega | (simp <;> omega))) (by simp <;> omega)) (by simp <;> omega))) rfl rfl (by omega) (by omega) (by omega) (by omega) (by simp <;> omega) (by omega) (by omega), (gw2 (gw2 (gw7 ‹_› (by first | omega | (simp <;> omega))))), hide (by rw [← unhide HR]; simp only [fOpOf, ub, eq_true (show least ≤ strength (sign C.ts k0) from by omega), unhide HQ5]), by omega, (by simp <;> omega)⟩
end Go.Proofs.YtgckmkiiheaeaaaGreatDoor
