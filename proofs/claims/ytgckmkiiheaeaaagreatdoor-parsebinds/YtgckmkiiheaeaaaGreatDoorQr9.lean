import Derived.Test.YtgckmkiiheaeaaaGreatDoorQg
import Derived.Test.YtgckmkiiheaeaaaGreatDoorParW
import Derived.Test.YtgckmkiiheaeaaaGreatDoorParB
set_option linter.unusedVariables false
set_option linter.unusedSimpArgs false
set_option maxRecDepth 100000
namespace Go.Proofs.YtgckmkiiheaeaaaGreatDoor
open Go.RowKit Go.Proofs.YtgckmkiiheaeaaaGreatDoor.Lx Go.Proofs.YtgckmkiiheaeaaaGreatDoor.Px
set_option maxHeartbeats 4000000 in
theorem switch_1_w (C : Ctx) (ok : C.Ok) (n : Nat) (ih : All C n) : ∀ (h : Bool) (k : Nat) (w : World), PS w C k h → (tok C.ts k).kind ≠ 6 → (isS C.ts (k + 1) [[123]] = true) → run C.ts (n + 1) .switchStmt h k ≠ .out → Calls Tryz.prog 96 #[.pointer (some ⟨C.b, 0, none⟩)] w (NPost C w.heap.size (run C.ts (n + 1) .switchStmt h k) h w) := by
 intro h k w p h6 c1 hout
 have hr : run C.ts (n + 1) .switchStmt h k = fSwitchStmt C.ts (run C.ts n) h k := rfl
 rw [hr] at hout ⊢
 clear hr
 generalize hR : fSwitchStmt C.ts (run C.ts n) h k = r0 at hout ⊢
 have H6 := hide h6
 clear h6
 have hbl := p.lt
 have htb := ok.lt
 have htf0 := tokF0
 have htf1 := tokF1
 have htf3 := tokF3
 have hmf := hmfL
 have G0 := grown_refl w (some C.b)
 have HR := hide hR
 clear hR
 have HO := hide hout
 clear hout
 go_enter Tryz.func96, Tryz.ntmps96
 go_wp2_with fail
 refine (take_any C ok k h _ (pw2 (by go_wf)) (unhide H6)).mono ?_
 rintro e w1 ⟨rfl, p1, hg⟩
 have hz1 := hg.size
 (try simp at hz1)
 have G1 : w.grownBy w1 (some C.b) := grown_trans (gw2 (by go_wf)) hg
 have bl0_1 : BL w1 (w.heap.size) (nd0) := BL.grown (bw0 (by omega)) hg (by omega)
 have hl0_1 := bl0_1.lt
 clear hg
 have ne1 : ¬ C.b = w.heap.size := by omega
 have nf1 : ¬ w.heap.size = C.b := by omega
 have ne2 : ¬ C.b = w1.heap.size := by omega
 have nf2 : ¬ w1.heap.size = C.b := by omega
 have ne3 : ¬ w.heap.size = w1.heap.size := by omega
 have nf3 : ¬ w1.heap.size = w.heap.size := by omega
 go_wp2_with fail
 refine (none_any _).mono ?_
 rintro e w2 ⟨rfl, hgq⟩
 have p2 := PS.quiet (C := C) (k := (k + 1)) (h := h) (by go_wf) hgq
 have hg := grown_any (r := some C.b) hgq
 clear hgq
 have hz2 := hg.size
 (try simp at hz2)
 have G2 : w.grownBy w2 (some C.b) := grown_trans (by go_wf) hg
 have bl0_2 : BL w2 (w.heap.size) (nd0) := BL.grown (by go_wf) hg (by omega)
 have hl0_2 := bl0_2.lt
 clear bl0_1
 clear p1
 clear hg
 have ne4 : ¬ C.b = w2.heap.size := by omega
 have nf4 : ¬ w2.heap.size = C.b := by omega
 have ne5 : ¬ w.heap.size = w2.heap.size := by omega
 have nf5 : ¬ w2.heap.size = w.heap.size := by omega
 go_wp2_with fail
 refine (isL C ok (k + 1) h _ (w2.heap.size + 1) [[123]] (by decide) (pw2 (by go_wf)) (by simp)).mono ?_
 rintro e w3 ⟨rfl, hgq⟩
 have p3 := PS.quiet (C := C) (k := (k + 1)) (h := h) (pw2 (by go_wf)) hgq
 have hg := grown_any (r := some C.b) hgq
 clear hgq
 have hz3 := hg.size
 (try simp at hz3)
 have G3 : w.grownBy w3 (some C.b) := grown_trans (gw2 (by go_wf)) hg
 have bl0_3 : BL w3 (w.heap.size) (nd0) := BL.grown (bw2 (by go_wf)) hg (by omega)
 have hl0_3 := bl0_3.lt
 have bl1_3 : BL w3 (w2.heap.size) (.cells #[.int .i64 8, .string ⟨#[]⟩, .int .i64 0, .int .i64 0, .string ⟨#[]⟩, .int .i64 0, .slice none 0 0] 24) := BL.grown (bw0 (by omega)) hg (by omega)
 have hl1_3 := bl1_3.lt
 have zc1_3 := bl1_3.cell
 clear bl0_2
 clear p2
 clear hg
 have ne6 : ¬ C.b = w3.heap.size := by omega
 have nf6 : ¬ w3.heap.size = C.b := by omega
 have ne7 : ¬ w.heap.size = w3.heap.size := by omega
 have nf7 : ¬ w3.heap.size = w.heap.size := by omega
 have ne8 : ¬ w2.heap.size = w3.heap.size := by omega
 have nf8 : ¬ w3.heap.size = w2.heap.size := by omega
 go_wp2
 go_region_law (first | (have hbx := bx; have hlenj : l4.length ≤ 1000000 := (by have h1 := run_fine C.ts n (.clauses false) h (k + 1) l4 s4 k4 (unhide HQ4); have h2 := ok.few; have h3 := p4.kl; simp only [st, bnd] at h1; omega); refine step_spreadI rfl (.tmp 19) (.tmp 23) rfl (lo := (w.heap.size + 1)) (g1 := w3.heap.size) (u := (w.heap.size + 1)) (v := (w.heap.size + 1)) (A := lo4) (B := w4.heap.size) (t := .mk 8 [] 0 0 []) (cur := #[.int .i64 8, .string ⟨#[]⟩, .int .i64 0, .int .i64 0, .string ⟨#[]⟩, .int .i64 0, .slice none 0 0]) (l := l4) (by simp [Act.eval]) (by (repeat (first | with_reducible assumption | ((with_reducible apply BL.put7); (with_reducible assumption); rfl) | ((with_reducible apply BL.put01); (with_reducible assumption); rfl) | with_reducible refine BL.drew ?_ | (with_reducible refine BL.new ?_; (first | omega | (simp <;> omega))) | with_reducible refine BL.alloc ?_ _ | (with_reducible refine BL.set ?_ _ ?_; rotate_left; (first | omega | (simp <;> omega))) | ((with_reducible apply BL.put2); (with_reducible assumption); (first | rfl | simp))))) rfl (Nd.mk (kd := 8) (tx := []) (nm := 0) (ps := 0) (RowI.nil _ (w.heap.size + 1) (w.heap.size + 1))) (by simp [Act.eval]) (RowI.ag row4 (by (repeat (first | with_reducible exact Ag.refl _ _ _ | with_reducible refine Ag.drew ?_ | with_reducible refine Ag.alloc ?_ _ (by first | (simp <;> omega) | omega) | with_reducible refine Ag.set ?_ _ (by first | (left; simp <;> omega) | (left; omega) | (right; simp <;> omega) | (right; omega) | (dsimp only; omega))))) (Nat.le_refl _) (Nat.le_refl _)) hlenj (by first | omega | (simp <;> omega)) (by first | omega | (simp <;> omega)) (by first | omega | (simp <;> omega)) (by first | omega | (simp <;> omega)) (by first | omega | (simp <;> omega)) (by first | omega | (simp <;> omega)) (by first | omega | (simp <;> omega)) (by first | omega | (simp <;> omega)) ?_; intro g5 cp5 w5 hrw5 hgA hat5 hgl5; have hob : ∀ x, (Value.slice (some ⟨w3.heap.size, 0, none⟩) 1 1).ownBlock = some x → x = w3.heap.size := (fun x hx => by simp only [Value.ownBlock, Option.some.injEq] at hx; omega); have hz5 := hgA.size; (try simp at hz5); (try simp at hat5); have G5 : w.grownBy w5 (some C.b) := grown_own (by (repeat (first | with_reducible assumption | with_reducible exact grown_refl _ _ | with_reducible refine grown_drew ?_ | with_reducible refine grown_alloc ?_ _ | (with_reducible refine grown_set ?_ _ (by first | with_reducible exact Or.inr rfl | (left; simp <;> omega) | (left; omega)))))) hgA (fun x hx => by have := hob x hx; omega); have p5 := PS.own (C := C) (k := k4) (h := h) (by (repeat (first | with_reducible assumption | with_reducible refine PS.drew ?_ | with_reducible refine PS.alloc ?_ _ | with_reducible refine PS.over ?_ ok _ (by first | (simp <;> omega) | omega) | with_reducible exact PS.set2 (by with_reducible assumption) ok))) ok hgA (fun x hx => by have := hob x hx; omega); have bl0_5 : BL w5 (w.heap.size) (nd0) := BL.own (by (repeat (first | with_reducible assumption | ((with_reducible apply BL.put7); (with_reducible assumption); rfl) | ((with_reducible apply BL.put01); (with_reducible assumption); rfl) | with_reducible refine BL.drew ?_ | (with_reducible refine BL.new ?_; (first | omega | (simp <;> omega))) | with_reducible refine BL.alloc ?_ _ | (with_reducible refine BL.set ?_ _ ?_; rotate_left; (first | omega | (simp <;> omega))) | ((with_reducible apply BL.put2); (with_reducible assumption); (first | rfl | simp))))) hgA (fun e => by have := hob _ e.symm; omega); have hl0_5 := bl0_5.lt; have zc0_5 := bl0_5.cell; have fz0_5 := bl0_5.frozen; have bl1_5 : BL w5 (w2.heap.size) (.cells #[.int .i64 8, .string ⟨#[]⟩, .int .i64 0, .int .i64 0, .string ⟨#[]⟩, .int .i64 0, .slice none 0 0] 24) := BL.own (by (repeat (first | with_reducible assumption | ((with_reducible apply BL.put7); (with_reducible assumption); rfl) | ((with_reducible apply BL.put01); (with_reducible assumption); rfl) | with_reducible refine BL.drew ?_ | (with_reducible refine BL.new ?_; (first | omega | (simp <;> omega))) | with_reducible refine BL.alloc ?_ _ | (with_reducible refine BL.set ?_ _ ?_; rotate_left; (first | omega | (simp <;> omega))) | ((with_reducible apply BL.put2); (with_reducible assumption); (first | rfl | simp))))) hgA (fun e => by have := hob _ e.symm; omega); have hl1_5 := bl1_5.lt; have zc1_5 := bl1_5.cell; have fz1_5 := bl1_5.frozen; clear p4 hgA hob; have nz0 : ¬ w.heap.size = w5.heap.size := (by omega); have ny0 : ¬ w5.heap.size = w.heap.size := (by omega); have nz1 : ¬ w2.heap.size = w5.heap.size := (by omega); have ny1 : ¬ w5.heap.size = w2.heap.size := (by omega)) | (have hlenj : l4.length ≤ 1000000 := (by have h1 := run_fine C.ts n (.clauses false) h (k + 1) l4 s4 k4 (unhide HQ4); have h2 := ok.few; have h3 := p4.kl; simp only [st, bnd] at h1; omega); refine step_spreadI rfl (.tmp 19) (.tmp 23) rfl (lo := (w.heap.size + 1)) (g1 := w4.heap.size) (u := (w.heap.size + 1)) (v := (w.heap.size + 1)) (A := lo4) (B := w4.heap.size) (t := .mk 8 [] 0 0 []) (cur := #[.int .i64 8, .string ⟨#[]⟩, .int .i64 0, .int .i64 0, .string ⟨#[]⟩, .int .i64 0, .slice none 0 0]) (l := l4) (by simp [Act.eval]) (by (repeat (first | with_reducible assumption | ((with_reducible apply BL.put7); (with_reducible assumption); rfl) | ((with_reducible apply BL.put01); (with_reducible assumption); rfl) | with_reducible refine BL.drew ?_ | (with_reducible refine BL.new ?_; (first | omega | (simp <;> omega))) | with_reducible refine BL.alloc ?_ _ | (with_reducible refine BL.set ?_ _ ?_; rotate_left; (first | omega | (simp <;> omega))) | ((with_reducible apply BL.put2); (with_reducible assumption); (first | rfl | simp))))) rfl (Nd.mk (kd := 8) (tx := []) (nm := 0) (ps := 0) (RowI.nil _ (w.heap.size + 1) (w.heap.size + 1))) (by simp [Act.eval]) (RowI.ag row4 (by (repeat (first | with_reducible exact Ag.refl _ _ _ | with_reducible refine Ag.drew ?_ | with_reducible refine Ag.alloc ?_ _ (by first | (simp <;> omega) | omega) | with_reducible refine Ag.set ?_ _ (by first | (left; simp <;> omega) | (left; omega) | (right; simp <;> omega) | (right; omega) | (dsimp only; omega))))) (Nat.le_refl _) (Nat.le_refl _)) hlenj (by first | omega | (simp <;> omega)) (by first | omega | (simp <;> omega)) (by first | omega | (simp <;> omega)) (by first | omega | (simp <;> omega)) (by first | omega | (simp <;> omega)) (by first | omega | (simp <;> omega)) (by first | omega | (simp <;> omega)) (by first | omega | (simp <;> omega)) ?_; intro g5 cp5 w5 hrw5 hgA hat5 hgl5; have hob : ∀ x, (Value.slice (some ⟨w4.heap.size, 0, none⟩) 1 1).ownBlock = some x → x = w4.heap.size := (fun x hx => by simp only [Value.ownBlock, Option.some.injEq] at hx; omega); have hz5 := hgA.size; (try simp at hz5); (try simp at hat5); have G5 : w.grownBy w5 (some C.b) := grown_own (by (repeat (first | with_reducible assumption | with_reducible exact grown_refl _ _ | with_reducible refine grown_drew ?_ | with_reducible refine grown_alloc ?_ _ | (with_reducible refine grown_set ?_ _ (by first | with_reducible exact Or.inr rfl | (left; simp <;> omega) | (left; omega)))))) hgA (fun x hx => by have := hob x hx; omega); have p5 := PS.own (C := C) (k := k4) (h := h) (by (repeat (first | with_reducible assumption | with_reducible refine PS.drew ?_ | with_reducible refine PS.alloc ?_ _ | with_reducible refine PS.over ?_ ok _ (by first | (simp <;> omega) | omega) | with_reducible exact PS.set2 (by with_reducible assumption) ok))) ok hgA (fun x hx => by have := hob x hx; omega); have bl0_5 : BL w5 (w.heap.size) (nd0) := BL.own (by (repeat (first | with_reducible assumption | ((with_reducible apply BL.put7); (with_reducible assumption); rfl) | ((with_reducible apply BL.put01); (with_reducible assumption); rfl) | with_reducible refine BL.drew ?_ | (with_reducible refine BL.new ?_; (first | omega | (simp <;> omega))) | with_reducible refine BL.alloc ?_ _ | (with_reducible refine BL.set ?_ _ ?_; rotate_left; (first | omega | (simp <;> omega))) | ((with_reducible apply BL.put2); (with_reducible assumption); (first | rfl | simp))))) hgA (fun e => by have := hob _ e.symm; omega); have hl0_5 := bl0_5.lt; have zc0_5 := bl0_5.cell; have fz0_5 := bl0_5.frozen; have bl1_5 : BL w5 (w2.heap.size) (.cells #[.int .i64 8, .string ⟨#[]⟩, .int .i64 0, .int .i64 0, .string ⟨#[]⟩, .int .i64 0, .slice none 0 0] 24) := BL.own (by (repeat (first | with_reducible assumption | ((with_reducible apply BL.put7); (with_reducible assumption); rfl) | ((with_reducible apply BL.put01); (with_reducible assumption); rfl) | with_reducible refine BL.drew ?_ | (with_reducible refine BL.new ?_; (first | omega | (simp <;> omega))) | with_reducible refine BL.alloc ?_ _ | (with_reducible refine BL.set ?_ _ ?_; rotate_left; (first | omega | (simp <;> omega))) | ((with_reducible apply BL.put2); (with_reducible assumption); (first | rfl | simp))))) hgA (fun e => by have := hob _ e.symm; omega); have hl1_5 := bl1_5.lt; have zc1_5 := bl1_5.cell; have fz1_5 := bl1_5.frozen; clear p4 hgA hob; have nz0 : ¬ w.heap.size = w5.heap.size := (by omega); have ny0 : ¬ w5.heap.size = w.heap.size := (by omega); have nz1 : ¬ w2.heap.size = w5.heap.size := (by omega); have ny1 : ¬ w5.heap.size = w2.heap.size := (by omega)) | (go_simp; go_at_call 106; refine (ih.at.clausesF h (k + 1) _ (by (repeat (first | with_reducible assumption | with_reducible refine PS.drew ?_ | with_reducible refine PS.alloc ?_ _ | with_reducible refine PS.over ?_ ok _ (by first | (simp <;> omega) | omega) | with_reducible exact PS.set2 (by with_reducible assumption) ok))) (fun hx => unhide HO ((unhide HR).symm.trans (by simp only [fSwitchStmt, ub, eq_true c1, hx])))).mono ?_; rintro e w4 hp; rcases hp with ⟨l4, s4, k4, ao4, cp4, hq, rfl, hrow, p4, hg⟩ | ⟨pb, rule, hq, rfl, hg⟩; rotate_left; (exact ⟨rfl, npost_bad (by rw [← unhide HR]; simp only [fSwitchStmt, ub, eq_true c1, hq]) (grown_trans (by (repeat (first | with_reducible assumption | with_reducible exact grown_refl _ _ | with_reducible refine grown_drew ?_ | with_reducible refine grown_alloc ?_ _ | (with_reducible refine grown_set ?_ _ (by first | with_reducible exact Or.inr rfl | (left; simp <;> omega) | (left; omega)))))) hg)⟩); (try ((refine_lift have bx : BL w4 (w3.heap.size) (.cells #[.int .i64 8, .string ⟨#[]⟩, .int .i64 0, .int .i64 0, .string ⟨#[]⟩, .int .i64 0, .slice none 0 0] 24) := ?_; ?_); rotate_left; (focus ((refine BL.grown ?_ hg ?_); (focus (((repeat (first | with_reducible assumption | ((with_reducible apply BL.put7); (with_reducible assumption); rfl) | ((with_reducible apply BL.put01); (with_reducible assumption); rfl) | with_reducible refine BL.drew ?_ | (with_reducible refine BL.new ?_; (first | omega | (simp <;> omega))) | with_reducible refine BL.alloc ?_ _ | (with_reducible refine BL.set ?_ _ ?_; rotate_left; (first | omega | (simp <;> omega))) | ((with_reducible apply BL.put2); (with_reducible assumption); (first | rfl | simp))))); done)); (focus ((first | omega | (simp <;> omega)); done)))); have hlx := bx.lt; have zcx := bx.cell)); have hz4 := hg.size; (try simp at hz4); have G4 : w.grownBy w4 (some C.b) := grown_trans (by (repeat (first | with_reducible assumption | with_reducible exact grown_refl _ _ | with_reducible refine grown_drew ?_ | with_reducible refine grown_alloc ?_ _ | (with_reducible refine grown_set ?_ _ (by first | with_reducible exact Or.inr rfl | (left; simp <;> omega) | (left; omega)))))) hg; have bl0_4 : BL w4 (w.heap.size) (nd0) := BL.grown (by (repeat (first | with_reducible assumption | ((with_reducible apply BL.put7); (with_reducible assumption); rfl) | ((with_reducible apply BL.put01); (with_reducible assumption); rfl) | with_reducible refine BL.drew ?_ | (with_reducible refine BL.new ?_; (first | omega | (simp <;> omega))) | with_reducible refine BL.alloc ?_ _ | (with_reducible refine BL.set ?_ _ ?_; rotate_left; (first | omega | (simp <;> omega))) | ((with_reducible apply BL.put2); (with_reducible assumption); (first | rfl | simp))))) hg (by first | omega | (simp <;> omega)); have hl0_4 := bl0_4.lt; have zc0_4 := bl0_4.cell; have fz0_4 := bl0_4.frozen; have bl1_4 : BL w4 (w2.heap.size) (.cells #[.int .i64 8, .string ⟨#[]⟩, .int .i64 0, .int .i64 0, .string ⟨#[]⟩, .int .i64 0, .slice none 0 0] 24) := BL.grown (by (repeat (first | with_reducible assumption | ((with_reducible apply BL.put7); (with_reducible assumption); rfl) | ((with_reducible apply BL.put01); (with_reducible assumption); rfl) | with_reducible refine BL.drew ?_ | (with_reducible refine BL.new ?_; (first | omega | (simp <;> omega))) | with_reducible refine BL.alloc ?_ _ | (with_reducible refine BL.set ?_ _ ?_; rotate_left; (first | omega | (simp <;> omega))) | ((with_reducible apply BL.put2); (with_reducible assumption); (first | rfl | simp))))) hg (by first | omega | (simp <;> omega)); have hl1_4 := bl1_4.lt; have zc1_4 := bl1_4.cell; have fz1_4 := bl1_4.frozen; clear bl0_3; clear bl1_3 zc1_3; clear p3; obtain ⟨lo4, hlo4, row4⟩ := hrow.named; (try simp at hlo4); have HQ4 := hide hq; clear hrow hq; clear hg; have ne9 : ¬ C.b = w4.heap.size := (by omega); have nf9 : ¬ w4.heap.size = C.b := (by omega); have ne10 : ¬ w.heap.size = w4.heap.size := (by omega); have nf10 : ¬ w4.heap.size = w.heap.size := (by omega); have ne11 : ¬ w2.heap.size = w4.heap.size := (by omega); have nf11 : ¬ w4.heap.size = w2.heap.size := (by omega)))
 all_goals
  go_wp2
  refine bodyPost_ret (v := .agg #[.int .i64 23, .string ⟨#[]⟩, .int .i64 0, .int .i64 (tok C.ts k).pos, .string ⟨#[]⟩, .int .i64 0, .slice (some ⟨g5, 0, none⟩) (l4.length + 1) cp5]) (by simp [results, Tryz.results96, go_sem, *]) rfl (npost_ok (hi := (World.heap _).size) (s := 0) (k' := k4) (tx := []) (kids := (.mk 8 [] 0 0 [] :: l4))  (by rw [← unhide HR]; simp only [fSwitchStmt, ub, eq_true c1, unhide HQ4]) (RowI.ag (hrw5 _ (by simp <;> omega) (Ag.one (aw7 aw0 (by first | omega | (simp <;> omega)))) (aw7 aw0 (by first | omega | (simp <;> omega))) (aw7 aw0 (by first | omega | (simp <;> omega)))) (Ag.refl _ _ _) (by omega) (Nat.le_refl _)) (by omega) ?_ ?_)
  ·exact pw7 (by go_wf) ok (by first | omega | (simp <;> omega))
  ·exact gw7 (by go_wf) (by first | omega | (simp <;> omega))
end Go.Proofs.YtgckmkiiheaeaaaGreatDoor
namespace Go.Proofs.YtgckmkiiheaeaaaGreatDoor
open Go.RowKit Go.Proofs.YtgckmkiiheaeaaaGreatDoor.Lx Go.Proofs.YtgckmkiiheaeaaaGreatDoor.Px
set_option maxHeartbeats 4000000 in
theorem switch_2_w (C : Ctx) (ok : C.Ok) (n : Nat) (ih : All C n) : ∀ (h : Bool) (k : Nat) (w : World), PS w C k h → (tok C.ts k).kind ≠ 6 → (¬ isS C.ts (k + 1) [[123]] = true) → run C.ts (n + 1) .switchStmt h k ≠ .out → Calls Tryz.prog 96 #[.pointer (some ⟨C.b, 0, none⟩)] w (NPost C w.heap.size (run C.ts (n + 1) .switchStmt h k) h w) := by
 intro h k w p h6 c1 hout
 have hr : run C.ts (n + 1) .switchStmt h k = fSwitchStmt C.ts (run C.ts n) h k := rfl
 rw [hr] at hout ⊢
 clear hr
 generalize hR : fSwitchStmt C.ts (run C.ts n) h k = r0 at hout ⊢
 have H6 := hide h6
 clear h6
 have hbl := p.lt
 have htb := ok.lt
 have htf0 := tokF0
 have htf1 := tokF1
 have htf3 := tokF3
 have hmf := hmfL
 have G0 := grown_refl w (some C.b)
 have HR := hide hR
 clear hR
 have HO := hide hout
 clear hout
 go_enter Tryz.func96, Tryz.ntmps96
 go_wp2_with fail
 refine (take_any C ok k h _ (pw2 (by go_wf)) (unhide H6)).mono ?_
 rintro e w1 ⟨rfl, p1, hg⟩
 have hz1 := hg.size
 (try simp at hz1)
 have G1 : w.grownBy w1 (some C.b) := grown_trans (gw2 (by go_wf)) hg
 have bl0_1 : BL w1 (w.heap.size) (nd0) := BL.grown (bw0 (by omega)) hg (by omega)
 have hl0_1 := bl0_1.lt
 clear hg
 have ne1 : ¬ C.b = w.heap.size := by omega
 have nf1 : ¬ w.heap.size = C.b := by omega
 have ne2 : ¬ C.b = w1.heap.size := by omega
 have nf2 : ¬ w1.heap.size = C.b := by omega
 have ne3 : ¬ w.heap.size = w1.heap.size := by omega
 have nf3 : ¬ w1.heap.size = w.heap.size := by omega
 go_wp2_with fail
 refine (none_any _).mono ?_
 rintro e w2 ⟨rfl, hgq⟩
 have p2 := PS.quiet (C := C) (k := (k + 1)) (h := h) (by go_wf) hgq
 have hg := grown_any (r := some C.b) hgq
 clear hgq
 have hz2 := hg.size
 (try simp at hz2)
 have G2 : w.grownBy w2 (some C.b) := grown_trans (by go_wf) hg
 have bl0_2 : BL w2 (w.heap.size) (nd0) := BL.grown (by go_wf) hg (by omega)
 have hl0_2 := bl0_2.lt
 clear bl0_1
 clear p1
 clear hg
 have ne4 : ¬ C.b = w2.heap.size := by omega
 have nf4 : ¬ w2.heap.size = C.b := by omega
 have ne5 : ¬ w.heap.size = w2.heap.size := by omega
 have nf5 : ¬ w2.heap.size = w.heap.size := by omega
 go_wp2_with fail
 refine (isL C ok (k + 1) h _ (w2.heap.size + 1) [[123]] (by decide) (pw2 (by go_wf)) (by simp)).mono ?_
 rintro e w3 ⟨rfl, hgq⟩
 have p3 := PS.quiet (C := C) (k := (k + 1)) (h := h) (pw2 (by go_wf)) hgq
 have hg := grown_any (r := some C.b) hgq
 clear hgq
 have hz3 := hg.size
 (try simp at hz3)
 have G3 : w.grownBy w3 (some C.b) := grown_trans (gw2 (by go_wf)) hg
 have bl0_3 : BL w3 (w.heap.size) (nd0) := BL.grown (bw2 (by go_wf)) hg (by omega)
 have hl0_3 := bl0_3.lt
 have bl1_3 : BL w3 (w2.heap.size) (.cells #[.int .i64 8, .string ⟨#[]⟩, .int .i64 0, .int .i64 0, .string ⟨#[]⟩, .int .i64 0, .slice none 0 0] 24) := BL.grown (bw0 (by omega)) hg (by omega)
 have hl1_3 := bl1_3.lt
 clear bl0_2
 clear p2
 clear hg
 have ne6 : ¬ C.b = w3.heap.size := by omega
 have nf6 : ¬ w3.heap.size = C.b := by omega
 have ne7 : ¬ w.heap.size = w3.heap.size := by omega
 have nf7 : ¬ w3.heap.size = w.heap.size := by omega
 have ne8 : ¬ w2.heap.size = w3.heap.size := by omega
 have nf8 : ¬ w3.heap.size = w2.heap.size := by omega
 go_wp2_with fail
 refine (withinN C ok 94 #[.pointer (some ⟨C.b, 0, none⟩)] #[] en92 (run C.ts n .expr true (k + 1)) true h (k + 1) _ (by go_wf) (fun w0 _ q0 => ih.at.expr true (k + 1) w0 q0 (fun hx => unhide HO ((unhide HR).symm.trans (by simp only [fSwitchStmt, ub, eq_false c1, hx]))))).mono ?_
 rintro e w4 hp
 rcases hp with ⟨kd4, tx4, nm4, ps4, kids4, s4, k4, ao4, cp4, hq, rfl, hrow, p4, hg⟩ | ⟨pb, rule, hq, rfl, hg⟩
 rotate_left
 (exact ⟨rfl, npost_bad (by rw [← unhide HR]; simp only [fSwitchStmt, ub, eq_false c1, hq]) (grown_trans (by go_wf) hg)⟩)
 have hz4 := hg.size
 (try simp at hz4)
 have G4 : w.grownBy w4 (some C.b) := grown_trans (by go_wf) hg
 have bl0_4 : BL w4 (w.heap.size) (nd0) := BL.grown (by go_wf) hg (by omega)
 have hl0_4 := bl0_4.lt
 have bl1_4 : BL w4 (w2.heap.size) (.cells #[.int .i64 8, .string ⟨#[]⟩, .int .i64 0, .int .i64 0, .string ⟨#[]⟩, .int .i64 0, .slice none 0 0] 24) := BL.grown (by go_wf) hg (by omega)
 have hl1_4 := bl1_4.lt
 have zc1_4 := bl1_4.cell
 have fz1_4 := bl1_4.frozen
 clear bl0_3
 clear bl1_3
 clear p3
 obtain ⟨lo4, hlo4, row4⟩ := hrow.named
 (try simp at hlo4)
 have HQ4 := hide hq
 clear hrow hq
 clear hg
 have ne9 : ¬ C.b = w4.heap.size := by omega
 have nf9 : ¬ w4.heap.size = C.b := by omega
 have ne10 : ¬ w.heap.size = w4.heap.size := by omega
 have nf10 : ¬ w4.heap.size = w.heap.size := by omega
 have ne11 : ¬ w2.heap.size = w4.heap.size := by omega
 have nf11 : ¬ w4.heap.size = w2.heap.size := by omega
 go_wp2
 go_region_law (first | (have hbx := bx; have hlenj : l5.length ≤ 1000000 := (by have h1 := run_fine C.ts n (.clauses false) h k4 l5 s5 k5 (unhide HQ5); have h2 := ok.few; have h3 := p5.kl; simp only [st, bnd] at h1; omega); refine step_spreadI rfl (.tmp 19) (.tmp 23) rfl (lo := (w.heap.size + 1)) (g1 := w4.heap.size) (u := lo4) (v := w4.heap.size) (A := lo5) (B := w5.heap.size) (t := .mk kd4 tx4 nm4 ps4 kids4) (cur := #[.int .i64 kd4, .string ⟨tx4.toArray⟩, .int .i64 nm4, .int .i64 ps4, .string ⟨#[]⟩, .int .i64 0, .slice ao4 kids4.length cp4]) (l := l5) (by simp [Act.eval]) (by (repeat (first | with_reducible assumption | ((with_reducible apply BL.put7); (with_reducible assumption); rfl) | ((with_reducible apply BL.put01); (with_reducible assumption); rfl) | with_reducible refine BL.drew ?_ | (with_reducible refine BL.new ?_; (first | omega | (simp <;> omega))) | with_reducible refine BL.alloc ?_ _ | (with_reducible refine BL.set ?_ _ ?_; rotate_left; (first | omega | (simp <;> omega))) | ((with_reducible apply BL.put2); (with_reducible assumption); (first | rfl | simp))))) rfl ((Nd.mk (kd := kd4) (tx := tx4) (nm := nm4) (ps := ps4) row4).ag (by (repeat (first | with_reducible exact Ag.refl _ _ _ | with_reducible refine Ag.drew ?_ | with_reducible refine Ag.alloc ?_ _ (by first | (simp <;> omega) | omega) | with_reducible refine Ag.set ?_ _ (by first | (left; simp <;> omega) | (left; omega) | (right; simp <;> omega) | (right; omega) | (dsimp only; omega)))))) (by simp [Act.eval]) (RowI.ag row5 (by (repeat (first | with_reducible exact Ag.refl _ _ _ | with_reducible refine Ag.drew ?_ | with_reducible refine Ag.alloc ?_ _ (by first | (simp <;> omega) | omega) | with_reducible refine Ag.set ?_ _ (by first | (left; simp <;> omega) | (left; omega) | (right; simp <;> omega) | (right; omega) | (dsimp only; omega))))) (Nat.le_refl _) (Nat.le_refl _)) hlenj (by first | omega | (simp <;> omega)) (by first | omega | (simp <;> omega)) (by first | omega | (simp <;> omega)) (by first | omega | (simp <;> omega)) (by first | omega | (simp <;> omega)) (by first | omega | (simp <;> omega)) (by first | omega | (simp <;> omega)) (by first | omega | (simp <;> omega)) ?_; intro g6 cp6 w6 hrw6 hgA hat6 hgl6; have hob : ∀ x, (Value.slice (some ⟨w4.heap.size, 0, none⟩) 1 1).ownBlock = some x → x = w4.heap.size := (fun x hx => by simp only [Value.ownBlock, Option.some.injEq] at hx; omega); have hz6 := hgA.size; (try simp at hz6); (try simp at hat6); have G6 : w.grownBy w6 (some C.b) := grown_own (by (repeat (first | with_reducible assumption | with_reducible exact grown_refl _ _ | with_reducible refine grown_drew ?_ | with_reducible refine grown_alloc ?_ _ | (with_reducible refine grown_set ?_ _ (by first | with_reducible exact Or.inr rfl | (left; simp <;> omega) | (left; omega)))))) hgA (fun x hx => by have := hob x hx; omega); have p6 := PS.own (C := C) (k := k5) (h := h) (by (repeat (first | with_reducible assumption | with_reducible refine PS.drew ?_ | with_reducible refine PS.alloc ?_ _ | with_reducible refine PS.over ?_ ok _ (by first | (simp <;> omega) | omega) | with_reducible exact PS.set2 (by with_reducible assumption) ok))) ok hgA (fun x hx => by have := hob x hx; omega); have bl0_6 : BL w6 (w.heap.size) (nd0) := BL.own (by (repeat (first | with_reducible assumption | ((with_reducible apply BL.put7); (with_reducible assumption); rfl) | ((with_reducible apply BL.put01); (with_reducible assumption); rfl) | with_reducible refine BL.drew ?_ | (with_reducible refine BL.new ?_; (first | omega | (simp <;> omega))) | with_reducible refine BL.alloc ?_ _ | (with_reducible refine BL.set ?_ _ ?_; rotate_left; (first | omega | (simp <;> omega))) | ((with_reducible apply BL.put2); (with_reducible assumption); (first | rfl | simp))))) hgA (fun e => by have := hob _ e.symm; omega); have hl0_6 := bl0_6.lt; have zc0_6 := bl0_6.cell; have fz0_6 := bl0_6.frozen; have bl1_6 : BL w6 (w2.heap.size) (.cells #[.int .i64 kd4, .string ⟨tx4.toArray⟩, .int .i64 nm4, .int .i64 ps4, .string ⟨#[]⟩, .int .i64 0, .slice ao4 kids4.length cp4] 24) := BL.own (by (repeat (first | with_reducible assumption | ((with_reducible apply BL.put7); (with_reducible assumption); rfl) | ((with_reducible apply BL.put01); (with_reducible assumption); rfl) | with_reducible refine BL.drew ?_ | (with_reducible refine BL.new ?_; (first | omega | (simp <;> omega))) | with_reducible refine BL.alloc ?_ _ | (with_reducible refine BL.set ?_ _ ?_; rotate_left; (first | omega | (simp <;> omega))) | ((with_reducible apply BL.put2); (with_reducible assumption); (first | rfl | simp))))) hgA (fun e => by have := hob _ e.symm; omega); have hl1_6 := bl1_6.lt; have zc1_6 := bl1_6.cell; have fz1_6 := bl1_6.frozen; clear p5 hgA hob; have nz0 : ¬ w.heap.size = w6.heap.size := (by omega); have ny0 : ¬ w6.heap.size = w.heap.size := (by omega); have nz1 : ¬ w2.heap.size = w6.heap.size := (by omega); have ny1 : ¬ w6.heap.size = w2.heap.size := (by omega)) | (have hlenj : l5.length ≤ 1000000 := (by have h1 := run_fine C.ts n (.clauses false) h k4 l5 s5 k5 (unhide HQ5); have h2 := ok.few; have h3 := p5.kl; simp only [st, bnd] at h1; omega); refine step_spreadI rfl (.tmp 19) (.tmp 23) rfl (lo := (w.heap.size + 1)) (g1 := w5.heap.size) (u := lo4) (v := w4.heap.size) (A := lo5) (B := w5.heap.size) (t := .mk kd4 tx4 nm4 ps4 kids4) (cur := #[.int .i64 kd4, .string ⟨tx4.toArray⟩, .int .i64 nm4, .int .i64 ps4, .string ⟨#[]⟩, .int .i64 0, .slice ao4 kids4.length cp4]) (l := l5) (by simp [Act.eval]) (by (repeat (first | with_reducible assumption | ((with_reducible apply BL.put7); (with_reducible assumption); rfl) | ((with_reducible apply BL.put01); (with_reducible assumption); rfl) | with_reducible refine BL.drew ?_ | (with_reducible refine BL.new ?_; (first | omega | (simp <;> omega))) | with_reducible refine BL.alloc ?_ _ | (with_reducible refine BL.set ?_ _ ?_; rotate_left; (first | omega | (simp <;> omega))) | ((with_reducible apply BL.put2); (with_reducible assumption); (first | rfl | simp))))) rfl ((Nd.mk (kd := kd4) (tx := tx4) (nm := nm4) (ps := ps4) row4).ag (by (repeat (first | with_reducible exact Ag.refl _ _ _ | with_reducible refine Ag.drew ?_ | with_reducible refine Ag.alloc ?_ _ (by first | (simp <;> omega) | omega) | with_reducible refine Ag.set ?_ _ (by first | (left; simp <;> omega) | (left; omega) | (right; simp <;> omega) | (right; omega) | (dsimp only; omega)))))) (by simp [Act.eval]) (RowI.ag row5 (by (repeat (first | with_reducible exact Ag.refl _ _ _ | with_reducible refine Ag.drew ?_ | with_reducible refine Ag.alloc ?_ _ (by first | (simp <;> omega) | omega) | with_reducible refine Ag.set ?_ _ (by first | (left; simp <;> omega) | (left; omega) | (right; simp <;> omega) | (right; omega) | (dsimp only; omega))))) (Nat.le_refl _) (Nat.le_refl _)) hlenj (by first | omega | (simp <;> omega)) (by first | omega | (simp <;> omega)) (by first | omega | (simp <;> omega)) (by first | omega | (simp <;> omega)) (by first | omega | (simp <;> omega)) (by first | omega | (simp <;> omega)) (by first | omega | (simp <;> omega)) (by first | omega | (simp <;> omega)) ?_; intro g6 cp6 w6 hrw6 hgA hat6 hgl6; have hob : ∀ x, (Value.slice (some ⟨w5.heap.size, 0, none⟩) 1 1).ownBlock = some x → x = w5.heap.size := (fun x hx => by simp only [Value.ownBlock, Option.some.injEq] at hx; omega); have hz6 := hgA.size; (try simp at hz6); (try simp at hat6); have G6 : w.grownBy w6 (some C.b) := grown_own (by (repeat (first | with_reducible assumption | with_reducible exact grown_refl _ _ | with_reducible refine grown_drew ?_ | with_reducible refine grown_alloc ?_ _ | (with_reducible refine grown_set ?_ _ (by first | with_reducible exact Or.inr rfl | (left; simp <;> omega) | (left; omega)))))) hgA (fun x hx => by have := hob x hx; omega); have p6 := PS.own (C := C) (k := k5) (h := h) (by (repeat (first | with_reducible assumption | with_reducible refine PS.drew ?_ | with_reducible refine PS.alloc ?_ _ | with_reducible refine PS.over ?_ ok _ (by first | (simp <;> omega) | omega) | with_reducible exact PS.set2 (by with_reducible assumption) ok))) ok hgA (fun x hx => by have := hob x hx; omega); have bl0_6 : BL w6 (w.heap.size) (nd0) := BL.own (by (repeat (first | with_reducible assumption | ((with_reducible apply BL.put7); (with_reducible assumption); rfl) | ((with_reducible apply BL.put01); (with_reducible assumption); rfl) | with_reducible refine BL.drew ?_ | (with_reducible refine BL.new ?_; (first | omega | (simp <;> omega))) | with_reducible refine BL.alloc ?_ _ | (with_reducible refine BL.set ?_ _ ?_; rotate_left; (first | omega | (simp <;> omega))) | ((with_reducible apply BL.put2); (with_reducible assumption); (first | rfl | simp))))) hgA (fun e => by have := hob _ e.symm; omega); have hl0_6 := bl0_6.lt; have zc0_6 := bl0_6.cell; have fz0_6 := bl0_6.frozen; have bl1_6 : BL w6 (w2.heap.size) (.cells #[.int .i64 kd4, .string ⟨tx4.toArray⟩, .int .i64 nm4, .int .i64 ps4, .string ⟨#[]⟩, .int .i64 0, .slice ao4 kids4.length cp4] 24) := BL.own (by (repeat (first | with_reducible assumption | ((with_reducible apply BL.put7); (with_reducible assumption); rfl) | ((with_reducible apply BL.put01); (with_reducible assumption); rfl) | with_reducible refine BL.drew ?_ | (with_reducible refine BL.new ?_; (first | omega | (simp <;> omega))) | with_reducible refine BL.alloc ?_ _ | (with_reducible refine BL.set ?_ _ ?_; rotate_left; (first | omega | (simp <;> omega))) | ((with_reducible apply BL.put2); (with_reducible assumption); (first | rfl | simp))))) hgA (fun e => by have := hob _ e.symm; omega); have hl1_6 := bl1_6.lt; have zc1_6 := bl1_6.cell; have fz1_6 := bl1_6.frozen; clear p5 hgA hob; have nz0 : ¬ w.heap.size = w6.heap.size := (by omega); have ny0 : ¬ w6.heap.size = w.heap.size := (by omega); have nz1 : ¬ w2.heap.size = w6.heap.size := (by omega); have ny1 : ¬ w6.heap.size = w2.heap.size := (by omega)) | (go_simp; go_at_call 106; refine (ih.at.clausesF h k4 _ (by (repeat (first | with_reducible assumption | with_reducible refine PS.drew ?_ | with_reducible refine PS.alloc ?_ _ | with_reducible refine PS.over ?_ ok _ (by first | (simp <;> omega) | omega) | with_reducible exact PS.set2 (by with_reducible assumption) ok))) (fun hx => unhide HO ((unhide HR).symm.trans (by simp only [fSwitchStmt, ub, eq_false c1, unhide HQ4, hx])))).mono ?_; rintro e w5 hp; rcases hp with ⟨l5, s5, k5, ao5, cp5, hq, rfl, hrow, p5, hg⟩ | ⟨pb, rule, hq, rfl, hg⟩; rotate_left; (exact ⟨rfl, npost_bad (by rw [← unhide HR]; simp only [fSwitchStmt, ub, eq_false c1, unhide HQ4, hq]) (grown_trans (by (repeat (first | with_reducible assumption | with_reducible exact grown_refl _ _ | with_reducible refine grown_drew ?_ | with_reducible refine grown_alloc ?_ _ | (with_reducible refine grown_set ?_ _ (by first | with_reducible exact Or.inr rfl | (left; simp <;> omega) | (left; omega)))))) hg)⟩); (try ((refine_lift have bx : BL w5 (w4.heap.size) (.cells #[.int .i64 kd4, .string ⟨tx4.toArray⟩, .int .i64 nm4, .int .i64 ps4, .string ⟨#[]⟩, .int .i64 0, .slice ao4 kids4.length cp4] 24) := ?_; ?_); rotate_left; (focus ((refine BL.grown ?_ hg ?_); (focus (((repeat (first | with_reducible assumption | ((with_reducible apply BL.put7); (with_reducible assumption); rfl) | ((with_reducible apply BL.put01); (with_reducible assumption); rfl) | with_reducible refine BL.drew ?_ | (with_reducible refine BL.new ?_; (first | omega | (simp <;> omega))) | with_reducible refine BL.alloc ?_ _ | (with_reducible refine BL.set ?_ _ ?_; rotate_left; (first | omega | (simp <;> omega))) | ((with_reducible apply BL.put2); (with_reducible assumption); (first | rfl | simp))))); done)); (focus ((first | omega | (simp <;> omega)); done)))); have hlx := bx.lt; have zcx := bx.cell)); have hz5 := hg.size; (try simp at hz5); have G5 : w.grownBy w5 (some C.b) := grown_trans (by (repeat (first | with_reducible assumption | with_reducible exact grown_refl _ _ | with_reducible refine grown_drew ?_ | with_reducible refine grown_alloc ?_ _ | (with_reducible refine grown_set ?_ _ (by first | with_reducible exact Or.inr rfl | (left; simp <;> omega) | (left; omega)))))) hg; replace row4 := RowI.ag row4 (Ag.grown (by (repeat (first | with_reducible exact Ag.refl _ _ _ | with_reducible refine Ag.drew ?_ | with_reducible refine Ag.alloc ?_ _ (by first | (simp <;> omega) | omega) | with_reducible refine Ag.set ?_ _ (by first | (left; simp <;> omega) | (left; omega) | (right; simp <;> omega) | (right; omega) | (dsimp only; omega))))) hg (by first | omega | (simp <;> omega)) (by first | omega | (simp <;> omega))) (Nat.le_refl _) (Nat.le_refl _); have bl0_5 : BL w5 (w.heap.size) (nd0) := BL.grown (by (repeat (first | with_reducible assumption | ((with_reducible apply BL.put7); (with_reducible assumption); rfl) | ((with_reducible apply BL.put01); (with_reducible assumption); rfl) | with_reducible refine BL.drew ?_ | (with_reducible refine BL.new ?_; (first | omega | (simp <;> omega))) | with_reducible refine BL.alloc ?_ _ | (with_reducible refine BL.set ?_ _ ?_; rotate_left; (first | omega | (simp <;> omega))) | ((with_reducible apply BL.put2); (with_reducible assumption); (first | rfl | simp))))) hg (by first | omega | (simp <;> omega)); have hl0_5 := bl0_5.lt; have zc0_5 := bl0_5.cell; have fz0_5 := bl0_5.frozen; have bl1_5 : BL w5 (w2.heap.size) (.cells #[.int .i64 kd4, .string ⟨tx4.toArray⟩, .int .i64 nm4, .int .i64 ps4, .string ⟨#[]⟩, .int .i64 0, .slice ao4 kids4.length cp4] 24) := BL.grown (by (repeat (first | with_reducible assumption | ((with_reducible apply BL.put7); (with_reducible assumption); rfl) | ((with_reducible apply BL.put01); (with_reducible assumption); rfl) | with_reducible refine BL.drew ?_ | (with_reducible refine BL.new ?_; (first | omega | (simp <;> omega))) | with_reducible refine BL.alloc ?_ _ | (with_reducible refine BL.set ?_ _ ?_; rotate_left; (first | omega | (simp <;> omega))) | ((with_reducible apply BL.put2); (with_reducible assumption); (first | rfl | simp))))) hg (by first | omega | (simp <;> omega)); have hl1_5 := bl1_5.lt; have zc1_5 := bl1_5.cell; have fz1_5 := bl1_5.frozen; clear bl0_4; clear bl1_4 zc1_4 fz1_4; clear p4; obtain ⟨lo5, hlo5, row5⟩ := hrow.named; (try simp at hlo5); have HQ5 := hide hq; clear hrow hq; clear hg; have ne12 : ¬ C.b = w5.heap.size := (by omega); have nf12 : ¬ w5.heap.size = C.b := (by omega); have ne13 : ¬ w.heap.size = w5.heap.size := (by omega); have nf13 : ¬ w5.heap.size = w.heap.size := (by omega); have ne14 : ¬ w2.heap.size = w5.heap.size := (by omega); have nf14 : ¬ w5.heap.size = w2.heap.size := (by omega)))
 all_goals
  go_wp2
  refine bodyPost_ret (v := .agg #[.int .i64 23, .string ⟨#[]⟩, .int .i64 0, .int .i64 (tok C.ts k).pos, .string ⟨#[]⟩, .int .i64 0, .slice (some ⟨g6, 0, none⟩) (l5.length + 1) cp6]) (by simp [results, Tryz.results96, go_sem, *]) rfl (npost_ok (hi := (World.heap _).size) (s := 0) (k' := k5) (tx := []) (kids := (.mk kd4 tx4 nm4 ps4 kids4 :: l5))  (by rw [← unhide HR]; simp only [fSwitchStmt, ub, eq_false c1, unhide HQ4, unhide HQ5]) (RowI.ag (hrw6 _ (by simp <;> omega) (Ag.one (aw7 aw0 (by first | omega | (simp <;> omega)))) (aw7 aw0 (by first | omega | (simp <;> omega))) (aw7 aw0 (by first | omega | (simp <;> omega)))) (Ag.refl _ _ _) (by omega) (Nat.le_refl _)) (by omega) ?_ ?_)
  ·exact pw7 (by go_wf) ok (by first | omega | (simp <;> omega))
  ·exact gw7 (by go_wf) (by first | omega | (simp <;> omega))
end Go.Proofs.YtgckmkiiheaeaaaGreatDoor
namespace Go.Proofs.YtgckmkiiheaeaaaGreatDoor
open Go.RowKit Go.Proofs.YtgckmkiiheaeaaaGreatDoor.Lx Go.Proofs.YtgckmkiiheaeaaaGreatDoor.Px
theorem switchStmt_w (C : Ctx) (ok : C.Ok) (n : Nat) (ih : All C n) : CNt C 96 .switchStmt #[.pointer (some ⟨C.b, 0, none⟩)] (n + 1) := by
 intro h k w p h6 hout
 by_cases c1 : isS C.ts (k + 1) [[123]] = true
 ·exact switch_1_w C ok n ih h k w p h6 c1 hout
 ·exact switch_2_w C ok n ih h k w p h6 c1 hout
end Go.Proofs.YtgckmkiiheaeaaaGreatDoor
