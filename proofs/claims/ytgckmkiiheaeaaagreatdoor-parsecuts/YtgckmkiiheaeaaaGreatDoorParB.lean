import Derived.Test.YtgckmkiiheaeaaaGreatDoorParC
namespace Go.Proofs.YtgckmkiiheaeaaaGreatDoor
open Go.RowKit Lx Px
set_option linter.unusedSimpArgs false in
set_option maxRecDepth 100000 in
set_option maxHeartbeats 800000 in
theorem behind_any (C : Ctx) (ok : C.Ok) (k : Nat) (h : Bool) (w : World) (p : PS w C k h) :
 Calls Tryz.prog 83 #[.pointer (some ⟨C.b, 0, none⟩)] w fun e w' => e = .returned (.bool (behind C.ts k)) ∧ w.grownBy w' none := by
 have HT := hide (isL C ok k h w w.heap.size [[59], [125], [99, 97, 115, 101], [100, 101, 102, 97, 117, 108, 116]] (by decide) p rfl)
 go_enter Tryz.func83, Tryz.ntmps83
 go_wp2_with fail
 refine (unhide HT).mono ?_
 rintro e w1 ⟨rfl, hgr⟩
 go_wp2
 go_ret
 exact ⟨rfl, hgr⟩
theorem beqF {a b : List UInt8} (h : ¬ a = b) : (a == b) = false := beq_eq_false_iff_ne.2 h
set_option linter.unusedSimpArgs false in
set_option maxRecDepth 100000 in
set_option maxHeartbeats 800000 in
theorem strength_any (s : List UInt8) (w : World) : Calls Tryz.prog 119 #[.string ⟨s.toArray⟩] w fun e w' => e = .returned (.int .i64 (strength s)) ∧ w.grownBy w' none := by
 have Z := grown_refl w none
 by_cases h0 : s = [124, 124]
 ·subst h0
  go_enter Tryz.func119, Tryz.ntmps119
  go_wp2
  go_ret
  exact ⟨rfl, Z⟩
 by_cases h1 : s = [38, 38]
 ·subst h1
  go_enter Tryz.func119, Tryz.ntmps119
  go_wp2
  go_ret
  exact ⟨rfl, Z⟩
 by_cases h2 : s = [61, 61]
 ·subst h2
  go_enter Tryz.func119, Tryz.ntmps119
  go_wp2
  go_ret
  exact ⟨rfl, Z⟩
 by_cases h3 : s = [33, 61]
 ·subst h3
  go_enter Tryz.func119, Tryz.ntmps119
  go_wp2
  go_ret
  exact ⟨rfl, Z⟩
 by_cases h4 : s = [60]
 ·subst h4
  go_enter Tryz.func119, Tryz.ntmps119
  go_wp2
  go_ret
  exact ⟨rfl, Z⟩
 by_cases h5 : s = [60, 61]
 ·subst h5
  go_enter Tryz.func119, Tryz.ntmps119
  go_wp2
  go_ret
  exact ⟨rfl, Z⟩
 by_cases h6 : s = [62]
 ·subst h6
  go_enter Tryz.func119, Tryz.ntmps119
  go_wp2
  go_ret
  exact ⟨rfl, Z⟩
 by_cases h7 : s = [62, 61]
 ·subst h7
  go_enter Tryz.func119, Tryz.ntmps119
  go_wp2
  go_ret
  exact ⟨rfl, Z⟩
 by_cases h8 : s = [43]
 ·subst h8
  go_enter Tryz.func119, Tryz.ntmps119
  go_wp2
  go_ret
  exact ⟨rfl, Z⟩
 by_cases h9 : s = [45]
 ·subst h9
  go_enter Tryz.func119, Tryz.ntmps119
  go_wp2
  go_ret
  exact ⟨rfl, Z⟩
 by_cases h10 : s = [42]
 ·subst h10
  go_enter Tryz.func119, Tryz.ntmps119
  go_wp2
  go_ret
  exact ⟨rfl, Z⟩
 by_cases h11 : s = [47]
 ·subst h11
  go_enter Tryz.func119, Tryz.ntmps119
  go_wp2
  go_ret
  exact ⟨rfl, Z⟩
 by_cases h12 : s = [37]
 ·subst h12
  go_enter Tryz.func119, Tryz.ntmps119
  go_wp2
  go_ret
  exact ⟨rfl, Z⟩
 have hs : strength s = 0 := by
  unfold strength
  simp [h0, h1, h2, h3, h4, h5, h6, h7, h8, h9, h10, h11, h12]
 rw [hs]
 clear hs
 have b0 := beqF h0
 have b1 := beqF h1
 have b2 := beqF h2
 have b3 := beqF h3
 have b4 := beqF h4
 have b5 := beqF h5
 have b6 := beqF h6
 have b7 := beqF h7
 have b8 := beqF h8
 have b9 := beqF h9
 have b10 := beqF h10
 have b11 := beqF h11
 have b12 := beqF h12
 clear h0 h1 h2 h3 h4 h5 h6 h7 h8 h9 h10 h11 h12
 go_enter Tryz.func119, Tryz.ntmps119
 go_wp2
 go_ret
 exact ⟨rfl, Z⟩
set_option linter.unusedSimpArgs false in
set_option maxRecDepth 100000 in
set_option maxHeartbeats 800000 in
theorem stands_any (s : Int) (w : World) : Calls Tryz.prog 101 #[.int .i64 s] w fun e w' => e = .returned (.bool (stands s)) ∧ w.grownBy w' none := by
 have Z := grown_refl w none
 have hs : Hid (stands s = (s == 5 || s == 1)) := by unfold stands; rfl
 rw [unhide hs]
 by_cases h5 : s = 5
 ·subst h5
  go_enter Tryz.func101, Tryz.ntmps101
  go_wp2
  go_ret
  exact ⟨rfl, Z⟩
 ·have b5 : (s == 5) = false := by simp [h5]
  go_enter Tryz.func101, Tryz.ntmps101
  go_wp2
  go_ret
  exact ⟨by simp [b5], Z⟩
set_option linter.unusedSimpArgs false in
set_option maxRecDepth 100000 in
set_option maxHeartbeats 800000 in
theorem alone_any (kd nm ps : Int) (tx : List UInt8) (kids : List Tree) (ao : Option Addr) (cp lo hi : Nat) (w : World) (hlo : lo ≤ w.heap.size) (hhi : hi ≤ w.heap.size) (row : RowI w lo hi (.slice ao kids.length cp) kids) :
 Calls Tryz.prog 102 #[.agg #[.int .i64 kd, .string ⟨tx.toArray⟩, .int .i64 nm, .int .i64 ps, .string ⟨#[]⟩, .int .i64 0, .slice ao kids.length cp]] w fun e w' => ∃ g, e = .returned (.agg #[.int .i64 34, .string ⟨#[]⟩, .int .i64 0, .int .i64 ps, .string ⟨#[]⟩, .int .i64 0, .slice (some ⟨g, 0, none⟩) 1 1]) ∧ RowI w' lo w'.heap.size (.slice (some ⟨g, 0, none⟩) 1 1) [.mk kd tx nm ps kids] ∧ w.grownBy w' none := by
 go_enter Tryz.func102, Tryz.ntmps102
 go_wp2
 refine bodyPost_ret (v := .agg #[.int .i64 34, .string ⟨#[]⟩, .int .i64 0, .int .i64 ps, .string ⟨#[]⟩, .int .i64 0, .slice (some ⟨w.heap.size + 1 + 1, 0, none⟩) 1 1]) (by simp [results, Tryz.results102, go_sem, *]) rfl ⟨w.heap.size + 1 + 1, rfl, ?_, ?_⟩
 ·exact row1 (cur := #[.int .i64 kd, .string ⟨tx.toArray⟩, .int .i64 nm, .int .i64 ps, .string ⟨#[]⟩, .int .i64 0, .slice ao kids.length cp]) (BL.new (by first | omega | (simp <;> omega))) ((Nd.mk (kd := kd) (tx := tx) (nm := nm) (ps := ps) row).ag (by (repeat (first | with_reducible exact Ag.refl _ _ _ | with_reducible refine Ag.drew ?_ | with_reducible refine Ag.alloc ?_ _ (by first | (simp <;> omega) | omega) | with_reducible refine Ag.set ?_ _ (by first | (left; simp <;> omega) | (left; omega) | (right; simp <;> omega) | (right; omega)))))) rfl (by first | omega | (simp <;> omega)) (Nat.le_refl _) (by first | omega | (simp <;> omega)) (by first | omega | (simp <;> omega)) (.inr (by first | omega | (simp <;> omega)))
 ·(repeat (first | with_reducible assumption | with_reducible exact grown_refl _ _ | with_reducible refine grown_drew ?_ | with_reducible refine grown_alloc ?_ _ | (with_reducible refine grown_set ?_ _ (by first | with_reducible exact Or.inr rfl | (left; simp <;> omega) | (left; omega)))))
set_option linter.unusedSimpArgs false in
set_option maxRecDepth 100000 in
set_option maxHeartbeats 800000 in
theorem labels_any (C : Ctx) (ok : C.Ok) (k : Nat) (h : Bool) (w : World) (p : PS w C k h) :
 Calls Tryz.prog 91 #[.pointer (some ⟨C.b, 0, none⟩)] w fun e w' => e = .returned (.bool (labels C.ts k)) ∧ w.grownBy w' none := by
 have htf0 := tokF0
 have HT := hide (token_any C ok k h w p)
 by_cases h1 : (tok C.ts k).kind = 1
 ·have hk1 : k + 1 < C.ts.length := ok.last k p.kl (by omega)
  by_cases h5 : (tok C.ts (k + 1)).kind = 5
  ·by_cases h58 : (tok C.ts (k + 1)).text = [58]
   ·skip
    have HL : labels C.ts k = true := by unfold labels; simp [h1, h5, h58]
    rw [HL]
    clear HL
    have b1 : ((tok C.ts k).kind == 1) = true := by simp [h1]
    have b5 : ((tok C.ts (k + 1)).kind == 5) = true := by simp [h5]
    have b58 : ((tok C.ts (k + 1)).text == [58]) = true := by simp [h58]
    clear h1 h5 h58
    go_enter Tryz.func91, Tryz.ntmps91
    go_wp2_with fail
    refine (unhide HT).mono ?_
    rintro e w1 ⟨rfl, hg⟩
    have p1 := p.quiet hg
    obtain ⟨d0, d1, d2, d3⟩ := p1.cells ok (k + 1) hk1
    obtain ⟨c0, c1, c2, f1, f2, hk, hfew, hcap, hlt, htl, htb⟩ := p1.facts ok
    go_wp2
    go_region
    all_goals
     go_wp2
     go_ret
     refine ⟨rfl, ?_⟩
     (repeat (first | with_reducible assumption | with_reducible exact grown_refl _ _ | with_reducible refine grown_drew ?_ | with_reducible refine grown_alloc ?_ _ | (with_reducible refine grown_set ?_ _ (by first | with_reducible exact Or.inr rfl | (left; simp <;> omega) | (left; omega)))))
   ·skip
    have HL : labels C.ts k = false := by unfold labels; simp [h1, h5, h58]
    rw [HL]
    clear HL
    have b1 : ((tok C.ts k).kind == 1) = true := by simp [h1]
    have b5 : ((tok C.ts (k + 1)).kind == 5) = true := by simp [h5]
    have b58 : ((tok C.ts (k + 1)).text == [58]) = false := by simp [h58]
    clear h1 h5 h58
    go_enter Tryz.func91, Tryz.ntmps91
    go_wp2_with fail
    refine (unhide HT).mono ?_
    rintro e w1 ⟨rfl, hg⟩
    have p1 := p.quiet hg
    obtain ⟨d0, d1, d2, d3⟩ := p1.cells ok (k + 1) hk1
    obtain ⟨c0, c1, c2, f1, f2, hk, hfew, hcap, hlt, htl, htb⟩ := p1.facts ok
    go_wp2
    go_region
    all_goals
     go_wp2
     go_ret
     refine ⟨rfl, ?_⟩
     (repeat (first | with_reducible assumption | with_reducible exact grown_refl _ _ | with_reducible refine grown_drew ?_ | with_reducible refine grown_alloc ?_ _ | (with_reducible refine grown_set ?_ _ (by first | with_reducible exact Or.inr rfl | (left; simp <;> omega) | (left; omega)))))
  ·skip
   have HL : labels C.ts k = false := by unfold labels; simp [h1, h5]
   rw [HL]
   clear HL
   have b1 : ((tok C.ts k).kind == 1) = true := by simp [h1]
   have b5 : ((tok C.ts (k + 1)).kind == 5) = false := by simp [h5]
   clear h1 h5
   go_enter Tryz.func91, Tryz.ntmps91
   go_wp2_with fail
   refine (unhide HT).mono ?_
   rintro e w1 ⟨rfl, hg⟩
   have p1 := p.quiet hg
   obtain ⟨d0, d1, d2, d3⟩ := p1.cells ok (k + 1) hk1
   obtain ⟨c0, c1, c2, f1, f2, hk, hfew, hcap, hlt, htl, htb⟩ := p1.facts ok
   go_wp2
   go_region
   all_goals
    go_wp2
    go_ret
    refine ⟨rfl, ?_⟩
    (repeat (first | with_reducible assumption | with_reducible exact grown_refl _ _ | with_reducible refine grown_drew ?_ | with_reducible refine grown_alloc ?_ _ | (with_reducible refine grown_set ?_ _ (by first | with_reducible exact Or.inr rfl | (left; simp <;> omega) | (left; omega)))))
 ·have HL : labels C.ts k = false := by unfold labels; simp [h1]
  rw [HL]
  clear HL
  have b1 : ((tok C.ts k).kind == 1) = false := by simp [h1]
  clear h1
  go_enter Tryz.func91, Tryz.ntmps91
  go_wp2_with fail
  refine (unhide HT).mono ?_
  rintro e w1 ⟨rfl, hg⟩
  go_wp2
  go_ret
  exact ⟨rfl, hg⟩
end Go.Proofs.YtgckmkiiheaeaaaGreatDoor
