import Derived.Test.YtheknbfbneghgaaGreatDoorParC
set_option maxHeartbeats 800000
set_option maxRecDepth 100000
namespace Go.Proofs.YtheknbfbneghgaaGreatDoor
open Go.RowKit Lx Px
set_option linter.unusedSimpArgs false in
theorem behind_any (C : Ctx) (ok : C.Ok) (k : Nat) (h : Bool) (w : World) (p : PS w C k h) :
 Calls Tryz.prog 100 #[.pointer (some ⟨C.b, 0, none⟩)] w fun e w' => e = .returned (.bool (behind C.ts k)) ∧ w.grownBy w' none := by
 have HT := zm (isL C ok k h w w.heap.size [[59], [125], [99, 97, 115, 101], [100, 101, 102, 97, 117, 108, 116]] dc p rfl)
 go_enter Tryz.func100, Tryz.ntmps100
 go_wp2_with fail
 refine (zk HT).mono ?_
 rintro e w1 ⟨rfl, hgr⟩
 go_wp2
 go_ret
 exact ⟨rfl, hgr⟩
theorem beqF {a b : List UInt8} (h : ¬ a = b) : (a == b) = false := beq_eq_false_iff_ne.2 h
set_option linter.unusedSimpArgs false in
theorem strength_any (s : List UInt8) (w : World) : Calls Tryz.prog 163 #[.string ⟨s.toArray⟩] w fun e w' => e = .returned (.int .i64 (strength s)) ∧ w.grownBy w' none := by
 have Z := zo w none
 by_cases h0 : s = [124, 124]
 ·subst h0
  go_enter Tryz.func163, Tryz.ntmps163
  go_wp2
  go_ret
  exact ⟨rfl, Z⟩
 by_cases h1 : s = [38, 38]
 ·subst h1
  go_enter Tryz.func163, Tryz.ntmps163
  go_wp2
  go_ret
  exact ⟨rfl, Z⟩
 by_cases h2 : s = [61, 61]
 ·subst h2
  go_enter Tryz.func163, Tryz.ntmps163
  go_wp2
  go_ret
  exact ⟨rfl, Z⟩
 by_cases h3 : s = [33, 61]
 ·subst h3
  go_enter Tryz.func163, Tryz.ntmps163
  go_wp2
  go_ret
  exact ⟨rfl, Z⟩
 by_cases h4 : s = [60]
 ·subst h4
  go_enter Tryz.func163, Tryz.ntmps163
  go_wp2
  go_ret
  exact ⟨rfl, Z⟩
 by_cases h5 : s = [60, 61]
 ·subst h5
  go_enter Tryz.func163, Tryz.ntmps163
  go_wp2
  go_ret
  exact ⟨rfl, Z⟩
 by_cases h6 : s = [62]
 ·subst h6
  go_enter Tryz.func163, Tryz.ntmps163
  go_wp2
  go_ret
  exact ⟨rfl, Z⟩
 by_cases h7 : s = [62, 61]
 ·subst h7
  go_enter Tryz.func163, Tryz.ntmps163
  go_wp2
  go_ret
  exact ⟨rfl, Z⟩
 by_cases h8 : s = [43]
 ·subst h8
  go_enter Tryz.func163, Tryz.ntmps163
  go_wp2
  go_ret
  exact ⟨rfl, Z⟩
 by_cases h9 : s = [45]
 ·subst h9
  go_enter Tryz.func163, Tryz.ntmps163
  go_wp2
  go_ret
  exact ⟨rfl, Z⟩
 by_cases h10 : s = [42]
 ·subst h10
  go_enter Tryz.func163, Tryz.ntmps163
  go_wp2
  go_ret
  exact ⟨rfl, Z⟩
 by_cases h11 : s = [47]
 ·subst h11
  go_enter Tryz.func163, Tryz.ntmps163
  go_wp2
  go_ret
  exact ⟨rfl, Z⟩
 by_cases h12 : s = [37]
 ·subst h12
  go_enter Tryz.func163, Tryz.ntmps163
  go_wp2
  go_ret
  exact ⟨rfl, Z⟩
 have hs : strength s = 0 := by
  unfold strength
  simp [h0, h1, h2, h3, h4, h5, h6, h7, h8, h9, h10, h11, h12]
 rw [hs]
 clear hs
 have b0 := beqF h0
 have b1 := beqF h1
 have b2 := beqF h2
 have b3 := beqF h3
 have b4 := beqF h4
 have b5 := beqF h5
 have b6 := beqF h6
 have b7 := beqF h7
 have b8 := beqF h8
 have b9 := beqF h9
 have b10 := beqF h10
 have b11 := beqF h11
 have b12 := beqF h12
 clear h0 h1 h2 h3 h4 h5 h6 h7 h8 h9 h10 h11 h12
 go_enter Tryz.func163, Tryz.ntmps163
 go_wp2
 go_ret
 exact ⟨rfl, Z⟩
set_option linter.unusedSimpArgs false in
theorem stands_any (s : Int) (w : World) : Calls Tryz.prog 135 #[.int .i64 s] w fun e w' => e = .returned (.bool (stands s)) ∧ w.grownBy w' none := by
 have Z := zo w none
 have hs : Hid (stands s = (s == 5 || s == 1)) := by unfold stands; rfl
 rw [zk hs]
 by_cases h5 : s = 5
 ·subst h5
  go_enter Tryz.func135, Tryz.ntmps135
  go_wp2
  go_ret
  exact ⟨rfl, Z⟩
 ·have b5 : (s == 5) = false := by simp [h5]
  go_enter Tryz.func135, Tryz.ntmps135
  go_wp2
  go_ret
  exact ⟨by simp [b5], Z⟩
set_option linter.unusedSimpArgs false in
theorem alone_any (kd nm ps : Int) (tx : List UInt8) (kids : List Tree) (ao : Option Addr) (cp lo hi : Nat) (w : World) (hlo : lo ≤ w.heap.size) (hhi : hi ≤ w.heap.size) (row : zq w lo hi (.slice ao kids.length cp) kids) :
 Calls Tryz.prog 136 #[.agg #[.int .i64 kd, .string ⟨tx.toArray⟩, .int .i64 nm, .int .i64 ps, .string ⟨#[]⟩, .int .i64 0, .slice ao kids.length cp]] w fun e w' => ∃ g, e = .returned (.agg #[.int .i64 34, .string ⟨#[]⟩, .int .i64 0, .int .i64 ps, .string ⟨#[]⟩, .int .i64 0, .slice (some ⟨g, 0, none⟩) 1 1]) ∧ zq w' lo w'.heap.size (.slice (some ⟨g, 0, none⟩) 1 1) [.mk kd tx nm ps kids] ∧ w.grownBy w' none := by
 go_enter Tryz.func136, Tryz.ntmps136
 go_wp2
 refine bodyPost_ret (v := .agg #[.int .i64 34, .string ⟨#[]⟩, .int .i64 0, .int .i64 ps, .string ⟨#[]⟩, .int .i64 0, .slice (some ⟨w.heap.size + 1 + 1, 0, none⟩) 1 1]) (by simp [results, Tryz.results136, go_sem, *]) rfl ⟨w.heap.size + 1 + 1, rfl, ?_, ?_⟩
 ·exact row1 (cur := #[.int .i64 kd, .string ⟨tx.toArray⟩, .int .i64 nm, .int .i64 ps, .string ⟨#[]⟩, .int .i64 0, .slice ao kids.length cp]) (BL.new oz) ((Nd.mk (kd := kd) (tx := tx) (nm := nm) (ps := ps) row).ag zL) rfl oz lr oz oz (.inr oz)
 ·(repeat (first | with_reducible assumption | with_reducible exact zo _ _ | with_reducible refine zz ?_ | with_reducible refine zr ?_ _ | (with_reducible refine yF ?_ _ zD)))
set_option linter.unusedSimpArgs false in
theorem labels_any (C : Ctx) (ok : C.Ok) (k : Nat) (h : Bool) (w : World) (p : PS w C k h) :
 Calls Tryz.prog 120 #[.pointer (some ⟨C.b, 0, none⟩)] w fun e w' => e = .returned (.bool (labels C.ts k)) ∧ w.grownBy w' none := by
 have htf0 := tokF0
 have HT := zm (zy C ok k h w p)
 by_cases h1 : (zp C.ts k).kind = 1
 ·have hk1 : k + 1 < C.ts.length := ok.last k p.kl om
  by_cases h5 : (zp C.ts (k + 1)).kind = 5
  ·by_cases h58 : (zp C.ts (k + 1)).text = [58]
   ·skip
    have HL : labels C.ts k = true := by unfold labels; simp [h1, h5, h58]
    rw [HL]
    clear HL
    have b1 : ((zp C.ts k).kind == 1) = true := by simp [h1]
    have b5 : ((zp C.ts (k + 1)).kind == 5) = true := by simp [h5]
    have b58 : ((zp C.ts (k + 1)).text == [58]) = true := by simp [h58]
    clear h1 h5 h58
    go_enter Tryz.func120, Tryz.ntmps120
    go_wp2_with fail
    refine (zk HT).mono ?_
    rintro e w1 ⟨rfl, hg⟩
    have p1 := p.quiet hg
    obtain ⟨d0, d1, d2, d3⟩ := p1.cells ok (k + 1) hk1
    obtain ⟨c0, c1, c2, f1, f2, hk, hfew, hcap, hlt, htl, htb⟩ := p1.facts ok
    go_wp2
    go_region
    all_goals
     go_wp2
     go_ret
     refine ⟨rfl, ?_⟩
     (repeat (first | with_reducible assumption | with_reducible exact zo _ _ | with_reducible refine zz ?_ | with_reducible refine zr ?_ _ | (with_reducible refine yF ?_ _ zD)))
   ·skip
    have HL : labels C.ts k = false := by unfold labels; simp [h1, h5, h58]
    rw [HL]
    clear HL
    have b1 : ((zp C.ts k).kind == 1) = true := by simp [h1]
    have b5 : ((zp C.ts (k + 1)).kind == 5) = true := by simp [h5]
    have b58 : ((zp C.ts (k + 1)).text == [58]) = false := by simp [h58]
    clear h1 h5 h58
    go_enter Tryz.func120, Tryz.ntmps120
    go_wp2_with fail
    refine (zk HT).mono ?_
    rintro e w1 ⟨rfl, hg⟩
    have p1 := p.quiet hg
    obtain ⟨d0, d1, d2, d3⟩ := p1.cells ok (k + 1) hk1
    obtain ⟨c0, c1, c2, f1, f2, hk, hfew, hcap, hlt, htl, htb⟩ := p1.facts ok
    go_wp2
    go_region
    all_goals
     go_wp2
     go_ret
     refine ⟨rfl, ?_⟩
     (repeat (first | with_reducible assumption | with_reducible exact zo _ _ | with_reducible refine zz ?_ | with_reducible refine zr ?_ _ | (with_reducible refine yF ?_ _ zD)))
  ·skip
   have HL : labels C.ts k = false := by unfold labels; simp [h1, h5]
   rw [HL]
   clear HL
   have b1 : ((zp C.ts k).kind == 1) = true := by simp [h1]
   have b5 : ((zp C.ts (k + 1)).kind == 5) = false := by simp [h5]
   clear h1 h5
   go_enter Tryz.func120, Tryz.ntmps120
   go_wp2_with fail
   refine (zk HT).mono ?_
   rintro e w1 ⟨rfl, hg⟩
   have p1 := p.quiet hg
   obtain ⟨d0, d1, d2, d3⟩ := p1.cells ok (k + 1) hk1
   obtain ⟨c0, c1, c2, f1, f2, hk, hfew, hcap, hlt, htl, htb⟩ := p1.facts ok
   go_wp2
   go_region
   all_goals
    go_wp2
    go_ret
    refine ⟨rfl, ?_⟩
    (repeat (first | with_reducible assumption | with_reducible exact zo _ _ | with_reducible refine zz ?_ | with_reducible refine zr ?_ _ | (with_reducible refine yF ?_ _ zD)))
 ·have HL : labels C.ts k = false := by unfold labels; simp [h1]
  rw [HL]
  clear HL
  have b1 : ((zp C.ts k).kind == 1) = false := by simp [h1]
  clear h1
  go_enter Tryz.func120, Tryz.ntmps120
  go_wp2_with fail
  refine (zk HT).mono ?_
  rintro e w1 ⟨rfl, hg⟩
  go_wp2
  go_ret
  exact ⟨rfl, hg⟩
end Go.Proofs.YtheknbfbneghgaaGreatDoor
