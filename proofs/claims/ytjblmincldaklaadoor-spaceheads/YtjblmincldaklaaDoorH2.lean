/- SpaceHeads, walked. -/
import Derived.Test.YtjblmincldaklaaDoorH1
namespace Go.Proofs.YtjblmincldaklaaDoor
open Go.RowKit Go.Proofs.YtjblmincldaklaaDoor.Hp
theorem Tryd.info49 : (Tryd.prog.info? 49).map (fun i => (i.zero, i.size, i.bytes)) = some (some (.agg #[.int .i64 0, .int .i64 0, .int .i64 0]), 3, 24) := by kernel_rfl
/-- The arrays that are handed in. -/
def GridAt (w : World) (a0 : Option Addr) (zs : List (Int × Int × Int)) : Prop := ∀ j x, zs[j]? = some x → ∃ b off, a0 = some ⟨b, off, none⟩ ∧ b < w.heap.size ∧ w.cell? ⟨b, off + j * 3, none⟩ = some (.int .i64 x.1) ∧ w.cell? ⟨b, off + j * 3 + 1, none⟩ = some (.int .i64 x.2.1) ∧ w.cell? ⟨b, off + j * 3 + 2, none⟩ = some (.int .i64 x.2.2)
set_option maxRecDepth 100000 in
set_option maxHeartbeats 4000000 in
theorem heads_any (a0 : Option Addr) (cap : Nat) (zs : List (Int × Int × Int)) (w : World) (hV : Vars w) (hm : zs.length ≤ maxLen) (hc : GridAt w a0 zs) :
    Calls Tryd.prog 5 #[.slice a0 zs.length cap] w fun e w' => e = .returned (.bool true) ∧ Below w.heap.size w w' := by
  have HA := hide (anchor_any w hV)
  have hsz := hV.size
  unfold maxLen at hm
  have HR : Hid (∀ W, Fr (fun _ => False) w W → Below w.heap.size w W) := hide fun W hF => hF.below (Nat.le_refl _) (fun _ x => x.elim)
  obtain ⟨len, hlen⟩ : ∃ len, len = zs.length := ⟨_, rfl⟩
  have HC := hide hc
  rw [← hlen] at hm ⊢
  have HLn := hide hlen
  clear hV hc hlen
  by_cases hb : len ≤ 40
  · clear hm
    go_enter Tryd.func5, Tryd.ntmps5
    go_wp2_with (first | (go_at_call 7; refine (unhide HA).mono ?_; rintro e w1 ⟨rfl, hF1, hV1⟩; have HF1 := hide hF1; have HN := hide (SNew_any 32768 w1 (by omega) (by omega) hV1); clear hF1 hV1) | (go_at_call 8; refine (unhide HN).mono ?_; rintro e w2 ⟨B, p, rfl, hL⟩; have HL := hide hL; clear hL))
    have hw1 : 2 ≤ w1.heap.size := Nat.le_trans hsz (unhide HF1).size
    have HM0 : Hid (HdM w1 w2 B p (emptyA 512) (fun _ => 0) (.slice none 0 0) (.slice none 0 0) (.slice none 0 0) []) := hide ⟨unhide HL, World.ownsRow_nil _ _ _ _, World.ownsRow_nil _ _ _ _, fun g hg => by simp [Value.ownBlock] at hg, fun g hg => by simp [Value.ownBlock] at hg, Hds.start, hw1⟩
    clear HL HN HA
    go_loopg [4, 5, 30] len (fun gh va vm i wr => ∃ j : Nat, j ≤ len ∧ Hid (gh = len - j) ∧ i = .int .i64 j ∧ ∃ A wd hv L, L.length ≤ j ∧ Hid (HdM w1 wr B p A wd hv va vm L))
    case atStart => exact ⟨0, by omega, hide (by omega), rfl, _, _, _, [], by simp, HM0⟩
    case round =>
      obtain ⟨j, hj, hgh, rfl, A, wd, hv, L, hLj, hM⟩ := hrel
      obtain ⟨aa, ca, rfl, _⟩ := own_form (unhide hM).rva
      obtain ⟨am, cm, rfl, _⟩ := own_form (unhide hM).rvm
      obtain ⟨q, hq⟩ : ∃ q, q = L.length := ⟨_, rfl⟩
      rw [← hq] at hM hLj ⊢
      have HQ := hide hq
      clear hq
      by_cases hlt : j < len
      · have hjz : j < zs.length := by have := unhide HLn; omega
        obtain ⟨⟨x0, x1, x2⟩, hx⟩ : ∃ x, zs[j]? = some x := ⟨zs[j], by simp [hjz]⟩
        obtain ⟨b, off, rfl, hb1, c0, c1, c2⟩ := unhide HC j _ hx
        have hFw := (unhide HF1).trans (unhide hM).lw.far
        have d0 := cell_far hFw hb1 c0
        have d1 := cell_far hFw hb1 c1
        have d2 := cell_far hFw hb1 c2
        have hbw := Nat.lt_of_lt_of_le hb1 hFw.size
        simp only [] at d0 d1 d2
        clear c0 c1 c2 hx hjz hFw hb1
        by_cases hbig : 500 < x1 ∧ x1 ≤ 16447
        · obtain ⟨hb2, hb3⟩ := hbig
          have HE : Hid (Below w.heap.size w (wr.alloc (Obj.cells #[Value.int IntKind.i64 x0, Value.int IntKind.i64 x1, Value.int IntKind.i64 x2] 49))) := hide (unhide HR _ (((unhide HF1).trans (unhide hM).lw.far).alloc _))
          go_wp2
          go_ret
          exact ⟨rfl, unhide HE⟩
        · have HMq := hide ((unhide hM).quiet ((Fr.refl (fun _ => False) wr).alloc (Obj.cells #[Value.int IntKind.i64 x0, Value.int IntKind.i64 x1, Value.int IntKind.i64 x2] 49)))
          have hXq : XC (wr.alloc (Obj.cells #[Value.int IntKind.i64 x0, Value.int IntKind.i64 x1, Value.int IntKind.i64 x2] 49)) wr.heap.size x0 x1 x2 := by
            unfold XC
            refine ⟨?_, ?_, ?_⟩ <;> (rw [World.cell?_alloc_at _ _ _ _ rfl]; rfl)
          have hnb : ¬ SpK B p hv wr.heap.size := fun hk => by have := ((unhide hM).lw.sp.lt hk).2; omega
          by_cases hR : Right x0 x1 x2
          · have HMk := hide (make_x (unhide HMq) (by have := unhide HQ; omega) hR (by unfold Right at hR; omega) hXq hnb)
            have hR' := hR
            unfold Right at hR'
            obtain ⟨r1, r2, r3, r4, r5, r6⟩ := hR'
            have r7 : x1 ≤ 500 := by omega
            have hq40 : L.length < 40 := by have := unhide HQ; omega
            clear hR hbig hnb hXq
            go_wp2_with (first | (go_at_call 15; refine (hold_x (unhide HP) hq40).mono ?_; rintro e w4 ⟨rfl, hv4, hN4, hX4⟩; obtain ⟨y0, y1, y2⟩ := hX4; have HN4 := hide hN4; clear hN4) | (go_at_call 12; refine (unhide HMk).mono ?_; rintro e w3 ⟨a3, rfl, A3, wd3, hP⟩; have HP := hide hP; obtain ⟨y0, y1, y2⟩ := hP.xc; clear hP))
            obtain ⟨i1, hi, hz0, hz1, hz2⟩ := info_parts Tryd.info3
            obtain ⟨i2, ki, kz0, kz1, kz2⟩ := info_parts Tryd.info49
            have HVa := hide (unhide HN4).rva
            have HVm := hide (unhide HN4).rvm
            have hw4 : w1.heap.size ≤ w4.heap.size := (unhide HN4).lw.far.size
            rw [← unhide HQ] at HVa HVm
            have HO1 := hide (fun W0 W1 g => app_1 (W0 := W0) (W1 := W1) (g := g) (unhide HN4))
            have HO2 := hide (fun W1 W2 W3 g c g2 c2 => app_2 (W1 := W1) (W2 := W2) (W3 := W3) (g := g) (c := c) (g2 := g2) (c2 := c2) (unhide HN4))
            rw [← unhide HQ] at HO1 HO2
            have hbx : wr.heap.size < w4.heap.size := World.block_lt_of_cell? w4 ⟨wr.heap.size, 0, none⟩ y0
            have HXC : Hid (∀ W, Fr (fun j => (Value.slice aa q ca).ownBlock = some j ∨ (Value.slice am q cm).ownBlock = some j) w4 W → XC W wr.heap.size x0 x1 x2) := hide fun W hF => XC.fr ⟨y0, y1, y2⟩ hF (fun e => by
              rcases e with e | e
              · have := ((unhide hM).rva.lt _ e).2; omega
              · have := ((unhide hM).rvm.lt _ e).2; omega)
            have HCm : Hid (∀ (W0 W1 : World) (s : Nat), Fr (fun _ => False) w4 W0 → W0.grownBy W1 (Value.slice aa q ca).ownBlock → (∀ j u, ([.int .i64 x0, .int .i64 x1, .int .i64 x2] : List Value)[j]? = some u → W0.cell? ((⟨s, 0, none⟩ : Addr).add j) = some u) → w4.heap.size ≤ s → s < W0.heap.size → (∀ j u, ([.int .i64 x0, .int .i64 x1, .int .i64 x2] : List Value)[j]? = some u → W1.cell? ((⟨s, 0, none⟩ : Addr).add j) = some u)) := hide fun W0 W1 s hF hg hc h1 h2 => cells_far hc (Fr.grown hg) h2 (fun e => by have := ((unhide HVa).lt s e.symm).2; omega)
            have HVa2 : Hid (World.ownsRow (((w4.alloc (Obj.cells #[Value.int IntKind.i64 (a3 : Int)] 3)).alloc (Obj.cells #[Value.int IntKind.i64 x0, Value.int IntKind.i64 x1, Value.int IntKind.i64 x2] 49)).drew) w1.heap.size 3 1 (.slice aa q ca) q (atC L)) := hide (own_blk (((unhide HVa).alloc (Obj.cells #[Value.int IntKind.i64 (a3 : Int)] 3)).alloc (Obj.cells #[Value.int IntKind.i64 x0, Value.int IntKind.i64 x1, Value.int IntKind.i64 x2] 49)) (fun _ _ => rfl))
            have HVa3 : Hid (World.ownsRow (((w4.alloc (Obj.cells #[Value.int IntKind.i64 x0, Value.int IntKind.i64 x1, Value.int IntKind.i64 x2] 49)).alloc (Obj.cells #[Value.int IntKind.i64 (a3 : Int)] 3)).drew) w1.heap.size 3 1 (.slice aa q ca) q (atC L)) := hide (own_blk (((unhide HVa).alloc (Obj.cells #[Value.int IntKind.i64 x0, Value.int IntKind.i64 x1, Value.int IntKind.i64 x2] 49)).alloc (Obj.cells #[Value.int IntKind.i64 (a3 : Int)] 3)) (fun _ _ => rfl))
            have HCa2 : Hid (∀ j u, ([.int .i64 (a3 : Int)] : List Value)[j]? = some u → World.cell? (((w4.alloc (Obj.cells #[Value.int IntKind.i64 (a3 : Int)] 3)).alloc (Obj.cells #[Value.int IntKind.i64 x0, Value.int IntKind.i64 x1, Value.int IntKind.i64 x2] 49)).drew) ((⟨w4.heap.size, 0, none⟩ : Addr).add j) = some u) := hide (cells_far (cell_one_new w4 (.int .i64 (a3 : Int)) 3) (Fr.drew (Fr.alloc (Fr.refl (fun _ => False) _) _)) (by simp) id)
            have HCa3 : Hid (∀ j u, ([.int .i64 (a3 : Int)] : List Value)[j]? = some u → World.cell? (((w4.alloc (Obj.cells #[Value.int IntKind.i64 x0, Value.int IntKind.i64 x1, Value.int IntKind.i64 x2] 49)).alloc (Obj.cells #[Value.int IntKind.i64 (a3 : Int)] 3)).drew) ((⟨w4.heap.size + 1, 0, none⟩ : Addr).add j) = some u) := hide (by
              have := cell_one_new (w4.alloc (Obj.cells #[Value.int IntKind.i64 x0, Value.int IntKind.i64 x1, Value.int IntKind.i64 x2] 49)) (.int .i64 (a3 : Int)) 3
              rw [show (w4.alloc (Obj.cells #[Value.int IntKind.i64 x0, Value.int IntKind.i64 x1, Value.int IntKind.i64 x2] 49)).heap.size = w4.heap.size + 1 by simp] at this
              exact cells_far this (Fr.drew (Fr.refl (fun _ => False) _)) (by simp) id)
            have HCm2 : Hid (∀ j u, ([.int .i64 x0, .int .i64 x1, .int .i64 x2] : List Value)[j]? = some u → World.cell? (((w4.alloc (Obj.cells #[Value.int IntKind.i64 (a3 : Int)] 3)).alloc (Obj.cells #[Value.int IntKind.i64 x0, Value.int IntKind.i64 x1, Value.int IntKind.i64 x2] 49)).drew) ((⟨w4.heap.size + 1, 0, none⟩ : Addr).add j) = some u) := hide (cells_far (cells3 (w4.alloc (Obj.cells #[Value.int IntKind.i64 (a3 : Int)] 3)) x0 x1 x2 (by simp)) (Fr.drew (Fr.refl (fun _ => False) _)) (by simp) id)
            have HCm3 : Hid (∀ j u, ([.int .i64 x0, .int .i64 x1, .int .i64 x2] : List Value)[j]? = some u → World.cell? (((w4.alloc (Obj.cells #[Value.int IntKind.i64 x0, Value.int IntKind.i64 x1, Value.int IntKind.i64 x2] 49)).alloc (Obj.cells #[Value.int IntKind.i64 (a3 : Int)] 3)).drew) ((⟨w4.heap.size, 0, none⟩ : Addr).add j) = some u) := hide (cells_far (cells3 w4 x0 x1 x2 rfl) (Fr.drew (Fr.alloc (Fr.refl (fun _ => False) _) _)) (by simp) id)
            go_region_law (first
              | (refine step_append_lies _ rfl _ _ 48 rfl w1.heap.size 49 i2 (.agg #[.int .i64 0, .int .i64 0, .int .i64 0]) 3 24 Tryd.underlying48 ki kz0 kz1 kz2 rfl (by decide) (.slice am q cm) q (mdC L) (by simp [Act.eval]) (unhide HV1) ⟨w4.heap.size + 1, 0, none⟩ 1 1 [.int .i64 x0, .int .i64 x1, .int .i64 x2] ?_ rfl (unhide HC1) (ints_oneCell .i64 [x0, x1, x2]) (by decide) (by unfold maxLen; omega) (by omega) (by first | omega | (simp; omega)) _ rfl ?_; (· (simp [Act.eval]; done)); intro g2 cap2 W2 ho2 hgr2 hat2 hlt2; have HM5 := hide (unhide HO2 _ _ _ _ _ _ _ (unhide HA1) (unhide HV1) (unhide HT1) (unhide HW1) (by (repeat' (first | exact Fr.refl _ _ | refine Fr.alloc ?_ _ | refine Fr.drew ?_))) ho2 hgr2 hat2); clear ho2 hgr2 hat2 hlt2)
              | (refine step_append_lies _ rfl _ _ 48 rfl w1.heap.size 49 i2 (.agg #[.int .i64 0, .int .i64 0, .int .i64 0]) 3 24 Tryd.underlying48 ki kz0 kz1 kz2 rfl (by decide) (.slice am q cm) q (mdC L) (by simp [Act.eval]) (unhide HV1) ⟨w4.heap.size, 0, none⟩ 1 1 [.int .i64 x0, .int .i64 x1, .int .i64 x2] ?_ rfl (unhide HC2) (ints_oneCell .i64 [x0, x1, x2]) (by decide) (by unfold maxLen; omega) (by omega) (by first | omega | (simp; omega)) _ rfl ?_; (· (simp [Act.eval]; done)); intro g2 cap2 W2 ho2 hgr2 hat2 hlt2; have HM5 := hide (unhide HO2 _ _ _ _ _ _ _ (unhide HA1) (unhide HV1) (unhide HT1) (unhide HW1) (by (repeat' (first | exact Fr.refl _ _ | refine Fr.alloc ?_ _ | refine Fr.drew ?_))) ho2 hgr2 hat2); clear ho2 hgr2 hat2 hlt2)
              | (refine step_append_lies _ rfl _ _ 48 rfl w1.heap.size 49 i2 (.agg #[.int .i64 0, .int .i64 0, .int .i64 0]) 3 24 Tryd.underlying48 ki kz0 kz1 kz2 rfl (by decide) (.slice am q cm) q (mdC L) (by simp [Act.eval]) ((unhide HV1).alloc _) ⟨W1.heap.size, 0, none⟩ 1 1 [.int .i64 x0, .int .i64 x1, .int .i64 x2] ?_ rfl (cells3 _ _ _ _ rfl) (ints_oneCell .i64 [x0, x1, x2]) (by decide) (by unfold maxLen; omega) (by omega) (by first | omega | (simp; omega)) _ rfl ?_; (· (simp [Act.eval]; done)); intro g2 cap2 W2 ho2 hgr2 hat2 hlt2; have HM5 := hide (unhide HO2 _ _ _ _ _ _ _ (unhide HA1) (unhide HV1) (unhide HT1) (unhide HW1) (by (repeat' (first | exact Fr.refl _ _ | refine Fr.alloc ?_ _ | refine Fr.drew ?_))) ho2 hgr2 hat2); clear ho2 hgr2 hat2 hlt2)
              | (refine step_append_lies _ rfl _ _ 31 rfl w1.heap.size 3 i1 (.int .i64 0) 1 8 Tryd.underlying31 hi hz0 hz1 hz2 rfl (by decide) (.slice aa q ca) q (atC L) (by simp [Act.eval]) (unhide HVa3) ⟨w4.heap.size + 1, 0, none⟩ 1 1 [.int .i64 (a3 : Int)] ?_ rfl (unhide HCa3) (ints_oneCell .i64 [(a3 : Int)]) (by decide) (by unfold maxLen; omega) (by omega) (by first | omega | (simp; omega)) _ rfl ?_; (· (simp [Act.eval]; done)); intro g1 cap1 W1 ho1 hgr1 hat1 hlt1; obtain ⟨hA1, hV1, hT1⟩ := unhide HO1 _ _ _ (by (repeat' (first | exact Fr.refl _ _ | refine Fr.alloc ?_ _ | refine Fr.drew ?_))) hgr1 hat1; obtain ⟨z0, z1, z2⟩ := unhide HXC _ hA1; have HC2 := hide (unhide HCm _ _ _ (by (repeat' (first | exact Fr.refl _ _ | refine Fr.alloc ?_ _ | refine Fr.drew ?_))) hgr1 (unhide HCm3) (by omega) (by first | omega | (simp; omega))); have HA1 := hide hA1; have HV1 := hide hV1; have HT1 := hide hT1; have HW1 := hide ho1; have hs1 : w4.heap.size ≤ W1.heap.size := hA1.size; clear hA1 hV1 hT1 ho1 hgr1 hat1 hlt1)
              | (refine step_append_lies _ rfl _ _ 31 rfl w1.heap.size 3 i1 (.int .i64 0) 1 8 Tryd.underlying31 hi hz0 hz1 hz2 rfl (by decide) (.slice aa q ca) q (atC L) (by simp [Act.eval]) (unhide HVa2) ⟨w4.heap.size, 0, none⟩ 1 1 [.int .i64 (a3 : Int)] ?_ rfl (unhide HCa2) (ints_oneCell .i64 [(a3 : Int)]) (by decide) (by unfold maxLen; omega) (by omega) (by first | omega | (simp; omega)) _ rfl ?_; (· (simp [Act.eval]; done)); intro g1 cap1 W1 ho1 hgr1 hat1 hlt1; obtain ⟨hA1, hV1, hT1⟩ := unhide HO1 _ _ _ (by (repeat' (first | exact Fr.refl _ _ | refine Fr.alloc ?_ _ | refine Fr.drew ?_))) hgr1 hat1; obtain ⟨z0, z1, z2⟩ := unhide HXC _ hA1; have HC1 := hide (unhide HCm _ _ _ (by (repeat' (first | exact Fr.refl _ _ | refine Fr.alloc ?_ _ | refine Fr.drew ?_))) hgr1 (unhide HCm2) (by omega) (by first | omega | (simp; omega) | (simp; done))); have HA1 := hide hA1; have HV1 := hide hV1; have HT1 := hide hT1; have HW1 := hide ho1; have hs1 : w4.heap.size ≤ W1.heap.size := hA1.size; clear hA1 hV1 hT1 ho1 hgr1 hat1 hlt1)
              | (refine step_append_lies _ rfl _ _ 31 rfl w1.heap.size 3 i1 (.int .i64 0) 1 8 Tryd.underlying31 hi hz0 hz1 hz2 rfl (by decide) (.slice aa q ca) q (atC L) (by simp [Act.eval]) ((unhide HVa).alloc _) ⟨w4.heap.size, 0, none⟩ 1 1 [.int .i64 (a3 : Int)] ?_ rfl (cell_one_new _ _ _) (ints_oneCell .i64 [(a3 : Int)]) (by decide) (by unfold maxLen; omega) (by omega) (by first | omega | (simp; omega)) _ rfl ?_; (· (simp [Act.eval]; done)); intro g1 cap1 W1 ho1 hgr1 hat1 hlt1; obtain ⟨hA1, hV1, hT1⟩ := unhide HO1 _ _ _ (by (repeat' (first | exact Fr.refl _ _ | refine Fr.alloc ?_ _ | refine Fr.drew ?_))) hgr1 hat1; obtain ⟨z0, z1, z2⟩ := unhide HXC _ hA1; have HA1 := hide hA1; have HV1 := hide hV1; have HT1 := hide hT1; have HW1 := hide ho1; have hs1 : w4.heap.size ≤ W1.heap.size := hA1.size; clear hA1 hV1 hT1 ho1 hgr1 hat1 hlt1))
            all_goals go_wp2
            all_goals go_roundg (len - (j + 1))
            all_goals first
              | exact ⟨j + 1, by omega, hide rfl, by go_num, _, _, _, L ++ [⟨a3, x0, x1, x2⟩], by have := unhide HQ; rw [List.length_append]; simp; omega, HM5⟩
              | (have := unhide hgh; omega)
          · have HMk := hide (make_n (unhide HMq) hR)
            have hR' : ¬ (1 ≤ x0 ∧ x0 ≤ 4 ∧ 0 ≤ x1 ∧ x1 ≤ 16447 ∧ 0 ≤ x2 ∧ x2 ≤ 65535) := hR
            have HRl : Hid (∀ W, HdM w1 W B p A wd hv (.slice aa q ca) (.slice am q cm) L → ∃ j' : Nat, j' ≤ len ∧ Hid (len - (j + 1) = len - j') ∧ Value.int .i64 ((j : Int) + 1) = .int .i64 (j' : Int) ∧ ∃ A wd hv L, L.length ≤ j' ∧ Hid (HdM w1 W B p A wd hv (.slice aa q ca) (.slice am q cm) L)) := hide fun W hW => ⟨j + 1, by omega, hide rfl, by go_num, A, wd, hv, L, by have := unhide HQ; omega, hide hW⟩
            clear hR hnb hXq hM HMq
            have hc6 : x0 < 1 ∨ (1 ≤ x0 ∧ 4 < x0) ∨ (1 ≤ x0 ∧ x0 ≤ 4 ∧ x1 < 0) ∨ (1 ≤ x0 ∧ x0 ≤ 4 ∧ 0 ≤ x1 ∧ 16447 < x1) ∨ (1 ≤ x0 ∧ x0 ≤ 4 ∧ 0 ≤ x1 ∧ x1 ≤ 16447 ∧ x2 < 0) ∨ (1 ≤ x0 ∧ x0 ≤ 4 ∧ 0 ≤ x1 ∧ x1 ≤ 16447 ∧ 0 ≤ x2 ∧ 65535 < x2) := by omega
            have hbg : x1 ≤ 500 ∨ 16447 < x1 := by omega
            clear hR' hbig
            rcases hc6 with s1 | ⟨s1, s2⟩ | ⟨s1, s2, s3⟩ | ⟨s1, s2, s3, s4⟩ | ⟨s1, s2, s3, s4, s5⟩ | ⟨s1, s2, s3, s4, s5, s6⟩ <;> rcases hbg with hbg | hbg
            all_goals first | (exfalso; omega) | skip
            all_goals go_wp2_with (first | (go_at_call 12; refine (unhide HMk).mono ?_; rintro e w3 ⟨rfl, hM3⟩; have HM3 := hide hM3; clear hM3))
            all_goals go_roundg (len - (j + 1))
            all_goals first
              | exact unhide HRl _ (unhide HM3)
              | (have := unhide hgh; omega)
      · obtain rfl : j = len := by omega
        go_wp2
        obtain ⟨wm, rfl⟩ : ∃ wm, wm = wr := ⟨_, rfl⟩
        have hq40 : q ≤ 40 := by omega
        go_loopg [107] q (fun gh i wr => ∃ t : Nat, t ≤ q ∧ Hid (gh = q - t) ∧ i = .int .i64 t ∧ Hid (HdM w1 wr B p A wd hv (.slice aa q ca) (.slice am q cm) L))
        case atStart => exact ⟨0, by omega, hide (by omega), rfl, hM⟩
        case round =>
          clear hM
          obtain ⟨t, ht, hgt, rfl, hM⟩ := hrel
          by_cases htq : t < q
          · obtain ⟨⟨xa, xk, xs, xm⟩, hx⟩ : ∃ i, L[t]? = some i := ⟨L[t]'(by have := unhide HQ; omega), by simp⟩
            have hM' := unhide hM
            have hit := it_in hM' hx
            have hrt := hit.1.rt
            rw [unhide HQ] at hM'
            obtain ⟨ga, gm, rfl, rfl, hca, hcm, k0, k1, k2, k3⟩ := rows_at hM' hx
            rw [← unhide HQ] at hca hcm
            simp only [] at k0 k1 k2 k3
            have HHe := hide (head_x (unhide hM) hx)
            have hb1 : hasB A wd (xa : Int) xs = false := by unfold hasB; rw [hit.2.2.2.1]; simp
            have hb2 : hasB A wd (xa : Int) (-1) = false := by unfold hasB; simp
            have HS1 := hide (fun W (h : HdM w1 W B p A wd hv (.slice (some ⟨ga, 0, none⟩) q ca) (.slice (some ⟨gm, 0, none⟩) q cm) L) => set_x h (xa : Int) xs 1 hb1)
            have HS2 := hide (fun W (h : HdM w1 W B p A wd hv (.slice (some ⟨ga, 0, none⟩) q ca) (.slice (some ⟨gm, 0, none⟩) q cm) L) => set_x h (xa : Int) (-1) 1 hb2)
            have HX := hide hx
            have HRw : Hid (∀ W, HdM w1 W B p A wd hv (.slice (some ⟨ga, 0, none⟩) q ca) (.slice (some ⟨gm, 0, none⟩) q cm) L → W.cell? ⟨gm, t * 3, none⟩ = some (.int .i64 xk) ∧ W.cell? ⟨gm, t * 3 + 1, none⟩ = some (.int .i64 xs) ∧ W.cell? ⟨gm, t * 3 + 2, none⟩ = some (.int .i64 xm)) := hide fun W hW => by
              have h5 := hW
              rw [unhide HQ] at h5
              obtain ⟨ga', gm', e1, e2, _, _, _, j1, j2, j3⟩ := rows_at h5 hx
              cases e2
              exact ⟨j1, j2, j3⟩
            obtain ⟨n, hn⟩ : ∃ n : Nat, xs = n := ⟨xs.toNat, by have := hrt; unfold Right at this; simp only [] at this; omega⟩
            subst hn
            have hn2 : n ≤ 16447 := by have := hrt; unfold Right at this; simp only [] at this; omega
            clear hM' hit hrt hb1 hb2 hx
            simp only [] at HHe
            go_wp2_with (first | (go_at_call 13; refine (unhide HS2 _ (unhide HM4)).mono ?_; rintro e w5 ⟨rfl, hM5⟩; have HM5 := hide hM5; clear hM5) | (go_at_call 13; refine (unhide HS1 _ (unhide HM3)).mono ?_; rintro e w4 ⟨rfl, hM4⟩; have HM4 := hide hM4; clear hM4) | (go_at_call 19; refine (unhide HHe).mono ?_; rintro e w3 ⟨rfl, hM3⟩; have HM3 := hide hM3; obtain ⟨m1, m2, m3⟩ := unhide HRw _ hM3; clear hM3))
            clear HHe HS1 HS2 HM3 HM4 m1 m2 m3 k0 k1 k2 k3
            obtain ⟨wk, rfl⟩ : ∃ wk, wk = wr := ⟨_, rfl⟩
            go_loopg [16] n (fun gi i wr => ∃ u : Nat, u ≤ n ∧ Hid (gi = n - u) ∧ i = .int .i64 u ∧ Hid (HdM w1 wr B p A wd hv (.slice (some ⟨ga, 0, none⟩) q ca) (.slice (some ⟨gm, 0, none⟩) q cm) L))
            case atStart => exact ⟨0, by omega, hide (by omega), rfl, HM5⟩
            case round =>
              clear HM5 hM
              obtain ⟨u, hu, hgu, rfl, hM⟩ := hrel
              by_cases hun : u < n
              · have HG := hide (get_x (unhide hM) (unhide HX) (q := u) (by simp only []; omega))
                simp only [] at HG
                go_wp2_with (first | (go_at_call 16; refine (unhide HG).mono ?_; rintro e w6 ⟨rfl, hM6⟩; have HM6 := hide hM6; clear hM6))
                go_roundg (n - (u + 1))
                case measure => have := unhide hgu; omega
                case rel => exact ⟨u + 1, by omega, hide rfl, by go_num, HM6⟩
              · go_wp2
                go_roundg (q - (t + 1))
                case measure => have := unhide hgt; omega
                case rel => exact ⟨t + 1, by omega, hide rfl, by go_num, hM⟩
          · have HH1 := hide (head_1 (unhide hM))
            have HG1 := hide (fun W (h : HdM w1 W B p A wd hv (.slice aa q ca) (.slice am q cm) L) => get_1 h)
            have HS1 := hide (fun W (h : HdM w1 W B p A wd hv (.slice aa q ca) (.slice am q cm) L) => set_x h 1 0 1 (has_1 h))
            go_wp2_with (first | (go_at_call 13; refine (unhide HS1 _ (unhide HM4)).mono ?_; rintro e w5 ⟨rfl, hM5⟩; have HM5 := hide hM5; clear hM5) | (go_at_call 16; refine (unhide HG1 _ (unhide HM3)).mono ?_; rintro e w4 ⟨rfl, hM4⟩; have HM4 := hide hM4; clear hM4) | (go_at_call 19; refine (unhide HH1).mono ?_; rintro e w3 ⟨rfl, hM3⟩; have HM3 := hide hM3; clear hM3))
            go_ret
            exact ⟨rfl, unhide HR _ ((unhide HF1).trans (unhide HM5).lw.far)⟩
  · go_enter Tryd.func5, Tryd.ntmps5
    go_wp2_with (first | (go_at_call 7; refine (unhide HA).mono ?_; rintro e w1 ⟨rfl, hF1, hV1⟩; have HF1 := hide hF1; clear hF1 hV1))
    all_goals first | (exfalso; omega) | (go_ret; exact ⟨rfl, unhide HR _ (unhide HF1)⟩)
end Go.Proofs.YtjblmincldaklaaDoor
