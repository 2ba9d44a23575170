/- A step of both heaps: Store. -/
import Derived.Test.YtkhegceikdegbaaDoorRg5
import Derived.Deep.RegionHeld2
namespace Go.Proofs.YtkhegceikdegbaaDoor
open Go.RowKit Go.Proofs.YtkhegceikdegbaaDoor.Hp
set_option maxRecDepth 100000 in
set_option maxHeartbeats 8000000 in
theorem step_4 (w0 w : World) (B : HB) (pb base N : Nat) (A : Nat → Kd) (wd : Nat → Int) (L : List Rb) (lv : Value) (n k v : Int) (hP : Pl w0 w B pb base N A wd L lv) (hS : Ps w0 B pb base) (hf : L.length ≤ 4000) (hn : -9223372036854775808 ≤ n ∧ n < 9223372036854775808) :
    Calls Tryd.prog 11 #[B.ptr, .pointer (some ⟨pb, 0, none⟩), .agg #[.int .i64 4, .int .i64 n, .int .i64 k, .int .i64 v]] w fun e w' => StepP w0 B pb base N L e w' := by
  obtain ⟨wA, hwA⟩ : ∃ wA, wA = w.alloc (.cells #[.int .i64 4, .int .i64 n, .int .i64 k, .int .i64 v] 30) := ⟨_, rfl⟩
  have hPA : Pl w0 wA B pb base N A wd L lv := by rw [hwA]; exact hP.quiet ((Fr.refl _ w).alloc _)
  have hob : w.heap.size < wA.heap.size := by rw [hwA]; simp
  have hnb : ¬ B.mem w.heap.size := fun x => by have := (hS.mem _ x).2; have := hP.le; omega
  have o1 : wA.cell? ⟨w.heap.size, 1, none⟩ = some (.int .i64 n) := by rw [hwA, World.cell?_alloc_at _ _ _ _ rfl]; rfl
  have o2 : wA.cell? ⟨w.heap.size, 2, none⟩ = some (.int .i64 k) := by rw [hwA, World.cell?_alloc_at _ _ _ _ rfl]; rfl
  have o3 : wA.cell? ⟨w.heap.size, 3, none⟩ = some (.int .i64 v) := by rw [hwA, World.cell?_alloc_at _ _ _ _ rfl]; rfl
  have h00 : ¬ B.mem 0 := fun x => by have := hS.h0 0 x; omega
  have h01 : ¬ B.mem 1 := fun x => by have := hS.h0 1 x; omega
  have hle := hPA.le
  have HP := hide hPA
  have HS := hide hS
  obtain ⟨ao, cp, rfl, hg⟩ := hPA.ref.form
  have cL := hPA.ref.cL
  have HN := hide (nth_ref pb base N n L _ wA hPA.ref hn)
  have HCg : Hid (∀ b ∈ L, b.gw < w.heap.size) := hide fun b hb => (hP.wrd b hb).2.1
  clear hP hS hPA
  by_cases hd : L.length = 0 ∨ n < 0
  · rw [if_pos hd] at HN
    have HT2 : Hid (StepP w0 B pb base N L (.returned (.bool true)) wA) := hide ⟨rfl, _, _, _, _, unhide HP, by omega⟩
    unfold HB.ptr
    go_enter Tryd.func11, Tryd.ntmps11
    go_wp2_with fail
    rw [← hwA]
    clear hwA
    generalize w.heap.size = ob at *
    refine (unhide HN).mono ?_
    rintro e w1 ⟨rfl, rfl⟩
    clear HN
    go_wp2
    go_ret
    exact unhide HT2
  · rw [if_neg hd] at HN
    have hl0 : 0 < L.length := by omega
    obtain ⟨i, hi⟩ : ∃ i : Nat, n % (L.length : Int) = i := ⟨(n % (L.length : Int)).toNat, by have := Int.emod_nonneg n (show (L.length : Int) ≠ 0 by omega); omega⟩
    have hiL : i < L.length := by have := Int.emod_lt_of_pos n (show (0 : Int) < (L.length : Int) by omega); omega
    rw [hi] at HN
    obtain ⟨g, hg⟩ := hg hl0
    subst hg
    obtain ⟨c, hc⟩ : ∃ c, L[i]? = some c := ⟨L[i], by simp [hiL]⟩
    obtain ⟨c0, c1, c2⟩ := (unhide HP).ref.cells hc
    have hcr := (unhide HP).mt.room c (List.mem_of_getElem? hc)
    have HCc := hide hc
    have HCr := hide hcr
    clear hcr hc hi hd
    by_cases hk : 0 ≤ k ∧ k < c.room
    · obtain ⟨hk0, hk1⟩ := hk
      obtain ⟨q, rfl⟩ : ∃ q : Nat, k = q := ⟨k.toNat, by omega⟩
      unfold HB.ptr
      go_enter Tryd.func11, Tryd.ntmps11
      go_wp2_with fail
      rw [← hwA]
      clear hwA
      generalize w.heap.size = ob at *
      refine (unhide HN).mono ?_
      rintro e w1 ⟨rfl, rfl⟩
      clear HN
      go_wp2_with fail
      go_quiet (fail)
      all_goals
        have hQ : Fr (fun _ => False) w1 (w1.drewN nq) := (Fr.refl _ _).drewN _
        generalize w1.drewN nq = wB at *
        have hPB := (unhide HP).quiet hQ
        have p1 := cell_q hQ hob o1
        have p2 := cell_q hQ hob o2
        have p3 := cell_q hQ hob o3
        have cL2 := hPB.ref.cL
        obtain ⟨d0, d1, d2⟩ := hPB.ref.cells (unhide HCc)
        obtain ⟨cw, fw⟩ : wB.cell? ⟨c.gw, q, none⟩ = some (.int .i64 (wd (c.at_ + q))) ∧ wB.frozen? ⟨c.gw, q, none⟩ = false := (hPB.wrd c (List.mem_of_getElem? (unhide HCc))).2.2.2 q (by omega)
        have hobB : ob < wB.heap.size := Nat.lt_of_lt_of_le hob hQ.size
        have n3 : ob ≠ c.gw := by have := unhide HCg c (List.mem_of_getElem? (unhide HCc)); omega
        have n1 : pb ≠ c.gw := by have := (hPB.wrd c (List.mem_of_getElem? (unhide HCc))).1; have := (unhide HS).pb2; omega
        have n2 : g ≠ c.gw := fun e => (hPB.wrd c (List.mem_of_getElem? (unhide HCc))).2.2.1 (by rw [← e]; rfl)
        have m1 := n1.symm
        have m2 := n2.symm
        have m3 := n3.symm
        have HPB := hide hPB
        clear hPB hQ o1 o2 o3 cL c0 c1 c2
        go_wp2_with fail
        go_region_held2 (fun w' => w'.cell? ⟨pb, 1, none⟩ = some (.slice (some ⟨g, 0, none⟩) L.length cp) ∧ w'.cell? ⟨g, i * 3 + 2, none⟩ = some (.slice (some ⟨c.gw, 0, none⟩) c.room c.room) ∧ w'.cell? ⟨ob, 2, none⟩ = some (.int .i64 q) ∧ w'.cell? ⟨ob, 3, none⟩ = some (.int .i64 v) ∧ w'.frozen? ⟨c.gw, q, none⟩ = false) (go_keep) (fail)
        have hXF : Fr (· = c.gw) wB (wB.setCell ⟨c.gw, q, none⟩ (.int .i64 v)).drew := ((Fr.refl (· = c.gw) wB).setCell (p := ⟨c.gw, q, none⟩) rfl _).drew
        have HT : Hid (∀ w'', Fr B.mem (wB.setCell ⟨c.gw, q, none⟩ (.int .i64 v)).drew w'' → At w'' B N (hrOf A (upd wd (c.at_ + q) v)) → StepP w0 B pb base N L (.returned (.bool true)) w'') := hide fun w'' k1 k2 => ⟨rfl, _, _, _, _, (unhide HPB).store (unhide HS) (unhide HCc) (by omega) (((Fr.refl _ _).drew).trans k1) k2, by omega⟩
        generalize (wB.setCell ⟨c.gw, q, none⟩ (.int .i64 v)).drew = wC at *
        have hgl : g < wB.heap.size := World.block_lt_of_cell? wB ⟨g, i * 3, none⟩ d0
        have hpl : pb < wB.heap.size := World.block_lt_of_cell? wB ⟨pb, 1, none⟩ cL2
        have hgb := ((unhide HPB).ref.own.lt g rfl).1
        have e1 : wC.cell? ⟨pb, 1, none⟩ = some (.slice (some ⟨g, 0, none⟩) L.length cp) := (World.cell?_of_block (w := wB) (a := ⟨pb, 1, none⟩) (hXF.block pb hpl n1)).trans cL2
        have e2 : wC.cell? ⟨g, i * 3, none⟩ = some (.int .i64 c.at_) := (World.cell?_of_block (w := wB) (a := ⟨g, i * 3, none⟩) (hXF.block g hgl n2)).trans d0
        have e3 : wC.cell? ⟨ob, 2, none⟩ = some (.int .i64 q) := (World.cell?_of_block (w := wB) (a := ⟨ob, 2, none⟩) (hXF.block ob hobB n3)).trans p2
        have e4 : wC.cell? ⟨ob, 3, none⟩ = some (.int .i64 v) := (World.cell?_of_block (w := wB) (a := ⟨ob, 3, none⟩) (hXF.block ob hobB n3)).trans p3
        have hsC := hXF.size
        have hAC : At wC B N (hrOf A wd) := (unhide HPB).at_.fr' hXF fun b hb e => by
          have := ((unhide HPB).wrd c (List.mem_of_getElem? (unhide HCc))).1
          have := ((unhide HS).mem b hb).2
          omega
        have HStC : Hid (∀ w', Fr (fun _ => False) wC w' → Calls Tryd.prog 16 #[.pointer (some ⟨B.p, 0, none⟩), .int .i64 c.at_, .int .i64 q, .int .i64 v] w' fun e w'' => e = .returned (.bool true) ∧ Fr B.mem w' w'' ∧ At w'' B N (hrOf A (upd wd (c.at_ + q) v))) := hide fun w' qq => Store_in B N A wd c.at_ c.room q v w' (hAC.quiet qq) (unhide HPB).inv (unhide HCr).1 (by omega)
        have hpbn := (unhide HS).npb
        have hgn : ¬ B.mem g := fun hb => by have := ((unhide HS).mem g hb).2; omega
        have hlp : pb < wC.heap.size := by omega
        have hlg : g < wC.heap.size := by omega
        have hlo : ob < wC.heap.size := by omega
        clear hAC hXF d0 d1 d2 cw fw p1 p2 p3 cL2
        go_wp2_with fail
        go_region_held2 (fun w' => w'.cell? ⟨pb, 1, none⟩ = some (.slice (some ⟨g, 0, none⟩) L.length cp) ∧ w'.cell? ⟨g, i * 3, none⟩ = some (.int .i64 c.at_) ∧ w'.cell? ⟨ob, 2, none⟩ = some (.int .i64 q) ∧ w'.cell? ⟨ob, 3, none⟩ = some (.int .i64 v)) (go_keep) (first | (go_at_call 16; refine (unhide HStC _ (by first | exact Fr.refl _ _ | exact (Fr.refl _ _).drew)).mono ?_; rintro e w2 ⟨rfl, hF2, hA2⟩; have hW : Fr B.mem wC w2 := (by first | exact hF2 | exact ((Fr.refl _ _).drew).trans hF2); have q1 := cell_m hW hlp hpbn e1; have q2 := cell_m hW hlg hgn e2; have q3 := cell_m hW hlo hnb e3; have q4 := cell_m hW hlo hnb e4; have HT2 := hide (unhide HT _ hW hA2); clear hF2 hA2 hW))
        all_goals
          go_wp2
          go_ret
          exact unhide HT2
    · have hri : roomI A (c.at_ : Int) = c.room := by unfold roomI; rw [if_pos (by omega)]; exact (unhide HCr).1
      have HK : Hid (¬ (0 ≤ k ∧ k < (roomI A (c.at_ : Int) : Int))) := hide (by rw [hri]; exact hk)
      have hd2 : (k < 0 ∧ ¬ (0 ≤ k) ∧ decide ((0 : Int) ≤ k) = false) ∨ (0 ≤ k ∧ ¬ k < (c.room : Int) ∧ decide (k < (c.room : Int)) = false) := by
        by_cases h : 0 ≤ k
        · exact .inr ⟨h, fun e => hk ⟨h, e⟩, decide_eq_false fun e => hk ⟨h, e⟩⟩
        · exact .inl ⟨by omega, h, decide_eq_false h⟩
      clear hri hk
      rcases hd2 with ⟨hk0, hk1, hk2⟩ | ⟨hk0, hk1, hk2⟩
      all_goals
        unfold HB.ptr
        go_enter Tryd.func11, Tryd.ntmps11
        go_wp2_with fail
        rw [← hwA]
        clear hwA
        generalize w.heap.size = ob at *
        refine (unhide HN).mono ?_
        rintro e w1 ⟨rfl, rfl⟩
        clear HN
        go_wp2_with fail
        go_quiet (fail)
        all_goals
          have hQ : Fr (fun _ => False) w1 (w1.drewN nq) := (Fr.refl _ _).drewN _
          generalize w1.drewN nq = wC at *
          have hPB := (unhide HP).quiet hQ
          have e3 := cell_q hQ hob o2
          have e4 := cell_q hQ hob o3
          have e1 := hPB.ref.cL
          obtain ⟨e2, _, _⟩ := hPB.ref.cells (unhide HCc)
          have hlo : ob < wC.heap.size := Nat.lt_of_lt_of_le hob hQ.size
          have hlg : g < wC.heap.size := World.block_lt_of_cell? wC ⟨g, i * 3, none⟩ e2
          have hlp : pb < wC.heap.size := World.block_lt_of_cell? wC ⟨pb, 1, none⟩ e1
          have hgb := (hPB.ref.own.lt g rfl).1
          have hpbn := (unhide HS).npb
          have hgn : ¬ B.mem g := fun hb => by have := ((unhide HS).mem g hb).2; omega
          have HStC : Hid (∀ w', Fr (fun _ => False) wC w' → Calls Tryd.prog 16 #[.pointer (some ⟨B.p, 0, none⟩), .int .i64 c.at_, .int .i64 k, .int .i64 v] w' fun e w'' => e = .returned (.bool false) ∧ Fr B.mem w' w'' ∧ At w'' B N (hrOf A wd)) := hide fun w' qq => Store_no B N A wd c.at_ k v w' (hPB.at_.quiet qq) hPB.inv (unhide HK)
          have HT : Hid (∀ w'', Fr B.mem wC w'' → At w'' B N (hrOf A wd) → StepP w0 B pb base N L (.returned (.bool true)) w'') := hide fun w'' k1 k2 => ⟨rfl, _, _, _, _, hPB.heap (unhide HS) k1 (hPB.vars.fr k1 h00 h01) k2, by omega⟩
          clear hPB hQ o1 o2 o3 cL c0 c1 c2
          go_wp2_with fail
          go_region_held2 (fun w' => w'.cell? ⟨pb, 1, none⟩ = some (.slice (some ⟨g, 0, none⟩) L.length cp) ∧ w'.cell? ⟨g, i * 3, none⟩ = some (.int .i64 c.at_) ∧ w'.cell? ⟨ob, 2, none⟩ = some (.int .i64 k) ∧ w'.cell? ⟨ob, 3, none⟩ = some (.int .i64 v)) (go_keep) (first | (go_at_call 16; refine (unhide HStC _ (by first | exact Fr.refl _ _ | exact (Fr.refl _ _).drew)).mono ?_; rintro e w2 ⟨rfl, hF2, hA2⟩; have hW : Fr B.mem wC w2 := (by first | exact hF2 | exact ((Fr.refl _ _).drew).trans hF2); have q1 := cell_m hW hlp hpbn e1; have q2 := cell_m hW hlg hgn e2; have q3 := cell_m hW hlo hnb e3; have q4 := cell_m hW hlo hnb e4; have HT2 := hide (unhide HT _ hW hA2); clear hF2 hA2 hW))
          all_goals
            go_wp2
            go_ret
            exact unhide HT2
end Go.Proofs.YtkhegceikdegbaaDoor
