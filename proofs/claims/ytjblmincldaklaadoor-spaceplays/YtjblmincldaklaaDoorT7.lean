/- The law's own make, behind a collection. -/
import Derived.Test.YtjblmincldaklaaDoorT6
namespace Go.Proofs.YtjblmincldaklaaDoor
open Go.RowKit Go.Proofs.YtjblmincldaklaaDoor.Hp
variable {w w' : World} {pt pb base N : Nat} {A A' A1 : Nat → Kd} {wd : Nat → Int} {L : List Rb} {lv : Value} {T : List Tb} {tv : Value} {al : List Nat} {av : Value} {held : List Int} {dv : Value} {cnt : Nat}
/-- One step behind another. -/
theorem TMkP.behind {w3 : World} {L1 : List Rb} {lv3 : Value} {T1 : List Tb} {tv3 v : Value} {wd' : Nat → Int} {cnt' : Nat} {e : Ending} (hF : Fr (TwK pt pb lv T tv av dv) w w3) (hK : ∀ j, TwK pt pb lv3 T1 tv3 av dv j → TwK pt pb lv T tv av dv j ∨ w.heap.size ≤ j) (h1 : L1.length ≤ L.length) (h2 : T1.length ≤ T.length)
    (h : TMkP w3 pt pb base N L1 lv3 T1 tv3 al av held dv v A' wd' cnt' e w') : TMkP w pt pb base N L lv T tv al av held dv v A' wd' cnt' e w' := by
  obtain ⟨e1, L', lv', T', tv', al', av', k1, k2, k3, k4, k5, k6, k7, k8⟩ := h
  have := hF.size
  refine ⟨e1, L', lv', T', tv', al', av', k1, k2, hF.stepK k3 hK, fun j hj => ?_, by omega, by omega, k7, k8⟩
  rcases k4 j hj with e | e
  · exact hK j e
  · exact .inr (by omega)
theorem keep_len (T : List Tb) (M : Nat → Bool) : (keepT T M T.length).length ≤ T.length := by have := keep_gone (T := T) (M := M) T.length; omega
set_option maxRecDepth 100000 in
set_option maxHeartbeats 4000000 in
theorem tmake_gc {k s ms : Int} {a : Nat} {rb : Nat → Bool} (h : Tw w pt pb base N wd L lv T tv al av held dv cnt) (hm : Tm A wd L T) (hI : Inv N A) (hI' : Inv N A') (hN1 : 1 ≤ N) (hN : N ≤ 128) (hL : L.length ≤ 4000) (hT : T.length ≤ 1000) (ha1 : al.length ≤ 1000) (hh : held.length ≤ 900) (hc : cnt < 100000) (hR : Right k s ms) (hnp : NoPlace N A (1 + s.toNat)) (hg : Gc N A wd held rb A1) (g : Goes N A1 (1 + s.toNat) a A') :
    Calls Tryd.prog 21 #[.pointer (some ⟨pt, 0, none⟩), .int .i64 k, .int .i64 s, .int .i64 ms] w fun e w' => TMkP w pt pb base N L lv T tv al av held dv (.tuple #[.int .i64 (a : Int), .bool true]) A' (newW wd a (1 + s.toNat) (hdr k s ms)) (cnt + 1) e w' := by
  have hI1 := hg.inv
  have hR' := hR
  unfold Right at hR'
  obtain ⟨r1, r2, r3, r4, r5, r6⟩ := hR'
  have HNo := hide (talloc_no h hm hI hN1 hN (by omega) ⟨r3, r4⟩ hnp)
  have HCo : Hid (∀ W, Fr (fun _ => False) w W → Calls Tryd.prog 24 #[.pointer (some ⟨pt, 0, none⟩)] W fun e w' => ∃ z L1 lv3 T1 tv3, e = .returned (.int .i64 z) ∧ Tw w' pt pb base N wd L1 lv3 T1 tv3 al av held dv (cnt + 1) ∧ Tm A1 wd L1 T1 ∧ Fr (TwK pt pb lv T tv av dv) w w' ∧ (∀ j, TwK pt pb lv3 T1 tv3 av dv j → TwK pt pb lv T tv av dv j ∨ w.heap.size ≤ j) ∧ L1.length ≤ L.length ∧ T1.length ≤ T.length) := hide fun W hW => by
    refine (tcollect_any (h.quiet hW) hm hI hT (by omega) hh (by omega) hc).mono ?_
    rintro e w' ⟨M, lv', tv', hM, rfl, hTw, hF, hK⟩
    have hgc := hm.gc hI hg hM
    refine ⟨_, _, lv', _, tv', rfl, hTw, hgc.1, (hW.mono fun _ x => x.elim).trans hF, fun j hj => ?_, List.length_filter_le _ _, keep_len T M⟩
    rcases hK j hj with e | e
    · exact .inl e
    · exact .inr (Nat.le_trans hW.size e)
  have HAl2 : Hid (∀ W L1 lv3 T1 tv3, Tw W pt pb base N wd L1 lv3 T1 tv3 al av held dv (cnt + 1) → Tm A1 wd L1 T1 → L1.length ≤ L.length → Calls Tryd.prog 38 #[.pointer (some ⟨pb, 0, none⟩), .int .i64 (s + 1)] W fun e w' => e = .returned (.tuple #[.int .i64 (a : Int), .bool true]) ∧ ∃ gr lv', Tx w' pt pb base N (newW wd a (1 + s.toNat) (hdr k s ms)) (ins ⟨a, roomOfM (1 + s.toNat), gr⟩ L1) lv' T1 tv3 al av held dv (cnt + 1) a (roomOfM (1 + s.toNat)) ∧ Fr (· = pb) W w' ∧ (∀ g, lv'.ownBlock = some g → W.heap.size ≤ g) ∧ a < 65536) := hide fun W L1 lv3 T1 tv3 hw hmm hl => talloc_some (k := k) (ms := ms) hw hmm hI1 hI' hN1 hN (by omega) hR g
  have c0 := h.c0
  have hge := roomOfM_ge (1 + s.toNat)
  obtain ⟨r, hr⟩ : ∃ r, r = roomOfM (1 + s.toNat) := ⟨_, rfl⟩
  rw [← hr] at HAl2 hge
  have hr2 : r ≤ 16448 := by rw [hr]; exact roomOfM_le (by omega)
  have HRr := hide hr
  clear hr
  have HT := hide h
  clear h hm
  go_enter Tryd.func21, Tryd.ntmps21
  go_wp2_with (first | (go_at_call 38; refine (unhide HNo).mono ?_; rintro e w2 ⟨rfl, hF2⟩; have HQ := hide hF2; clear hF2))
  refine (unhide HCo _ (unhide HQ)).mono ?_
  rintro e w3 ⟨z3, L1, lv3, T1, tv3, rfl, hT3, hm3, hF3, hK3, hl3, ht3⟩
  have HFin : Hid (∀ (e : Ending) (W : World), TMkP w3 pt pb base N L1 lv3 T1 tv3 al av held dv (.tuple #[.int .i64 (a : Int), .bool true]) A' (newW wd a (1 + s.toNat) (hdr k s ms)) (cnt + 1) e W → TMkP w pt pb base N L lv T tv al av held dv (.tuple #[.int .i64 (a : Int), .bool true]) A' (newW wd a (1 + s.toNat) (hdr k s ms)) (cnt + 1) e W) := hide fun e W hW => hW.behind hF3 hK3 hl3 ht3
  have HAl := hide (unhide HAl2 w3 L1 lv3 T1 tv3 hT3 hm3 hl3)
  have c3 := hT3.c0
  have HTm := hide hm3
  have hT1 : T1.length ≤ 1000 := by omega
  clear hT3 hm3 hF3 hK3 HAl2 HCo HNo HQ HT
  go_wp2_with (first | (go_at_call 38; refine (unhide HAl).mono ?_; rintro e w1 ⟨rfl, gr, lv1, hX1, hF1, hlo1, ha⟩; have HX1 := hide hX1; obtain ⟨fi, g1, cc, gr1, q1, q2, q3, q4, q5, q6⟩ := hX1.hit; have d0 := hX1.tw.c0; have d1 := hX1.tw.ref.cL; rw [q2] at d1; have HF1 := hide hF1; have HL1 := hide hlo1; clear hX1 hF1 hlo1))
  have hcl : findI (ins ⟨a, r, gr⟩ L1) (a : Int) 0 = (fi : Int) := q1
  have HFi : Hid (∀ W, Fr (fun _ => False) w1 W → Calls Tryd.prog 39 #[.pointer (some ⟨pb, 0, none⟩), .int .i64 (a : Int)] W fun e w' => e = .returned (.int .i64 (fi : Int)) ∧ W = w') := hide fun W hW => by
    have := Find_same pb base N _ lv1 (a : Int) W ((unhide HX1).tw.quiet hW).ref
    rw [hcl] at this
    exact this
  obtain ⟨ll, hll⟩ : ∃ ll, ll = (ins ⟨a, r, gr⟩ L1).length := ⟨_, rfl⟩
  rw [← hll] at d1 q3 q4
  have HLL := hide hll
  have HQ2 := hide q2
  clear q1 q2 q6 hcl hll
  go_region_held2 (fun w' => w'.cell? ⟨pt, 0, none⟩ = some (.pointer (some ⟨pb, 0, none⟩)) ∧ w'.cell? ⟨pb, 1, none⟩ = some (.slice (some ⟨g1, 0, none⟩) ll cc) ∧ w'.cell? ⟨g1, fi * 3 + 1, none⟩ = some (.int .i64 (r : Int))) (go_keep) (first | (go_at_call 39; refine (unhide HFi _ (by first | exact Fr.refl _ _ | exact (Fr.refl _ _).drew)).mono ?_; rintro e w2 ⟨rfl, rfl⟩))
  have HX2 := hide ((unhide HX1).tw.quiet ((Fr.refl (fun _ => False) w1).drew))
  have HF2 : Hid (Fr (· = pb) w3 w1.drew) := hide (unhide HF1).drew
  have HL2 : Hid (∀ g, lv1.ownBlock = some g → w3.heap.size ≤ g) := HL1
  generalize w1.drew = w2 at *
  obtain ⟨ta, tc, et, _⟩ := own_form (unhide HX2).tl
  have p1 := (unhide HX2).c1.1
  have p1f := (unhide HX2).c1.2
  rw [et] at p1
  obtain ⟨tn, htn⟩ : ∃ tn, tn = T1.length := ⟨_, rfl⟩
  rw [← htn] at p1
  have HTn := hide htn
  have et' : tv3 = .slice ta tn tc := by rw [et, htn]
  have hmk : ∀ W : World, (Instr.makeSlice 31 (.int .i64 ((r : Int) - 1)) (.int .i64 ((r : Int) - 1))).run Tryd.prog W = .ok (.slice (some ⟨W.heap.size, 0, none⟩) (r - 1) (r - 1)) (W.alloc (.cells (madeCells #[.int .i64 0] (r - 1)) 3)) := fun W => by
    have := make34 W (r - 1) (by omega)
    rw [show ((r - 1 : Nat) : Int) = (r : Int) - 1 by omega] at this
    exact this
  have HRw : Hid (∀ W : World, Row (W.alloc (.cells (madeCells #[.int .i64 0] (r - 1)) 3)) W.heap.size (r - 1) (fun _ => .int .i64 0)) := hide fun W => (Row.made W #[.int .i64 0] (r - 1) 3).ext fun i _ => by simp [Nat.mod_one]
  generalize madeCells #[.int .i64 0] (r - 1) = Z at *
  have p2 : (w2.alloc (.cells Z 3)).cell? ⟨pt, 1, none⟩ = some (.slice ta tn tc) := (World.cell?_alloc_some w2 ⟨pt, 1, none⟩ _ (by rw [p1]; rfl)).trans p1
  have p3 : ((w2.alloc (.cells Z 3)).alloc (Obj.cells #[Value.int IntKind.i64 (a : Int), Value.int IntKind.i64 k, Value.int IntKind.i64 s, Value.int IntKind.i64 ms, Value.slice (some ⟨w2.heap.size, 0, none⟩) (r - 1) (r - 1)] 62)).cell? ⟨pt, 1, none⟩ = some (.slice ta tn tc) := (World.cell?_alloc_some _ ⟨pt, 1, none⟩ _ (by rw [p2]; rfl)).trans p2
  have HOw : Hid (World.ownsRow (((w2.alloc (.cells Z 3)).alloc (Obj.cells #[Value.int IntKind.i64 (a : Int), Value.int IntKind.i64 k, Value.int IntKind.i64 s, Value.int IntKind.i64 ms, Value.slice (some ⟨w2.heap.size, 0, none⟩) (r - 1) (r - 1)] 62)).drew) base 62 5 (.slice ta tn tc) tn (lbAll (T1.map lbT))) := hide (by
    have := ((unhide HX2).tl.alloc (.cells Z 3)).alloc (Obj.cells #[Value.int IntKind.i64 (a : Int), Value.int IntKind.i64 k, Value.int IntKind.i64 s, Value.int IntKind.i64 ms, Value.slice (some ⟨w2.heap.size, 0, none⟩) (r - 1) (r - 1)] 62)
    rw [et, ← htn] at this
    exact own_blk this (fun _ _ => rfl))
  have HNw : Hid (∀ j u, (lbCells (lbT ⟨a, k, s, ms, r, w2.heap.size⟩))[j]? = some u → World.cell? (((w2.alloc (.cells Z 3)).alloc (Obj.cells #[Value.int IntKind.i64 (a : Int), Value.int IntKind.i64 k, Value.int IntKind.i64 s, Value.int IntKind.i64 ms, Value.slice (some ⟨w2.heap.size, 0, none⟩) (r - 1) (r - 1)] 62)).drew) ((⟨w2.heap.size + 1, 0, none⟩ : Addr).add j) = some u) := hide (by
    have := lb_news (w := w2.alloc (.cells Z 3)) (lbT ⟨a, k, s, ms, r, w2.heap.size⟩)
    rw [show (w2.alloc (.cells Z 3)).heap.size = w2.heap.size + 1 by simp] at this
    exact this)
  obtain ⟨i1, hi1, hz0, hz1, hz2⟩ := info_parts Tryd.info62
  have hbs : base ≤ w2.heap.size := (unhide HX2).st.2.2.2.2.2
  have HPu : Hid (∀ g5 cap5 w5, w5.ownsRow base 62 5 (.slice (some ⟨g5, 0, none⟩) (tn + 1) cap5) (tn + 1) (lbAll (T1.map lbT) ++ lbCells (lbT ⟨a, k, s, ms, r, w2.heap.size⟩)) → World.grownBy (((w2.alloc (.cells Z 3)).alloc (Obj.cells #[Value.int IntKind.i64 (a : Int), Value.int IntKind.i64 k, Value.int IntKind.i64 s, Value.int IntKind.i64 ms, Value.slice (some ⟨w2.heap.size, 0, none⟩) (r - 1) (r - 1)] 62)).drew) w5 (Value.slice ta tn tc).ownBlock → ((Value.slice ta tn tc).ownBlock = some g5 ∨ g5 = ((((w2.alloc (.cells Z 3)).alloc (Obj.cells #[Value.int IntKind.i64 (a : Int), Value.int IntKind.i64 k, Value.int IntKind.i64 s, Value.int IntKind.i64 ms, Value.slice (some ⟨w2.heap.size, 0, none⟩) (r - 1) (r - 1)] 62)).drew)).heap.size) → w5.cell? ⟨pt, 1, none⟩ = some (.slice ta tn tc) ∧ w5.frozen? ⟨pt, 1, none⟩ = false ∧ Tw (w5.setCell ⟨pt, 1, none⟩ (.slice (some ⟨g5, 0, none⟩) (tn + 1) cap5)) pt pb base N (newW wd a (1 + s.toNat) (hdr k s ms)) (ins ⟨a, r, gr⟩ L1) lv1 (T1 ++ [⟨a, k, s, ms, r, w2.heap.size⟩]) (.slice (some ⟨g5, 0, none⟩) (tn + 1) cap5) al av held dv (cnt + 1) ∧ Fr (TwK pt pb lv1 T1 (.slice ta tn tc) av dv) w2 (w5.setCell ⟨pt, 1, none⟩ (.slice (some ⟨g5, 0, none⟩) (tn + 1) cap5)) ∧ ∀ j, TwK pt pb lv1 (T1 ++ [⟨a, k, s, ms, r, w2.heap.size⟩]) (.slice (some ⟨g5, 0, none⟩) (tn + 1) cap5) av dv j → TwK pt pb lv1 T1 (.slice ta tn tc) av dv j ∨ w2.heap.size ≤ j) := hide fun g5 cap5 w5 ho hg hat => by
    have hT2 := unhide HX2
    have hq : Fr (fun _ => False) w2 (((w2.alloc (.cells Z 3)).alloc (Obj.cells #[Value.int IntKind.i64 (a : Int), Value.int IntKind.i64 k, Value.int IntKind.i64 s, Value.int IntKind.i64 ms, Value.slice (some ⟨w2.heap.size, 0, none⟩) (r - 1) (r - 1)] 62)).drew) := (((Fr.refl _ w2).alloc _).alloc _).drew
    rw [htn] at ho hg hat ⊢
    rw [et] at hT2
    have hz : ((((w2.alloc (.cells Z 3)).alloc (Obj.cells #[Value.int IntKind.i64 (a : Int), Value.int IntKind.i64 k, Value.int IntKind.i64 s, Value.int IntKind.i64 ms, Value.slice (some ⟨w2.heap.size, 0, none⟩) (r - 1) (r - 1)] 62)).drew)).heap.size = w2.heap.size + 1 + 1 := by show ((w2.alloc (.cells Z 3)).alloc (Obj.cells #[Value.int IntKind.i64 (a : Int), Value.int IntKind.i64 k, Value.int IntKind.i64 s, Value.int IntKind.i64 ms, Value.slice (some ⟨w2.heap.size, 0, none⟩) (r - 1) (r - 1)] 62)).heap.size = _; simp
    have hrow : Row (((w2.alloc (.cells Z 3)).alloc (Obj.cells #[Value.int IntKind.i64 (a : Int), Value.int IntKind.i64 k, Value.int IntKind.i64 s, Value.int IntKind.i64 ms, Value.slice (some ⟨w2.heap.size, 0, none⟩) (r - 1) (r - 1)] 62)).drew) w2.heap.size (r - 1) (fun q => .int .i64 (newW wd a (1 + s.toNat) (hdr k s ms) (a + (q + 1)))) := by
      refine ((unhide HRw w2).fr (K := fun _ => False) (((Fr.refl _ _).alloc (Obj.cells #[Value.int IntKind.i64 (a : Int), Value.int IntKind.i64 k, Value.int IntKind.i64 s, Value.int IntKind.i64 ms, Value.slice (some ⟨w2.heap.size, 0, none⟩) (r - 1) (r - 1)] 62)).drew) id).ext fun q hq => ?_
      have hrr := unhide HRr
      unfold newW
      rw [upd_ne _ _ (by omega)]
      unfold clearW
      rw [if_pos (by omega)]
    obtain ⟨s1, s2, s3, s4, s5, s6⟩ := hT2.st
    have hF5 : Fr (fun j => (Value.slice ta T1.length tc).ownBlock = some j) w2 w5 := (hq.mono fun _ x => x.elim).trans ((Fr.grown hg).mono fun _ e => e.symm)
    have hpt : ¬ (Value.slice ta T1.length tc).ownBlock = some pt := fun e => by have := (hT2.tl.lt pt e).1; omega
    have e5 := hF5.block pt (by omega) hpt
    refine ⟨(World.cell?_of_block (w := w2) (a := ⟨pt, 1, none⟩) e5).trans hT2.c1.1, (World.frozen?_of_block (w := w2) (a := ⟨pt, 1, none⟩) e5).trans hT2.c1.2, ?_⟩
    exact hT2.pushT (b := ⟨a, k, s, ms, r, w2.heap.size⟩) hq hrow (Nat.le_refl _) (by show 2 ≤ r; have := unhide HRr; have h2 := roomOfM_two (1 + s.toNat); omega) ho hg (hat.imp id (fun e => by show w2.heap.size < g5; omega))
  clear HX1 HF1 HL1 HFi d0 d1 q5 HAl c0 htn
  have hwr : IntKind.i64.wrap ((r : Int) - 1) = (r : Int) - 1 := by rw [IntKind.wrap_i64]; omega
  go_wp2
  go_region_law (first | (refine step_append_lies _ rfl _ _ 30 rfl base 62 i1 (.agg #[.int .i64 0, .int .i64 0, .int .i64 0, .int .i64 0, .slice none 0 0]) 5 56 Tryd.underlying30 hi1 hz0 hz1 hz2 rfl (by decide) (.slice ta tn tc) tn (lbAll (T1.map lbT)) (by simp [Act.eval]) (unhide HOw) ⟨w2.heap.size + 1, 0, none⟩ 1 1 (lbCells (lbT ⟨a, k, s, ms, r, w2.heap.size⟩)) (by simp [Act.eval]) rfl (unhide HNw) (lb_one _) (by decide) (by unfold maxLen; have := unhide HTn; omega) (by have := unhide HTn; omega) (by simp; omega) _ rfl ?_; intro g5 cap5 w5 ho5 hgr5 hat5 hlt5; obtain ⟨y1, y2, hT5, hF5, hK5⟩ := unhide HPu _ _ _ ho5 hgr5 hat5; have HT5 := hide hT5; have HF5 := hide hF5; have HK5 := hide hK5; clear ho5 hgr5 hat5 hlt5 hT5 hF5 hK5))
  all_goals (
    have HDn : Hid (Fr (TwK pt pb lv3 T1 tv3 av dv) w3 w2 ∧ (∀ j, TwK pt pb lv1 T1 tv3 av dv j → TwK pt pb lv3 T1 tv3 av dv j ∨ w3.heap.size ≤ j)) := hide ⟨(unhide HF2).mono fun j e => .inr (.inl e), fun j hj => by
      rcases hj with hj | hj | hj | hj
      · exact .inl (.inl hj)
      · exact .inl (.inr (.inl hj))
      · exact .inr (unhide HL2 j hj)
      · exact .inl (.inr (.inr (.inr hj)))⟩
    have HTm2 := hide ((unhide HTm).add (N := N) (gw := w2.heap.size) (gr := gr) hI1 hI' hR g)
    rw [← unhide HRr] at HTm2
    rw [← et'] at HF5 HK5
    generalize w5.setCell ⟨pt, 1, none⟩ (.slice (some ⟨g5, 0, none⟩) (tn + 1) cap5) = w6 at *
    obtain ⟨aa, ac, ea, _⟩ := own_form (unhide HT5).al
    have a1 := (unhide HT5).c2.1
    rw [ea] at a1
    obtain ⟨an, han⟩ : ∃ an, an = al.length := ⟨_, rfl⟩
    rw [← han] at a1
    have hb6 : base ≤ w6.heap.size := (unhide HT5).st.2.2.2.2.2
    have HOa : Hid ((w6.alloc (.cells #[.int .i64 (a : Int)] 3)).ownsRow base 3 1 (.slice aa an ac) an (al.map nv)) := hide (by
      have := (unhide HT5).al.alloc (.cells #[.int .i64 (a : Int)] 3)
      rw [ea, ← han] at this
      exact this)
    have HPa : Hid (∀ g7 cap7 w7, w7.ownsRow base 3 1 (.slice (some ⟨g7, 0, none⟩) (an + 1) cap7) (an + 1) (al.map nv ++ [.int .i64 (a : Int)]) → (w6.alloc (.cells #[.int .i64 (a : Int)] 3)).grownBy w7 (Value.slice aa an ac).ownBlock → ((Value.slice aa an ac).ownBlock = some g7 ∨ g7 = (w6.alloc (.cells #[.int .i64 (a : Int)] 3)).heap.size) → w7.cell? ⟨pt, 2, none⟩ = some (.slice aa an ac) ∧ w7.frozen? ⟨pt, 2, none⟩ = false ∧ TMkP w3 pt pb base N L1 lv3 T1 tv3 al av held dv (.tuple #[.int .i64 (a : Int), .bool true]) A' (newW wd a (1 + s.toNat) (hdr k s ms)) (cnt + 1) (.returned (.tuple #[.int .i64 (a : Int), .bool true])) (w7.setCell ⟨pt, 2, none⟩ (.slice (some ⟨g7, 0, none⟩) (an + 1) cap7))) := hide fun g7 cap7 w7 ho hg hat => by
      have hT5 := unhide HT5
      have hq : Fr (fun _ => False) w6 (w6.alloc (.cells #[.int .i64 (a : Int)] 3)) := (Fr.refl _ w6).alloc _
      rw [han] at ho hg hat ⊢
      rw [← ea] at hg hat ⊢
      obtain ⟨s1, s2, s3, s4, s5, s6⟩ := hT5.st
      have hF7 : Fr (fun j => av.ownBlock = some j) w6 w7 := (hq.mono fun _ x => x.elim).trans ((Fr.grown hg).mono fun _ e => e.symm)
      have hpt : ¬ av.ownBlock = some pt := fun e => by have := (hT5.al.lt pt e).1; omega
      have e7 := hF7.block pt (by omega) hpt
      obtain ⟨hT7, hF8, hK8⟩ := hT5.pushA hq ho hg (hat.imp id (fun e => by rw [e]; simp))
      refine ⟨(World.cell?_of_block (w := w6) (a := ⟨pt, 2, none⟩) e7).trans hT5.c2.1, (World.frozen?_of_block (w := w6) (a := ⟨pt, 2, none⟩) e7).trans hT5.c2.2, ?_⟩
      refine tmk_done (unhide HDn).1 (unhide HDn).2 (unhide HF5) (unhide HK5) hF8 hK8 hT7 (unhide HTm2) (by rw [ins_len]; omega) (by simp) (by simp) (fun x hx => ?_)
      rcases List.mem_append.1 hx with hx | hx
      · exact .inl hx
      · exact .inr (by rw [List.mem_singleton.1 hx]; exact ha)
    have han2 : an ≤ 1000 := by omega
    clear HTm HTm2 HDn HT5 HF5 HK5 HX2 HF2 HL2 HPu HNw HOw ea han et et'
    obtain ⟨i0, ki, kz0, kz1, kz2⟩ := info_parts Tryd.info3
    go_wp2_with (first | (at_builtin; refine wpList_append_lies _ rfl _ _ 31 rfl base 3 i0 (.int .i64 0) 1 8 Tryd.underlying31 ki kz0 kz1 kz2 rfl (by decide) (.slice aa an ac) an (al.map nv) rfl (unhide HOa) ⟨w6.heap.size, 0, none⟩ 1 1 [.int .i64 (a : Int)] rfl rfl (cell_one_new _ _ _) (ints_oneCell .i64 [(a : Int)]) (by decide) (by unfold maxLen; omega) (by omega) (by simp; omega) _ rfl ?_; intro g7 cap7 w7 ho7 hgr7 hat7 hlt7; obtain ⟨z1, z2, hM7⟩ := unhide HPa _ _ _ ho7 hgr7 hat7; have HM7 := hide hM7; clear ho7 hgr7 hat7 hlt7 hM7))
    go_ret2
    exact unhide HFin _ _ (unhide HM7))
end Go.Proofs.YtjblmincldaklaaDoor
