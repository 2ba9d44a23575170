import Derived.Test.YtnlmgifjmlpgoaaGreatDoorJ2
set_option linter.unusedVariables false
set_option linter.unusedSimpArgs false
set_option maxRecDepth 100000
namespace Go.Proofs.YtnlmgifjmlpgoaaGreatDoor
open Go.RowKit Go.Proofs.YtnlmgifjmlpgoaaGreatDoor.Lx Go.Proofs.YtnlmgifjmlpgoaaGreatDoor.Px
theorem catL (a b : ByteArray) : (a ++ b).toList = a.toList ++ b.toList := by
  rw [ByteArray.toList_eq, ByteArray.toList_eq, ByteArray.toList_eq, ByteArray.data_append, Array.toList_append]
theorem KidsAt.below {w w' : World} {kv : Value} {l : List Tree} (h : KidsAt w kv l) (hb : Below w.heap.size w w') : KidsAt w' kv l := by
  obtain ⟨cs, h1, h3⟩ := h
  have hz := hb.size
  exact ⟨cs, ownsRow_blk h1 (fun g hq => hb.block g (h1.lt g hq).2), cells_frame h3 _ (fun b hq => ⟨by omega, hb.block b hq⟩)⟩
theorem below_more {w u x : World} {B : Nat} (h : Below B w u) (c : Below u.heap.size u x) (hB : B ≤ u.heap.size) : Below B w x := Below.trans h ⟨c.os, c.tape, c.output, c.size, fun k hk => c.block k (by omega)⟩
theorem grown_below {u x : World} (g : u.grownBy x none) : Below u.heap.size u x := ⟨g.os, g.tape, g.output, g.size, fun k hk => g.block k hk (by simp)⟩
theorem wrap_small (i n : Nat) (h : i < n) (hn : n ≤ maxLen) : IntKind.i64.wrap (i : Int) = i := Go.IntWalk.i64_in _ (by unfold maxLen at hn; omega)
theorem KidsAt.alloc {w : World} {kv : Value} {l : List Tree} (h : KidsAt w kv l) (o : Obj) : KidsAt (w.alloc o) kv l := h.grown (grown_alloc (grown_refl _ _) _)
theorem next_w {v u w : World} {B : Nat} (D : Below B v u) (C : Below u.heap.size u w) (hB : B ≤ u.heap.size) (a b : Obj) : (∀ g o, BL u g o → BL ((w.alloc a).alloc b) g o) ∧ BL ((w.alloc a).alloc b) w.heap.size a ∧ BL ((w.alloc a).alloc b) (w.heap.size + 1) b ∧ (∀ k l, KidsAt u k l → KidsAt ((w.alloc a).alloc b) k l) ∧ (∀ k l, KidsAt w k l → KidsAt ((w.alloc a).alloc b) k l) ∧ Below B v ((w.alloc a).alloc b) ∧ B ≤ ((w.alloc a).alloc b).heap.size :=
  have hz := C.size
  ⟨fun g o h => ((h.below C h.lt).alloc _).alloc _, (BL.new rfl).alloc _, BL.new (by simp), fun k l h => ((h.below C).alloc _).alloc _, fun k l h => (h.alloc _).alloc _, ((below_more D C hB).alloc (by omega) _).alloc (by simp; omega) _, by simp; omega⟩
theorem cells7 {w : World} {g i : Nat} {kd nm ps : Int} {tx : List UInt8} {kv : Value} (q : ∀ j, j < 7 → w.cell? ⟨g, i * 7 + j, none⟩ = (nodeC kd tx nm ps kv)[j]?) : w.cell? ⟨g, i * 7, none⟩ = some (.int .i64 kd) ∧ w.cell? ⟨g, i * 7 + 1, none⟩ = some (.string ⟨tx.toArray⟩) ∧ w.cell? ⟨g, i * 7 + 2, none⟩ = some (.int .i64 nm) ∧ w.cell? ⟨g, i * 7 + 3, none⟩ = some (.int .i64 ps) ∧ w.cell? ⟨g, i * 7 + 4, none⟩ = some (.string ⟨#[]⟩) ∧ w.cell? ⟨g, i * 7 + 5, none⟩ = some (.int .i64 0) ∧ w.cell? ⟨g, i * 7 + 6, none⟩ = some kv :=
  ⟨q 0 (by omega), q 1 (by omega), q 2 (by omega), q 3 (by omega), q 4 (by omega), q 5 (by omega), q 6 (by omega)⟩
theorem bl7 {w : World} {g t : Nat} {x0 x1 x2 x3 x4 x5 x6 : Value} (k : BL w g (.cells #[x0, x1, x2, x3, x4, x5, x6] t)) : w.cell? ⟨g, 0, none⟩ = some x0 ∧ w.cell? ⟨g, 1, none⟩ = some x1 ∧ w.cell? ⟨g, 2, none⟩ = some x2 ∧ w.cell? ⟨g, 3, none⟩ = some x3 ∧ w.cell? ⟨g, 4, none⟩ = some x4 ∧ w.cell? ⟨g, 5, none⟩ = some x5 ∧ w.cell? ⟨g, 6, none⟩ = some x6 := ⟨k.cell 0, k.cell 1, k.cell 2, k.cell 3, k.cell 4, k.cell 5, k.cell 6⟩
theorem bare_k (kd : Int) (tx : List UInt8) (nm ps : Int) (ks : List Tree) (hs : small (.mk kd tx nm ps ks) = true) (kb : List Tree) (hkb : kb = ks.map bareT) (Y : World) (ao : Option Addr) (cp : Nat) (K : KidsAt Y (.slice ao ks.length cp) ks) : Calls Tryz.prog 13 #[.agg #[.int .i64 kd, .string ⟨tx.toArray⟩, .int .i64 nm, .int .i64 ps, .string ⟨#[]⟩, .int .i64 0, .slice ao ks.length cp]] Y fun e w' => Y.grownBy w' none ∧ ∃ ao cp, e = .returned (.agg #[.int .i64 kd, .string ⟨tx.toArray⟩, .int .i64 nm, .int .i64 0, .string ⟨#[]⟩, .int .i64 0, .slice ao kb.length cp]) ∧ KidsAt w' (.slice ao kb.length cp) kb := by
  subst hkb
  refine (bare_w _ kd tx nm ps ks (Nat.le_refl _) hs Y ao cp K).mono ?_
  rintro e w' ⟨h1, ao, cp, rfl, h2⟩
  exact ⟨h1, ao, cp, rfl, KidsAt.of h2 (Nat.le_refl _)⟩
set_option maxHeartbeats 4000000 in
theorem joins_big (sa sb : ByteArray) (w : World) (hv : Vars w) (h1 : sa.size ≤ 140737488355328) (h2 : sb.size ≤ 140737488355328) (hs : 8000 < sa.size + sb.size) : Calls Tryz.prog 8 #[.string sa, .string sb] w fun e w' => e = .returned (.bool true) ∧ Below w.heap.size w w' := by
  have HA := hide (anchor_any w hv)
  clear hv
  have hsz : (8000 : Int) < (sa.size : Int) + sb.size := by omega
  go_enter Tryz.func8, Tryz.ntmps8
  go_wp2_with fail
  refine (unhide HA).mono ?_
  rintro e w1 ⟨rfl, B1⟩
  go_wp2
  exact bodyPost_ret (v := .bool true) (by simp [results, Tryz.results8, go_sem]) rfl ⟨rfl, (by with_reducible repeat (first | assumption | refine Below.drew ?_))⟩
set_option maxHeartbeats 8000000 in
theorem joins_bad (sa sb : ByteArray) (w : World) (hv : Vars w) (hs : sa.size + sb.size ≤ 8000) (hf : (faultR sa.toList).1 ≠ 0 ∨ (faultR sb.toList).1 ≠ 0) : Calls Tryz.prog 8 #[.string sa, .string sb] w fun e w' => e = .returned (.bool true) ∧ Below w.heap.size w w' := by
  have HA := hide (anchor_any w hv)
  have HV := hide hv
  clear hv
  have hsz : ¬ (8000 : Int) < (sa.size : Int) + sb.size := by omega
  go_enter Tryz.func8, Tryz.ntmps8
  go_wp2_with fail
  refine (unhide HA).mono ?_
  rintro e W0 ⟨rfl, B0⟩
  have V0 := hide ((unhide HV).below (unhide HV).lt B0)
  have hz0 := B0.size
  clear HA
  go_wp2_with fail
  refine (Parse_fault _ _ (unhide V0)).mono ?_
  rintro e w1 ⟨C1, kd1, tx1, nm1, ps1, ao1, n1, cp1, rfl⟩
  obtain ⟨p1, bn1, bf1, p2, p3, B1, hz1⟩ := next_w B0 C1 hz0 (.cells #[.int .i64 kd1, .string tx1, .int .i64 nm1, .int .i64 ps1, .string ⟨#[]⟩, .int .i64 0, .slice ao1 n1 cp1] 25) (.cells #[.int .i64 (faultR sa.toList).1, .int .i64 (faultR sa.toList).2] 27)
  have V1 := hide ((unhide HV).below (unhide HV).lt B1)
  clear p1 p2 p3 C1 B0 hz0 V0
  go_wp2_with fail
  generalize ((w1.alloc (.cells #[.int .i64 kd1, .string tx1, .int .i64 nm1, .int .i64 ps1, .string ⟨#[]⟩, .int .i64 0, .slice ao1 n1 cp1] 25)).alloc (.cells #[.int .i64 (faultR sa.toList).1, .int .i64 (faultR sa.toList).2] 27)) = W1 at *
  generalize w1.heap.size = g1 at *
  clear w1
  refine (Parse_fault _ _ (unhide V1)).mono ?_
  rintro e w2 ⟨C2, kd2, tx2, nm2, ps2, ao2, n2, cp2, rfl⟩
  obtain ⟨p1, bn2, bf2, p2, p3, B2, hz2⟩ := next_w B1 C2 hz1 (.cells #[.int .i64 kd2, .string tx2, .int .i64 nm2, .int .i64 ps2, .string ⟨#[]⟩, .int .i64 0, .slice ao2 n2 cp2] 25) (.cells #[.int .i64 (faultR sb.toList).1, .int .i64 (faultR sb.toList).2] 27)
  replace bn1 := p1 _ _ bn1
  replace bf1 := p1 _ _ bf1
  have V2 := hide ((unhide HV).below (unhide HV).lt B2)
  clear p1 p2 p3 C2 B1 hz1 V1
  go_wp2_with fail
  generalize ((w2.alloc (.cells #[.int .i64 kd2, .string tx2, .int .i64 nm2, .int .i64 ps2, .string ⟨#[]⟩, .int .i64 0, .slice ao2 n2 cp2] 25)).alloc (.cells #[.int .i64 (faultR sb.toList).1, .int .i64 (faultR sb.toList).2] 27)) = W2 at *
  generalize w2.heap.size = g2 at *
  clear w2
  refine (Parse_fault _ _ (unhide V2)).mono ?_
  rintro e w3 ⟨C3, kd3, tx3, nm3, ps3, ao3, n3, cp3, rfl⟩
  obtain ⟨p1, bn3, bf3, p2, p3, B3, hz3⟩ := next_w B2 C3 hz2 (.cells #[.int .i64 kd3, .string tx3, .int .i64 nm3, .int .i64 ps3, .string ⟨#[]⟩, .int .i64 0, .slice ao3 n3 cp3] 25) (.cells #[.int .i64 (faultR (sa ++ ⟨#[10]⟩ ++ sb).toList).1, .int .i64 (faultR (sa ++ ⟨#[10]⟩ ++ sb).toList).2] 27)
  replace bn1 := p1 _ _ bn1
  replace bf1 := p1 _ _ bf1
  replace bn2 := p1 _ _ bn2
  replace bf2 := p1 _ _ bf2
  have V3 := hide ((unhide HV).below (unhide HV).lt B3)
  clear p1 p2 p3 C3 B2 hz2 V2
  rename_i K1 a1 K2 a2
  have HK := hide a1
  clear a1
  go_wp2_with fail
  generalize ((w3.alloc (.cells #[.int .i64 kd3, .string tx3, .int .i64 nm3, .int .i64 ps3, .string ⟨#[]⟩, .int .i64 0, .slice ao3 n3 cp3] 25)).alloc (.cells #[.int .i64 (faultR (sa ++ ⟨#[10]⟩ ++ sb).toList).1, .int .i64 (faultR (sa ++ ⟨#[10]⟩ ++ sb).toList).2] 27)) = W3 at *
  generalize w3.heap.size = g3 at *
  clear w3
  refine unhide HK _ _ ?_
  clear HK
  have zf1 := bf1.cell
  have zf2 := bf2.cell
  have hc : ((faultR sa.toList).1 != 0) = true ∨ ((faultR sa.toList).1 != 0) = false ∧ ((faultR sb.toList).1 != 0) = true := by
    by_cases ha : (faultR sa.toList).1 = 0
    · exact .inr ⟨by simp [ha], by simpa using hf.resolve_left (fun h => h ha)⟩
    · exact .inl (by simp [ha])
  clear hf
  rcases hc with ha | ⟨ha, hb⟩
  all_goals
    go_wp2
    exact bodyPost_ret (v := .bool true) (by simp [results, Tryz.results8, go_sem]) rfl ⟨rfl, (by with_reducible repeat (first | assumption | refine Below.drew ?_))⟩
set_option maxHeartbeats 8000000 in
theorem joins_fine (sa sb : ByteArray) (w : World) (hv : Vars w) (hs : sa.size + sb.size ≤ 8000) (ca cb cb' : List Tree) (g1 : Good sa.toList ca) (g2 : Good sb.toList cb) (g3 : Good (sa ++ ⟨#[10]⟩ ++ sb).toList (ca ++ cb')) (hm : cb'.map bareT = cb.map bareT) (hb1 : ∀ t ∈ cb, small t = true) (hb2 : ∀ t ∈ cb', small t = true) : Calls Tryz.prog 8 #[.string sa, .string sb] w fun e w' => e = .returned (.bool true) ∧ Below w.heap.size w w' := by
  have HA := hide (anchor_any w hv)
  have HV := hide hv
  have G1 := hide g1
  have G2 := hide g2
  have G3 := hide g3
  have HM := hide hm
  have HB1 := hide hb1
  have HB2 := hide hb2
  clear g1 g2 g3 hm hb1 hb2
  obtain ⟨cj, hcj⟩ : ∃ cj, cj = ca ++ cb' := ⟨_, rfl⟩
  rw [← hcj] at G3
  have HCJ := hide hcj
  have hml : cb'.length = cb.length := by have := congrArg List.length (unhide HM); simpa using this
  have HL := hide (show cj.length = ca.length + cb.length by rw [hcj, List.length_append, hml])
  clear hml hcj
  clear hv
  have hsz : ¬ (8000 : Int) < (sa.size : Int) + sb.size := by omega
  go_enter Tryz.func8, Tryz.ntmps8
  go_wp2_with fail
  refine (unhide HA).mono ?_
  rintro e W0 ⟨rfl, B0⟩
  have V0 := hide ((unhide HV).below (unhide HV).lt B0)
  have hz0 := B0.size
  clear HA
  go_wp2_with fail
  refine (Parse_good _ ca _ (unhide V0) (unhide G1)).mono ?_
  rintro e w1 ⟨C1, ao1, cp1, rfl, K1⟩
  obtain ⟨p1, bn1, bf1, p2, p3, B1, hz1⟩ := next_w B0 C1 hz0 (.cells #[.int .i64 1, .string ⟨#[]⟩, .int .i64 0, .int .i64 0, .string ⟨#[]⟩, .int .i64 0, .slice ao1 ca.length cp1] 25) (.cells #[.int .i64 0, .int .i64 0] 27)
  have kk1 := hide (p3 _ _ K1)
  have V1 := hide ((unhide HV).below (unhide HV).lt B1)
  clear p1 p2 p3 C1 B0 hz0 V0 K1 G1
  go_wp2_with fail
  generalize ((w1.alloc (.cells #[.int .i64 1, .string ⟨#[]⟩, .int .i64 0, .int .i64 0, .string ⟨#[]⟩, .int .i64 0, .slice ao1 ca.length cp1] 25)).alloc (.cells #[.int .i64 0, .int .i64 0] 27)) = W1 at *
  generalize w1.heap.size = g1 at *
  clear w1
  refine (Parse_good _ cb _ (unhide V1) (unhide G2)).mono ?_
  rintro e w2 ⟨C2, ao2, cp2, rfl, K2⟩
  obtain ⟨p1, bn2, bf2, p2, p3, B2, hz2⟩ := next_w B1 C2 hz1 (.cells #[.int .i64 1, .string ⟨#[]⟩, .int .i64 0, .int .i64 0, .string ⟨#[]⟩, .int .i64 0, .slice ao2 cb.length cp2] 25) (.cells #[.int .i64 0, .int .i64 0] 27)
  replace bn1 := p1 _ _ bn1
  replace bf1 := p1 _ _ bf1
  replace kk1 := hide (p2 _ _ (unhide kk1))
  have kk2 := hide (p3 _ _ K2)
  have V2 := hide ((unhide HV).below (unhide HV).lt B2)
  clear p1 p2 p3 C2 B1 hz1 V1 K2 G2
  go_wp2_with fail
  generalize ((w2.alloc (.cells #[.int .i64 1, .string ⟨#[]⟩, .int .i64 0, .int .i64 0, .string ⟨#[]⟩, .int .i64 0, .slice ao2 cb.length cp2] 25)).alloc (.cells #[.int .i64 0, .int .i64 0] 27)) = W2 at *
  generalize w2.heap.size = g2 at *
  clear w2
  refine (Parse_good _ cj _ (unhide V2) (unhide G3)).mono ?_
  rintro e w3 ⟨C3, ao3, cp3, rfl, K3⟩
  obtain ⟨p1, bn3, bf3, p2, p3, B3, hz3⟩ := next_w B2 C3 hz2 (.cells #[.int .i64 1, .string ⟨#[]⟩, .int .i64 0, .int .i64 0, .string ⟨#[]⟩, .int .i64 0, .slice ao3 cj.length cp3] 25) (.cells #[.int .i64 0, .int .i64 0] 27)
  replace bn1 := p1 _ _ bn1
  replace bf1 := p1 _ _ bf1
  replace bn2 := p1 _ _ bn2
  replace bf2 := p1 _ _ bf2
  replace kk1 := hide (p2 _ _ (unhide kk1))
  replace kk2 := hide (p2 _ _ (unhide kk2))
  have kk3 := hide (p3 _ _ K3)
  have V3 := hide ((unhide HV).below (unhide HV).lt B3)
  clear p1 p2 p3 C3 B2 hz2 V2 K3 G3
  rename_i K1 a1 K2 a2
  have HK := hide a1
  clear a1
  go_wp2_with fail
  generalize ((w3.alloc (.cells #[.int .i64 1, .string ⟨#[]⟩, .int .i64 0, .int .i64 0, .string ⟨#[]⟩, .int .i64 0, .slice ao3 cj.length cp3] 25)).alloc (.cells #[.int .i64 0, .int .i64 0] 27)) = W3 at *
  generalize w3.heap.size = g3 at *
  clear w3
  refine unhide HK _ _ ?_
  clear HK
  have zn1 := bn1.cell
  have zf1 := bf1.cell
  have zn2 := bn2.cell
  have zf2 := bf2.cell
  have zn3 := bn3.cell
  have zf3 := bf3.cell
  have fa := (unhide kk1).few
  have fb := (unhide kk2).few
  have fj := (unhide kk3).few
  unfold maxLen at fa fb fj
  have hne : ((cj.length : Int) != wrap64 ((ca.length : Int) + cb.length)) = false := by have := unhide HL; rw [show wrap64 ((ca.length : Int) + cb.length) = (cj.length : Int) by unfold wrap64; omega]; simp
  go_wp2
  clear zn1 zn2 zn3 zf1 zf2 zf3
  generalize (Value.agg #[.int .i64 1, .string ⟨#[]⟩, .int .i64 0, .int .i64 0, .string ⟨#[]⟩, .int .i64 0, .slice ao1 ca.length cp1]) = ta1
  generalize (Value.agg #[.int .i64 1, .string ⟨#[]⟩, .int .i64 0, .int .i64 0, .string ⟨#[]⟩, .int .i64 0, .slice ao2 cb.length cp2]) = ta2
  generalize (Value.agg #[.int .i64 1, .string ⟨#[]⟩, .int .i64 0, .int .i64 0, .string ⟨#[]⟩, .int .i64 0, .slice ao3 cj.length cp3]) = ta3
  generalize (Value.agg #[.int .i64 0, .int .i64 0]) = tf
  generalize (Value.tuple #[ta1, tf]) = tt1
  generalize (Value.tuple #[ta2, tf]) = tt2
  generalize (Value.tuple #[ta3, tf]) = tt3
  go_loopg [66] (cj.length + 1) (fun g v66 wr => ∃ j : Nat, g = cj.length + 1 - j ∧ j ≤ cj.length ∧ v66 = .int .i64 j ∧ W3.grownBy wr none)
  case atStart => exact ⟨0, by omega, by omega, rfl, grown_refl _ _⟩
  case round =>
    obtain ⟨j, rfl, hj, rfl, hgr⟩ := hrel
    have b1 := BL.quiet bn1 hgr
    have b2 := BL.quiet bn2 hgr
    have z1 := b1.cell
    have z2 := b2.cell
    have l1 := b1.lt
    have l2 := b2.lt
    by_cases hlt : j < cj.length
    · have hltz : (j : Int) < cj.length := by omega
      obtain ⟨kd2, tx2, nm2, ps2, ks2, ek⟩ : ∃ a b c d e, cj[j]? = some (Px.Tree.mk a b c d e) := by
        rw [List.getElem?_eq_getElem hlt]; cases cj[j] with | mk a b c d e => exact ⟨a, b, c, d, e, rfl⟩
      obtain ⟨g, cap, ao4, cp4, e1, q1, q2, q3, Q, qc⟩ := ((unhide kk3).grown hgr).kid j _ _ _ _ _ ek
      obtain ⟨a0, a1, a2, a3, a4, a5, a6⟩ := cells7 qc
      cases e1
      clear qc
      have Q0 := hide Q
      have EK := hide ek
      clear Q ek
      unfold maxLen at q2
      obtain ⟨O, hO⟩ : ∃ O : Obj, O = .cells #[.int .i64 kd2, .string ⟨tx2.toArray⟩, .int .i64 nm2, .int .i64 ps2, .string ⟨#[]⟩, .int .i64 0, .slice ao4 ks2.length cp4] 25 := ⟨_, rfl⟩
      have hgX := grown_alloc hgr O
      have bk : BL (wr.alloc O) wr.heap.size O := BL.new rfl
      have bx1 := BL.quiet bn1 hgX
      have bx2 := BL.quiet bn2 hgX
      have QX := hide ((unhide Q0).alloc O)
      have K1X := hide ((unhide kk1).grown hgX)
      have K2X := hide ((unhide kk2).grown hgX)
      subst hO
      by_cases hA : j < ca.length
      · have hAz : (j : Int) < ca.length := by omega
        have EK' : Hid (ca[j]? = some (Px.Tree.mk kd2 tx2 nm2 ps2 ks2)) := by have := unhide EK; rw [unhide HCJ, List.getElem?_append_left hA] at this; exact this
        go_wp2
        generalize (wr.alloc (.cells #[.int .i64 kd2, .string ⟨tx2.toArray⟩, .int .i64 nm2, .int .i64 ps2, .string ⟨#[]⟩, .int .i64 0, .slice ao4 ks2.length cp4] 25)) = X at *
        clear b1 b2 z1 z2 a0 a1 a2 a3 a4 a5 a6 q3 hgr Q0
        generalize wr.heap.size = gk at *
        clear l1 l2
        obtain ⟨g', cap', ao5, cp5, e1', q1', q2', q3', Q', qc'⟩ := (unhide K1X).kid j _ _ _ _ _ (unhide EK')
        obtain ⟨c0, c1, c2, c3, c4, c5, c6⟩ := cells7 qc'
        cases e1'
        have QC := hide qc'
        have QY := hide Q'
        clear Q' qc'
        unfold maxLen at q2'
        have lk := bk.lt
        have l1 := bx1.lt
        have l2 := bx2.lt
        obtain ⟨xk0, xk1, xk2, xk3, xk4, xk5, xk6⟩ := bl7 bk
        have x1 : X.cell? ⟨g1, 6, none⟩ = some (.slice (some ⟨g', 0, none⟩) ca.length cp1) := bx1.cell 6
        go_region_law (go_simp; go_at_call 12; refine (same_w _ kd2 tx2 nm2 ps2 ks2 (Nat.le_refl _) _ ao4 ao5 cp4 cp5 ((unhide QX).grown (by with_reducible repeat (first | assumption | exact grown_refl _ _ | refine grown_drew ?_))) ((unhide QY).grown (by with_reducible repeat (first | assumption | exact grown_refl _ _ | refine grown_drew ?_)))).mono ?_; rintro e w2 ⟨rfl, hg2⟩; have hw2 := grown_trans (b := _) (show X.grownBy _ none by with_reducible repeat (first | assumption | exact grown_refl _ _ | refine grown_drew ?_)) hg2)
        all_goals
          have G2 := grown_trans hgX hw2
          go_wp2
          go_roundg (cj.length + 1 - (j + 1))
          case measure => omega
          case rel => exact ⟨j + 1, rfl, by omega, by go_num, (by with_reducible repeat (first | assumption | exact grown_refl _ _ | refine grown_drew ?_))⟩
      · obtain ⟨i, rfl⟩ : ∃ i, j = ca.length + i := ⟨j - ca.length, by omega⟩
        have hAz : ¬ (((ca.length + i : Nat) : Int) < ca.length) := by omega
        have hi : i < cb.length := by have := unhide HL; omega
        have hiz : (i : Int) < cb.length := by omega
        have ek2 : cb'[i]? = some (Px.Tree.mk kd2 tx2 nm2 ps2 ks2) := by have := unhide EK; rw [unhide HCJ, List.getElem?_append_right (by omega), Nat.add_sub_cancel_left] at this; exact this
        obtain ⟨ps3, ks3, ek3, hkk⟩ : ∃ ps3 ks3, cb[i]? = some (Px.Tree.mk kd2 tx2 nm2 ps3 ks3) ∧ ks3.map bareT = ks2.map bareT := by
          have h1 := congrArg (fun l => l[i]?) (unhide HM)
          simp only [List.getElem?_map, ek2, Option.map_some] at h1
          rw [List.getElem?_eq_getElem hi] at h1 ⊢
          cases hc : cb[i] with
          | mk a b c d e =>
            rw [hc] at h1
            simp only [Option.map_some, bareT_mk, Option.some.injEq, Px.Tree.mk.injEq] at h1
            obtain ⟨rfl, rfl, rfl, _, h5⟩ := h1
            exact ⟨d, e, rfl, h5.symm⟩
        obtain ⟨kb, hkb⟩ : ∃ kb, kb = ks2.map bareT := ⟨_, rfl⟩
        have HC1 := hide (bare_k kd2 tx2 nm2 ps2 ks2 (unhide HB2 _ (List.mem_of_getElem? ek2)) kb hkb)
        have HC2 := hide (bare_k kd2 tx2 nm2 ps3 ks3 (unhide HB1 _ (List.mem_of_getElem? ek3)) kb (hkb.trans hkk.symm))
        have EK3 := hide ek3
        clear ek2 ek3 hkk hkb
        go_wp2
        generalize (wr.alloc (.cells #[.int .i64 kd2, .string ⟨tx2.toArray⟩, .int .i64 nm2, .int .i64 ps2, .string ⟨#[]⟩, .int .i64 0, .slice ao4 ks2.length cp4] 25)) = X at *
        clear b1 b2 z1 z2 a0 a1 a2 a3 a4 a5 a6 q3 hgr Q0
        generalize wr.heap.size = gk at *
        clear l1 l2
        obtain ⟨g', cap', ao5, cp5, e1', q1', q2', q3', Q', qc'⟩ := (unhide K2X).kid i _ _ _ _ _ (unhide EK3)
        obtain ⟨c0, c1, c2, c3, c4, c5, c6⟩ := cells7 qc'
        cases e1'
        have QC := hide qc'
        have QY := hide Q'
        clear Q' qc'
        unfold maxLen at q2'
        have lk := bk.lt
        have l1 := bx1.lt
        have l2 := bx2.lt
        obtain ⟨xk0, xk1, xk2, xk3, xk4, xk5, xk6⟩ := bl7 bk
        have x1 : X.cell? ⟨g1, 6, none⟩ = some (.slice ao1 ca.length cp1) := bx1.cell 6
        have x2 : X.cell? ⟨g2, 6, none⟩ = some (.slice (some ⟨g', 0, none⟩) cb.length cp2) := bx2.cell 6
        generalize hz : (ca.length : Int) + (i : Int) = z at *
        have hsub : z - (ca.length : Int) = i := by omega
        have hwi : IntKind.i64.wrap (i : Int) = i := wrap_small i _ hi fb
        have HZ := hide hz
        clear hz hAz hltz
        generalize (Value.agg #[.int .i64 kd2, .string ⟨tx2.toArray⟩, .int .i64 nm2, .int .i64 ps2, .string ⟨#[]⟩, .int .i64 0, .slice ao4 ks2.length cp4]) = tk
        rename_i Ka aa Ja Kb ab Kc ac Kd ad ae ha hb
        have HH := hide (And.intro aa (And.intro ab (And.intro ac (And.intro ad ae))))
        clear aa ab ac ad ae bn1 bf1 bn2 bf2 bn3 bf3
        go_region_law (first | (go_simp; go_at_call 13; refine (unhide HC1 _ _ _ ((unhide QX).grown (by with_reducible repeat (first | assumption | exact grown_refl _ _ | refine grown_drew ?_)))).mono ?_; rintro e w2 ⟨hg2, ao6, cp6, rfl, hK6⟩; have hw2 := grown_trans (b := _) (show X.grownBy _ none by with_reducible repeat (first | assumption | exact grown_refl _ _ | refine grown_drew ?_)) hg2; have HK6 := hide hK6; obtain ⟨yk0, yk1, yk2, yk3, yk4, yk5, yk6⟩ := bl7 (BL.quiet bk hw2); have y1 := (grown_cell hw2 l1 (j := 6)).trans x1; have y2 := (grown_cell hw2 l2 (j := 6)).trans x2; obtain ⟨d0, d1, d2, d3, d4, d5, d6⟩ := cells7 (fun j hj => (grown_cell hw2 q3').trans (unhide QC j hj)); have HQ := hide ((unhide QY).grown hw2); clear hK6 hg2 x1 x2 xk0 xk1 xk2 xk3 xk4 xk5 xk6 c0 c1 c2 c3 c4 c5 c6 bk bx1 bx2 QX QY QC HC1) | (go_simp; go_at_call 13; refine (unhide HC2 _ _ _ ((unhide HQ).grown (by with_reducible repeat (first | assumption | exact grown_refl _ _ | refine grown_drew ?_)))).mono ?_; rintro e w3 ⟨hg3, ao7, cp7, rfl, hK7⟩; have hw3 := grown_trans (b := _) (show w2.grownBy _ none by with_reducible repeat (first | assumption | exact grown_refl _ _ | refine grown_drew ?_)) hg3; have hw13 := grown_trans hw2 hw3; have HK7 := hide hK7; have HK63 := hide ((unhide HK6).grown hw3); clear hK7 hg3 HC2 HK6 HQ yk0 yk1 yk2 yk3 yk4 yk5 yk6 y1 y2 d0 d1 d2 d3 d4 d5 d6) | (go_simp; go_at_call 12; refine (same_w _ kd2 tx2 nm2 0 kb (Nat.le_refl _) _ ao6 ao7 cp6 cp7 ((unhide HK63).grown (by with_reducible repeat (first | assumption | exact grown_refl _ _ | refine grown_drew ?_))) ((unhide HK7).grown (by with_reducible repeat (first | assumption | exact grown_refl _ _ | refine grown_drew ?_)))).mono ?_; rintro e w4 ⟨rfl, hg4⟩; have hw4 := grown_trans hw13 (grown_trans (b := _) (show w3.grownBy _ none by with_reducible repeat (first | assumption | exact grown_refl _ _ | refine grown_drew ?_)) hg4); clear hg4 HK63 HK7))
        all_goals
          obtain ⟨aa, ab, ac, ad, ae⟩ := unhide HH
          clear HH
          have G4 := grown_trans hgX hw4
          go_wp2
          go_roundg (cj.length + 1 - (ca.length + i + 1))
          case measure => omega
          case rel => exact ⟨ca.length + i + 1, rfl, by omega, by (have hz := unhide HZ; subst hz; go_num), (by with_reducible repeat (first | assumption | exact grown_refl _ _ | refine grown_drew ?_))⟩
    · have hltz : ¬ (j : Int) < cj.length := by omega
      have BB := below_more B3 (grown_below hgr) hz3
      go_wp2
      exact bodyPost_ret (v := .bool true) (by simp [results, Tryz.results8, go_sem]) rfl ⟨rfl, (by with_reducible repeat (first | assumption | refine Below.drew ?_))⟩
theorem joins_any (sa sb : ByteArray) (w : World) (hv : Vars w) (h1 : sa.size ≤ 140737488355328) (h2 : sb.size ≤ 140737488355328) : Calls Tryz.prog 8 #[.string sa, .string sb] w fun e w' => e = .returned (.bool true) ∧ Below w.heap.size w w' := by
  by_cases hs : 8000 < sa.size + sb.size
  · exact joins_big sa sb w hv h1 h2 hs
  have la : sa.toList.length = sa.size := toL_len sa
  have lb : sb.toList.length = sb.size := toL_len sb
  by_cases ha : (faultR sa.toList).1 = 0
  · by_cases hb : (faultR sb.toList).1 = 0
    · obtain ⟨ca, cb, cb', g1, g2, g3, hm, q1, q2⟩ := joins_good sa.toList sb.toList (by omega) ha hb
      have e : (sa ++ ⟨#[10]⟩ ++ sb).toList = sa.toList ++ 10 :: sb.toList := by
        rw [catL, catL, List.append_assoc]
        have : (⟨#[10]⟩ : ByteArray).toList = [10] := by rw [ByteArray.toList_eq]
        rw [this]; rfl
      exact joins_fine sa sb w hv (by omega) ca cb cb' g1 g2 (by rw [e]; exact g3) hm q1 q2
    · exact joins_bad sa sb w hv (by omega) (.inr hb)
  · exact joins_bad sa sb w hv (by omega) (.inl ha)
end Go.Proofs.YtnlmgifjmlpgoaaGreatDoor
