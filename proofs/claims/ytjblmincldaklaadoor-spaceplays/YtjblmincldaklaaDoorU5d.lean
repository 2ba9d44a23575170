/- A step of both: Set, nowhere. -/
import Derived.Test.YtjblmincldaklaaDoorU3
namespace Go.Proofs.YtjblmincldaklaaDoor
open Go.RowKit Go.Proofs.YtjblmincldaklaaDoor.Hp
set_option maxRecDepth 100000 in
set_option maxHeartbeats 4000000 in
theorem step_2d {w0 w : World} {B : HB} {p pt pb base N c : Nat} {A : Nat → Kd} {wd : Nat → Int} {hv : Value} {held : List Int} {cnt : Nat} {L : List Rb} {lv : Value} {T : List Tb} {tv : Value} {al : List Nat} {av dv : Value} (h1 : Mid w0 w B p pt pb base N A wd hv held cnt wd L lv T tv al av held dv cnt) (h2 : Tm A wd L T) (h3 : L.length ≤ c) (h4 : T.length ≤ c) (h5 : al.length ≤ c) (h6 : held.length ≤ c) (h7 : cnt ≤ c) (h8 : ∀ x ∈ al, x < 65536) (hc : c ≤ 100) (o1 o2 o3 o4 o5 o6 : Int) (hz4 : -9223372036854775808 ≤ o4 ∧ o4 < 9223372036854775808) (hz6 : -9223372036854775808 ≤ o6 ∧ o6 < 9223372036854775808) (hno0 : ∀ b ∈ T, (b.at_ : Int) ≠ nthI al o4) :
    Calls Tryd.prog 10 #[.pointer (some ⟨p, 0, none⟩), .pointer (some ⟨pt, 0, none⟩), .agg #[.int .i64 2, .int .i64 o1, .int .i64 o2, .int .i64 o3, .int .i64 o4, .int .i64 o5, .int .i64 o6]] w fun e w' => e = .returned (.bool true) ∧ DuoP w0 w' B p pt pb base N (c + 1) := by
  have hXO := XO.new w 2 o1 o2 o3 o4 o5 o6
  have hx := nthI_rng (z := o4) h8
  obtain ⟨x, hxe⟩ : ∃ x, x = nthI al o4 := ⟨_, rfl⟩
  have hv2 := nthI_rng (z := -(o6 + 1)) h8
  obtain ⟨v2, hve⟩ : ∃ v2, v2 = nthI al (-(o6 + 1)) := ⟨_, rfl⟩
  rw [← hxe] at hx
  rw [← hve] at hv2
  have HN : Hid (∀ W z, Mid w0 W B p pt pb base N A wd hv held cnt wd L lv T tv al av held dv cnt → XO W w.heap.size 2 o1 o2 o3 o4 o5 o6 → -9223372036854775808 ≤ z ∧ z < 9223372036854775808 → Calls Tryd.prog 22 #[.pointer (some ⟨pt, 0, none⟩), .int .i64 z] W fun e w' => e = .returned (.int .i64 (nthI al z)) ∧ Mid w0 w' B p pt pb base N A wd hv held cnt wd L lv T tv al av held dv cnt ∧ XO w' w.heap.size 2 o1 o2 o3 o4 o5 o6) := hide fun W z hm hX hz => by
    refine (nth_any hm.tw z hz (by omega)).mono ?_
    rintro e w' ⟨rfl, hF⟩
    exact ⟨rfl, hm.quiet hF, hX.fr hF id⟩
  have HBl : Hid (∀ W, Mid w0 W B p pt pb base N A wd hv held cnt wd L lv T tv al av held dv cnt → XO W w.heap.size 2 o1 o2 o3 o4 o5 o6 → Calls Tryd.prog 23 #[.pointer (some ⟨pt, 0, none⟩), .int .i64 x] W fun e w' => e = .returned (.int .i64 (blockI T x 0)) ∧ Mid w0 w' B p pt pb base N A wd hv held cnt wd L lv T tv al av held dv cnt ∧ XO w' w.heap.size 2 o1 o2 o3 o4 o5 o6) := hide fun W hm hX => by
    refine (block_any hm.tw x (by omega)).mono ?_
    rintro e w' ⟨rfl, hF⟩
    exact ⟨rfl, hm.quiet hF, hX.fr hF id⟩
  obtain ⟨vv, hvv⟩ : ∃ vv, vv = if o6 < 0 then v2 else o6 := ⟨_, rfl⟩
  have hvr : -9223372036854775808 ≤ vv ∧ vv < 9223372036854775808 := by rw [hvv]; split <;> omega
  have HNv : Hid (∀ W, Mid w0 W B p pt pb base N A wd hv held cnt wd L lv T tv al av held dv cnt → XO W w.heap.size 2 o1 o2 o3 o4 o5 o6 → o6 < 0 → Calls Tryd.prog 22 #[.pointer (some ⟨pt, 0, none⟩), .int .i64 (-(o6 + 1))] W fun e w' => e = .returned (.int .i64 vv) ∧ Mid w0 w' B p pt pb base N A wd hv held cnt wd L lv T tv al av held dv cnt ∧ XO w' w.heap.size 2 o1 o2 o3 o4 o5 o6) := hide fun W hm hX ho => by
    rw [hvv, if_pos ho, hve]
    exact unhide HN W _ hm hX (by omega)
  have HSf : Hid (hasB A wd x o5 = false → ∀ W, Mid w0 W B p pt pb base N A wd hv held cnt wd L lv T tv al av held dv cnt → Calls Tryd.prog 13 #[.pointer (some ⟨p, 0, none⟩), .int .i64 x, .int .i64 o5, .int .i64 vv] W fun e w' => e = .returned (.bool false) ∧ DuoP w0 w' B p pt pb base N (c + 1)) := hide fun hb W hm => by
    refine (Set_any hm.lw.sp x o5 vv).mono ?_
    rintro e w' ⟨rfl, hs, hF⟩
    unfold putW at hs
    rw [hb, if_neg (by simp)] at hs
    exact ⟨ret_bool hb, A, wd, hv, held, cnt, L, lv, T, tv, al, av, dv, hm.space hs (hF.mono fun k hk => .inl hk) (fun g e => .inl e), h2, by omega, by omega, by omega, by omega, by omega, h8⟩
  have HSt : Hid (∀ (b : Tb) (q : Nat), b ∈ T → (b.at_ : Int) = x → o5 = (q : Int) → (q : Int) < b.sz → (∀ W, Mid w0 W B p pt pb base N A wd hv held cnt wd L lv T tv al av held dv cnt → W.cell? ⟨b.gw, q, none⟩ = some (.int .i64 (wd (b.at_ + (q + 1)))) ∧ W.frozen? ⟨b.gw, q, none⟩ = false ∧ Mid w0 (W.setCell ⟨b.gw, q, none⟩ (.int .i64 vv)) B p pt pb base N A wd hv held cnt (upd wd (b.at_ + (1 + q)) vv) L lv T tv al av held dv cnt) ∧ ∀ W, Mid w0 W B p pt pb base N A wd hv held cnt (upd wd (b.at_ + (1 + q)) vv) L lv T tv al av held dv cnt → Calls Tryd.prog 13 #[.pointer (some ⟨p, 0, none⟩), .int .i64 x, .int .i64 o5, .int .i64 vv] W fun e w' => e = .returned (.bool true) ∧ DuoP w0 w' B p pt pb base N (c + 1)) := hide fun b q hb ex eq hq => by
    have hsz := (h2.bl b hb).2.2.2
    have hq2 : q < b.room - 1 := by omega
    have hp := h2.putW h1.lw.sp.inv hb hq2 hvr
    have hh : hasB A wd x o5 = true := by rw [← ex, h2.has hb, eq]; simp; omega
    refine ⟨fun W hm => ?_, fun W hm => ?_⟩
    · have hr := (hm.tw.ws b hb).2.1
      have ht := hm.tw.put (v := vv) hp.2 hb hq2
      exact ⟨(hr q hq2).1, (hr q hq2).2, hm.twin ht.1 ht.2 (fun j hj => .inl hj)⟩
    · refine (Set_any hm.lw.sp x o5 vv).mono ?_
      rintro e w' ⟨rfl, hs, hF⟩
      unfold putW at hs
      rw [if_pos hh, ← ex, eq, Int.toNat_natCast, Int.toNat_natCast] at hs
      exact ⟨ret_bool hh, A, _, hv, held, cnt, L, lv, T, tv, al, av, dv, hm.space hs (hF.mono fun k hk => .inl hk) (fun g e => .inl e), hp.1, by omega, by omega, by omega, by omega, by omega, h8⟩
  have hvn : ¬ o6 < 0 → vv = o6 := fun h => by rw [hvv, if_neg h]
  have HM0 : Hid (Mid w0 (w.alloc (.cells #[.int .i64 2, .int .i64 o1, .int .i64 o2, .int .i64 o3, .int .i64 o4, .int .i64 o5, .int .i64 o6] 35)) B p pt pb base N A wd hv held cnt wd L lv T tv al av held dv cnt) := hide (h1.quiet ((Fr.refl (fun _ => False) w).alloc _))
  have HX0 := hide hXO
  have HN1 : Hid (∀ W, Fr (fun _ => False) (w.alloc (.cells #[.int .i64 2, .int .i64 o1, .int .i64 o2, .int .i64 o3, .int .i64 o4, .int .i64 o5, .int .i64 o6] 35)) W → Calls Tryd.prog 22 #[.pointer (some ⟨pt, 0, none⟩), .int .i64 o4] W fun e w' => e = .returned (.int .i64 x) ∧ Mid w0 w' B p pt pb base N A wd hv held cnt wd L lv T tv al av held dv cnt ∧ XO w' w.heap.size 2 o1 o2 o3 o4 o5 o6) := hide fun W hW => by
    rw [hxe]
    exact unhide HN W o4 ((unhide HM0).quiet hW) ((unhide HX0).fr hW id) hz4
  obtain ⟨x0, x1, x2, x3, x4, x5, x6⟩ := hXO
  obtain ⟨ao, cp, hf, hg⟩ := own_form h1.tw.tl
  obtain ⟨len, hlen⟩ : ∃ len, len = T.length := ⟨_, rfl⟩
  have HC1 : Hid (∀ W, Mid w0 W B p pt pb base N A wd hv held cnt wd L lv T tv al av held dv cnt → W.cell? ⟨pt, 1, none⟩ = some (.slice ao len cp)) := hide fun W hm => by rw [hm.tw.c1.1, hf, hlen]
  have HCe : Hid (∀ t b, T[t]? = some b → ∃ g, ao = some ⟨g, 0, none⟩ ∧ ∀ W, Mid w0 W B p pt pb base N A wd hv held cnt wd L lv T tv al av held dv cnt → W.cell? ⟨g, t * 5 + 2, none⟩ = some (.int .i64 b.sz) ∧ W.cell? ⟨g, t * 5 + 4, none⟩ = some (.slice (some ⟨b.gw, 0, none⟩) (b.room - 1) (b.room - 1))) := hide fun t b hb => by
    have ht := (List.getElem?_eq_some_iff.1 hb).1
    obtain ⟨g, rfl⟩ := hg (by omega)
    refine ⟨g, rfl, fun W hm => ?_⟩
    have h1 := hm.tw.tl
    rw [hf] at h1
    have := (own_row5 h1).2 t b hb
    exact ⟨this.2.2.1, this.2.2.2.2⟩
  have hln : len ≤ 100 := by omega
  have hno : ∀ b ∈ T, (b.at_ : Int) ≠ x := by rw [hxe]; exact hno0
  rw [blockI_none T 0 hno] at HBl
  have HS := hide (unhide HSf (h2.hasNo hno o5))
  clear HSf HSt HCe HC1 hno hno0 h1 h2 h3 h4 h5 h6 h7 h8 hf hg hlen hxe hve hvv HN HM0 HX0
  by_cases hneg : o6 < 0
  · have hw1 : IntKind.i64.wrap (o6 + 1) = o6 + 1 := by rw [IntKind.wrap_i64]; omega
    have hw2 : IntKind.i64.wrap (-(o6 + 1)) = -(o6 + 1) := by rw [IntKind.wrap_i64]; omega
    go_enter Tryd.func10, Tryd.ntmps10
    go_wp2
    go_region_law (first | (go_simp; go_at_call 22; refine (unhide HN1 _ (by first | exact Fr.refl _ _ | exact (Fr.refl _ _).drew)).mono ?_; rintro e w3 ⟨rfl, hM3, hX3⟩; have y5 := hX3.2.2.2.2.2.1; have y6 := hX3.2.2.2.2.2.2; have HX3 := hide hX3; have HM3 := hide hM3; clear hM3 hX3))
    all_goals clear HN1 x0 x1 x2 x3 x4 x5 x6
    all_goals go_wp2_with (first | (go_at_call 22; refine (unhide HNv _ (unhide HM3) (unhide HX3) hneg).mono ?_; rintro e w4 ⟨rfl, hM4, hX4⟩; have z5 := hX4.2.2.2.2.2.1; have HX4 := hide hX4; have HM4 := hide hM4; clear hM4 hX4) | (go_at_call 23; refine (unhide HBl _ (unhide HM4) (unhide HX4)).mono ?_; rintro e w5 ⟨rfl, hM5, hX5⟩; have u5 := hX5.2.2.2.2.2.1; have HM5 := hide hM5; clear hM5 hX5))
    all_goals go_region
    all_goals go_wp2_with (first | (go_at_call 13; refine (unhide HS _ ((unhide HM5).quiet (by first | exact Fr.refl _ _ | exact (Fr.refl _ _).drew | exact ((Fr.refl _ _).drew).drew))).mono ?_; rintro e w6 ⟨rfl, hD6⟩; have HD6 := hide hD6; clear hD6))
    all_goals go_ret
    all_goals exact ⟨rfl, unhide HD6⟩
  · obtain rfl := hvn hneg
    go_enter Tryd.func10, Tryd.ntmps10
    go_wp2
    go_region_law (first | (go_simp; go_at_call 22; refine (unhide HN1 _ (by first | exact Fr.refl _ _ | exact (Fr.refl _ _).drew)).mono ?_; rintro e w3 ⟨rfl, hM3, hX3⟩; have y5 := hX3.2.2.2.2.2.1; have y6 := hX3.2.2.2.2.2.2; have HX3 := hide hX3; have HM3 := hide hM3; clear hM3 hX3))
    all_goals clear HN1 x0 x1 x2 x3 x4 x5 x6
    all_goals go_wp2_with (first | (go_at_call 23; refine (unhide HBl _ (unhide HM3) (unhide HX3)).mono ?_; rintro e w5 ⟨rfl, hM5, hX5⟩; have u5 := hX5.2.2.2.2.2.1; have HM5 := hide hM5; clear hM5 hX5))
    all_goals go_region
    all_goals go_wp2_with (first | (go_at_call 13; refine (unhide HS _ ((unhide HM5).quiet (by first | exact Fr.refl _ _ | exact (Fr.refl _ _).drew | exact ((Fr.refl _ _).drew).drew))).mono ?_; rintro e w6 ⟨rfl, hD6⟩; have HD6 := hide hD6; clear hD6))
    all_goals go_ret
    all_goals exact ⟨rfl, unhide HD6⟩
end Go.Proofs.YtjblmincldaklaaDoor
