/- A step of both: Hold, Drop. -/
import Derived.Test.YtjblmincldaklaaDoorU1
namespace Go.Proofs.YtjblmincldaklaaDoor
open Go.RowKit Go.Proofs.YtjblmincldaklaaDoor.Hp
theorem nthI_rng {al : List Nat} {z : Int} (h : ∀ x ∈ al, x < 65536) : 0 ≤ nthI al z ∧ nthI al z < 65536 := by
  unfold nthI
  split
  · omega
  · rename_i hn
    have h1 := Int.emod_lt_of_pos z (show (0 : Int) < al.length by omega)
    have h2 := Int.emod_nonneg z (show (al.length : Int) ≠ 0 by omega)
    have hl : (z % (al.length : Int)).toNat < al.length := by omega
    have := h (al.getD (z % (al.length : Int)).toNat 0) (by simp [List.getD, List.getElem?_eq_getElem hl])
    omega
set_option maxRecDepth 100000 in
set_option maxHeartbeats 4000000 in
theorem step_3 {w0 w : World} {B : HB} {p pt pb base N c : Nat} (h : DuoP w0 w B p pt pb base N c) (hc : c ≤ 100) (o1 o2 o3 o4 o5 o6 : Int) (hz : -9223372036854775808 ≤ o4 ∧ o4 < 9223372036854775808) :
    Calls Tryd.prog 10 #[.pointer (some ⟨p, 0, none⟩), .pointer (some ⟨pt, 0, none⟩), .agg #[.int .i64 3, .int .i64 o1, .int .i64 o2, .int .i64 o3, .int .i64 o4, .int .i64 o5, .int .i64 o6]] w fun e w' => e = .returned (.bool true) ∧ DuoP w0 w' B p pt pb base N (c + 1) := by
  obtain ⟨A, wd, hv, held, cnt, L, lv, T, tv, al, av, dv, h1, h2, h3, h4, h5, h6, h7, h8⟩ := h
  have hnb : ¬ SpK B p hv w.heap.size := fun hk => by have := (h1.lw.sp.lt hk).2; omega
  have hXO := XO.new w 3 o1 o2 o3 o4 o5 o6
  have hx := nthI_rng (z := o4) h8
  obtain ⟨x, hxe⟩ : ∃ x, x = nthI al o4 := ⟨_, rfl⟩
  rw [← hxe] at hx
  have HN1 : Hid (Calls Tryd.prog 22 #[.pointer (some ⟨pt, 0, none⟩), .int .i64 o4] (w.alloc (.cells #[.int .i64 3, .int .i64 o1, .int .i64 o2, .int .i64 o3, .int .i64 o4, .int .i64 o5, .int .i64 o6] 35)) fun e w' => e = .returned (.int .i64 x) ∧ Mid w0 w' B p pt pb base N A wd hv held cnt wd L lv T tv al av held dv cnt ∧ XO w' w.heap.size 3 o1 o2 o3 o4 o5 o6) := hide (by
    have hm0 := h1.quiet ((Fr.refl (fun _ => False) w).alloc (.cells #[.int .i64 3, .int .i64 o1, .int .i64 o2, .int .i64 o3, .int .i64 o4, .int .i64 o5, .int .i64 o6] 35))
    refine (nth_any hm0.tw o4 hz (by omega)).mono ?_
    rintro e w' ⟨rfl, hF⟩
    exact ⟨by rw [hxe], hm0.quiet hF, hXO.fr hF id⟩)
  have HHo : Hid (∀ W, Mid w0 W B p pt pb base N A wd hv held cnt wd L lv T tv al av held dv cnt → XO W w.heap.size 3 o1 o2 o3 o4 o5 o6 → Calls Tryd.prog 15 #[.pointer (some ⟨p, 0, none⟩), .int .i64 x] W fun e w' => e = .returned (.tuple #[]) ∧ (∃ hv2, Mid w0 w' B p pt pb base N A wd hv2 (held ++ [x]) cnt wd L lv T tv al av held dv cnt) ∧ XO w' w.heap.size 3 o1 o2 o3 o4 o5 o6) := hide fun W hm hX => by
    refine (Hold_any hm.lw.sp x (by omega) (by omega)).mono ?_
    rintro e w' ⟨hv2, rfl, hs, hF, hg⟩
    exact ⟨rfl, ⟨hv2, hm.space hs hF hg⟩, hX.fr hF hnb⟩
  have HN2 : Hid (∀ W hv2, Mid w0 W B p pt pb base N A wd hv2 (held ++ [x]) cnt wd L lv T tv al av held dv cnt → Calls Tryd.prog 22 #[.pointer (some ⟨pt, 0, none⟩), .int .i64 o4] W fun e w' => e = .returned (.int .i64 x) ∧ Mid w0 w' B p pt pb base N A wd hv2 (held ++ [x]) cnt wd L lv T tv al av held dv cnt) := hide fun W hv2 hm => by
    refine (nth_any hm.tw o4 hz (by omega)).mono ?_
    rintro e w' ⟨rfl, hF⟩
    exact ⟨by rw [hxe], hm.quiet hF⟩
  have HE : Hid (∀ W hv2 W5 W6 g c5, Mid w0 W B p pt pb base N A wd hv2 (held ++ [x]) cnt wd L lv T tv al av held dv cnt → Fr (fun j => dv.ownBlock = some j) W W5 → W5.ownsRow base 3 1 (.slice (some ⟨g, 0, none⟩) (held.length + 1) c5) (held.length + 1) (held.map (Value.int .i64) ++ [.int .i64 x]) → (dv.ownBlock = some g ∨ W.heap.size ≤ g) → Fr (fun _ => False) (W5.setCell ⟨pt, 3, none⟩ (.slice (some ⟨g, 0, none⟩) (held.length + 1) c5)) W6 → W5.cell? ⟨pt, 3, none⟩ = some dv ∧ W5.frozen? ⟨pt, 3, none⟩ = false ∧ DuoP w0 W6 B p pt pb base N (c + 1)) := hide fun W hv2 W5 W6 g c5 hm hF ho hat hq => by
    obtain ⟨q1, q2, q3, q4, q5⟩ := hm.tw.setD (held' := held ++ [x]) (n' := held.length + 1) hF (by simp) (by rw [List.map_append]; exact ho) hat
    exact ⟨q1, q2, A, wd, hv2, held ++ [x], cnt, L, lv, T, tv, al, av, _, (hm.twin q3 q4 q5).quiet hq, h2, by omega, by omega, by omega, by simp; omega, by omega, h8⟩
  obtain ⟨da, dc, ed, _⟩ := own_form h1.tw.dl
  have hdl : held.length ≤ 100 := by omega
  clear h1 h2 h3 h4 h5 h6 h7 h8 hXO hnb hxe
  go_enter Tryd.func10, Tryd.ntmps10
  go_wp2_with (first | (go_at_call 15; refine (unhide HHo _ (unhide HM3) (unhide HX3)).mono ?_; rintro e w4 ⟨rfl, ⟨hv4, hM4⟩, hX4⟩; obtain ⟨y0, y1, y2, y3, y4, y5, y6⟩ := hX4; have HM4 := hide hM4; clear hM4) | (go_at_call 22; refine (unhide HN1).mono ?_; rintro e w3 ⟨rfl, hM3, hX3⟩; have HX3 := hide hX3; have HM3 := hide hM3; clear hM3 hX3))
  obtain ⟨dn, hdn⟩ : ∃ dn, dn = held.length := ⟨_, rfl⟩
  have HDn := hide hdn
  have e3 : ∀ W hv2, Mid w0 W B p pt pb base N A wd hv2 (held ++ [x]) cnt wd L lv T tv al av held dv cnt → W.cell? ⟨pt, 3, none⟩ = some (.slice da dn dc) := fun W hv2 hm => by rw [hm.tw.c3.1, ed, hdn]
  have HE3 := hide e3
  have d3 := e3 _ _ (unhide HM4)
  have hdn1 : dn ≤ 100 := by omega
  have HOw : Hid (∀ W hv2, Mid w0 W B p pt pb base N A wd hv2 (held ++ [x]) cnt wd L lv T tv al av held dv cnt → base ≤ W.heap.size ∧ W.ownsRow base 3 1 (.slice da dn dc) dn (held.map (Value.int .i64))) := hide fun W hv2 hm => by
    have := hm.tw.dl
    rw [ed, ← hdn] at this
    exact ⟨hm.tw.st.2.2.2.2.2, this⟩
  have HE2 : Hid (∀ W hv2 W5 g c5, Mid w0 W B p pt pb base N A wd hv2 (held ++ [x]) cnt wd L lv T tv al av held dv cnt → (W.alloc (.cells #[.int .i64 x] 3)).grownBy W5 (Value.slice da dn dc).ownBlock → W5.ownsRow base 3 1 (.slice (some ⟨g, 0, none⟩) (dn + 1) c5) (dn + 1) (held.map (Value.int .i64) ++ [.int .i64 x]) → ((Value.slice da dn dc).ownBlock = some g ∨ g = (W.alloc (.cells #[.int .i64 x] 3)).heap.size) → W5.cell? ⟨pt, 3, none⟩ = some (.slice da dn dc) ∧ W5.frozen? ⟨pt, 3, none⟩ = false ∧ DuoP w0 (W5.setCell ⟨pt, 3, none⟩ (.slice (some ⟨g, 0, none⟩) (dn + 1) c5)) B p pt pb base N (c + 1)) := hide fun W hv2 W5 g c5 hm hg ho hat => by
    rw [hdn, ← ed] at hg hat
    rw [hdn] at ho
    have := unhide HE W hv2 W5 _ g c5 hm ((((Fr.refl _ W).alloc _)).trans ((Fr.grown hg).mono fun _ e => e.symm)) ho (hat.imp id (fun e => by rw [e]; simp)) (Fr.refl _ _)
    rw [hdn, ← ed]
    exact this
  obtain ⟨i0, ki, kz0, kz1, kz2⟩ := info_parts Tryd.info3
  generalize held.map (Value.int .i64) = HS at *
  clear e3 hdn HN1 HHo HE HM3 HX3
  go_region_law (first | (refine step_append_lies _ rfl _ _ 31 rfl base 3 i0 (.int .i64 0) 1 8 Tryd.underlying31 ki kz0 kz1 kz2 rfl (by decide) (.slice da dn dc) dn HS (by simp [Act.eval]) ((unhide HO5).alloc _) ⟨w5.heap.size, 0, none⟩ 1 1 [.int .i64 x] (by simp [Act.eval]) rfl (cell_one_new _ _ _) (ints_oneCell .i64 [x]) (by decide) (by unfold maxLen; omega) (by omega) (by simp; omega) _ rfl ?_; intro g6 c6 w6 ho6 hg6 hat6 hlt6; obtain ⟨z1, z2, hD6⟩ := unhide HE2 _ _ _ _ _ (unhide HM5) hg6 ho6 hat6; have HD6 := hide hD6; clear ho6 hg6 hat6 hlt6 hD6) | (go_simp; go_at_call 22; refine (unhide HN2 _ _ ((unhide HM4).quiet (by first | exact Fr.refl _ _ | exact (Fr.refl _ _).drew))).mono ?_; rintro e w5 ⟨rfl, hM5⟩; have d5 := unhide HE3 _ _ hM5; have d5a : (w5.alloc (Obj.cells #[Value.int IntKind.i64 x] 3)).cell? ⟨pt, 3, none⟩ = some (.slice da dn dc) := (World.cell?_alloc_some w5 ⟨pt, 3, none⟩ _ (by rw [d5]; rfl)).trans d5; obtain ⟨hb5, hO5⟩ := unhide HOw _ _ hM5; have HO5 := hide hO5; have HM5 := hide hM5; clear hM5 hO5))
  all_goals go_wp2
  all_goals go_ret
  all_goals exact ⟨rfl, unhide HD6⟩
set_option maxRecDepth 100000 in
set_option maxHeartbeats 4000000 in
theorem step_4 {w0 w : World} {B : HB} {p pt pb base N c : Nat} (h : DuoP w0 w B p pt pb base N c) (hc : c ≤ 100) (o1 o2 o3 o4 o5 o6 : Int) (hz : -9223372036854775808 ≤ o4 ∧ o4 < 9223372036854775808) :
    Calls Tryd.prog 10 #[.pointer (some ⟨p, 0, none⟩), .pointer (some ⟨pt, 0, none⟩), .agg #[.int .i64 4, .int .i64 o1, .int .i64 o2, .int .i64 o3, .int .i64 o4, .int .i64 o5, .int .i64 o6]] w fun e w' => e = .returned (.bool true) ∧ DuoP w0 w' B p pt pb base N (c + 1) := by
  obtain ⟨A, wd, hv, held, cnt, L, lv, T, tv, al, av, dv, h1, h2, h3, h4, h5, h6, h7, h8⟩ := h
  have hnb : ¬ SpK B p hv w.heap.size := fun hk => by have := (h1.lw.sp.lt hk).2; omega
  have hXO := XO.new w 4 o1 o2 o3 o4 o5 o6
  obtain ⟨m, hm⟩ : ∃ m, m = leftN held.length o4 := ⟨_, rfl⟩
  have hml : m ≤ held.length := by rw [hm]; unfold leftN; omega
  have HDr : Hid (Calls Tryd.prog 14 #[.pointer (some ⟨p, 0, none⟩), .int .i64 o4] (w.alloc (.cells #[.int .i64 4, .int .i64 o1, .int .i64 o2, .int .i64 o3, .int .i64 o4, .int .i64 o5, .int .i64 o6] 35)) fun e w' => e = .returned (.tuple #[]) ∧ (∃ hv2, Mid w0 w' B p pt pb base N A wd hv2 (held.take m) cnt wd L lv T tv al av held dv cnt) ∧ XO w' w.heap.size 4 o1 o2 o3 o4 o5 o6) := hide (by
    have hm0 := h1.quiet ((Fr.refl (fun _ => False) w).alloc (.cells #[.int .i64 4, .int .i64 o1, .int .i64 o2, .int .i64 o3, .int .i64 o4, .int .i64 o5, .int .i64 o6] 35))
    refine (Drop_any hm0.lw.sp o4 hz).mono ?_
    rintro e w' ⟨hv2, rfl, hs, hF, hg⟩
    rw [← hm] at hs
    exact ⟨rfl, ⟨hv2, hm0.space hs (hF.mono fun k e => .inr (.inl e)) (fun g e => .inl (by rw [← hg]; exact e))⟩, hXO.fr hF (fun e => hnb (.inr (.inl e)))⟩)
  have HE : Hid (∀ W hv2 W5 g c5, Mid w0 W B p pt pb base N A wd hv2 (held.take m) cnt wd L lv T tv al av held dv cnt → Fr (fun _ => False) W W5 → W5.ownsRow base 3 1 (.slice (some ⟨g, 0, none⟩) m c5) m ((held.take m).map (Value.int .i64)) → W.heap.size ≤ g → W5.cell? ⟨pt, 3, none⟩ = some dv ∧ W5.frozen? ⟨pt, 3, none⟩ = false ∧ DuoP w0 (W5.setCell ⟨pt, 3, none⟩ (.slice (some ⟨g, 0, none⟩) m c5)) B p pt pb base N (c + 1)) := hide fun W hv2 W5 g c5 hmd hF ho hat => by
    obtain ⟨q1, q2, q3, q4, q5⟩ := hmd.tw.setD (held' := held.take m) (n' := m) (hF.mono fun _ x => x.elim) (by simp; omega) ho (.inr hat)
    exact ⟨q1, q2, A, wd, hv2, held.take m, cnt, L, lv, T, tv, al, av, _, hmd.twin q3 q4 q5, h2, by omega, by omega, by omega, by simp; omega, by omega, h8⟩
  obtain ⟨da, dc, ed, hdg⟩ := own_form h1.tw.dl
  have hfm : (da = none ∧ held.length = 0 ∧ dc = 0) ∨ ∃ g, da = some ⟨g, 0, none⟩ := by
    rcases h1.tw.dl.2 with ⟨q2, q3⟩ | ⟨g, cap, cur, q2, _⟩
    · rw [ed] at q2; simp only [Value.slice.injEq] at q2; exact .inl ⟨q2.1, q3, q2.2.2⟩
    · rw [ed] at q2; simp only [Value.slice.injEq] at q2; exact .inr ⟨g, q2.1⟩
  have hdl : held.length ≤ 100 := by omega
  obtain ⟨dn, hdn⟩ : ∃ dn, dn = held.length := ⟨_, rfl⟩
  have HE3 : Hid (∀ W hv2, Mid w0 W B p pt pb base N A wd hv2 (held.take m) cnt wd L lv T tv al av held dv cnt → W.cell? ⟨pt, 3, none⟩ = some (.slice da dn dc)) := hide fun W hv2 hm => by rw [hm.tw.c3.1, ed, hdn]
  have hcap : dn ≤ dc := by rw [hdn]; exact own_cap (ed ▸ h1.tw.dl)
  have HCe : Hid (∀ W hv2 g, da = some ⟨g, 0, none⟩ → Mid w0 W B p pt pb base N A wd hv2 (held.take m) cnt wd L lv T tv al av held dv cnt → g < W.heap.size ∧ ∀ j u, ((held.take m).map (Value.int .i64))[j]? = some u → W.cell? ((⟨g, 0, none⟩ : Addr).add j) = some u) := hide fun W hv2 g eg hmd => by
    have hd := hmd.tw.dl
    rw [ed, eg] at hd
    refine ⟨(hd.lt g rfl).2, fun j u hu => hd.cells (g := g) rfl j u ?_⟩
    rw [List.map_take, List.getElem?_take] at hu
    split at hu
    · exact hu
    · cases hu
  have HLt : Hid (((held.take m).map (Value.int .i64)).length = m * 1) := hide (by simp; omega)
  have HOn : Hid (∀ u ∈ (held.take m).map (Value.int .i64), u.oneCell' = true) := hide fun u hu => by obtain ⟨z, _, rfl⟩ := List.mem_map.1 hu; rfl
  have HBs : Hid (∀ W hv2, Mid w0 W B p pt pb base N A wd hv2 (held.take m) cnt wd L lv T tv al av held dv cnt → base ≤ W.heap.size ∧ W.frozen? ⟨pt, 3, none⟩ = false) := hide fun W hv2 hmd => ⟨hmd.tw.st.2.2.2.2.2, hmd.tw.c3.2⟩
  have HZ : Hid (m = 0 → (held.take m).map (Value.int .i64) = []) := hide (by rintro rfl; rfl)
  rw [← hdn] at hml hm hdl hfm
  clear h1 h2 h3 h4 h5 h6 h7 h8 hXO hnb
  have HDn := hide hdn
  have HEd := hide ed
  clear hdn ed hdg
  have hk3 : o4 < 0 ∨ o4 = 0 ∨ (0 < o4 ∧ o4 ≤ dn) ∨ (dn : Int) < o4 := by omega
  rcases hk3 with hk3 | hk3 | ⟨hk3, hk4⟩ | hk3
  · obtain rfl : m = dn := by rw [hm]; unfold leftN; omega
    clear hm
    go_enter Tryd.func10, Tryd.ntmps10
    go_wp2_with (first | (go_at_call 14; refine (unhide HDr).mono ?_; rintro e w4 ⟨rfl, ⟨hv4, hM4⟩, hX4⟩; obtain ⟨y0, y1, y2, y3, y4, y5, y6⟩ := hX4; have d3 := unhide HE3 _ _ hM4; have HM4 := hide hM4; clear hM4))
    go_region
    have HM5 := hide ((unhide HM4).quiet ((Fr.refl (fun _ => False) w4).drew))
    have d5 := unhide HE3 _ _ (unhide HM5)
    obtain ⟨hb5, f5⟩ := unhide HBs _ _ (unhide HM5)
    clear HM4 d3 y0 y1 y2 y3 y4 y5 y6
    generalize w4.drew = w5 at *
    have d6 : (w5.alloc (.cells #[] 3)).cell? ⟨pt, 3, none⟩ = some (.slice da m dc) := (World.cell?_alloc_some w5 ⟨pt, 3, none⟩ _ (by rw [d5]; rfl)).trans d5
    have f6 : (w5.alloc (.cells #[] 3)).frozen? ⟨pt, 3, none⟩ = false := by
      have hl := World.block_lt_of_cell? w5 ⟨pt, 3, none⟩ d5
      exact (World.frozen?_of_block (w := w5) (a := ⟨pt, 3, none⟩) (Below.heap_alloc _ _ _ hl)).trans f5
    by_cases hm0 : m = 0
    · subst hm0
      rcases hfm with ⟨rfl, _, rfl⟩ | ⟨g, rfl⟩
      · have hD : DuoP w0 (((w5.alloc (.cells #[] 3)).setCell ⟨pt, 3, none⟩ (.slice (some ⟨w5.heap.size, 0, none⟩) 0 0))) B p pt pb base N (c + 1) := (unhide HE w5 hv4 _ w5.heap.size 0 (unhide HM5) ((Fr.refl _ _).alloc _) (by first | (rw [unhide HZ0]; exact World.ownsRow_made w5 #[] 0 hb5 (by unfold maxLen; omega) rfl) | (rw [unhide HZ rfl]; exact World.ownsRow_made w5 #[] 0 hb5 (by unfold maxLen; omega) rfl)) (Nat.le_refl _)).2.2
        have HD := hide hD
        clear hD HE HDr HE3 HCe HBs HLt HOn HZ HM5 HDn HEd
        go_wp2
        go_region
        go_wp2
        go_ret
        exact ⟨rfl, (unhide HD).quiet (Fr.drew (Fr.refl (fun _ => False) _))⟩
      · have hD : DuoP w0 (((w5.alloc (.cells #[] 3)).setCell ⟨pt, 3, none⟩ (.slice (some ⟨w5.heap.size, 0, none⟩) 0 0))) B p pt pb base N (c + 1) := (unhide HE w5 hv4 _ w5.heap.size 0 (unhide HM5) ((Fr.refl _ _).alloc _) (by first | (rw [unhide HZ0]; exact World.ownsRow_made w5 #[] 0 hb5 (by unfold maxLen; omega) rfl) | (rw [unhide HZ rfl]; exact World.ownsRow_made w5 #[] 0 hb5 (by unfold maxLen; omega) rfl)) (Nat.le_refl _)).2.2
        have HD := hide hD
        clear hD HE HDr HE3 HCe HBs HLt HOn HZ HM5 HDn HEd
        go_wp2
        go_region
        go_wp2
        go_ret
        exact ⟨rfl, (unhide HD).quiet (Fr.drew (Fr.refl (fun _ => False) _))⟩
    · rcases hfm with ⟨_, h0, _⟩ | ⟨g, rfl⟩
      · exact absurd h0 hm0
      · obtain ⟨hgl, hcs⟩ := unhide HCe _ _ g rfl (unhide HM5)
        have HCs : Hid (∀ j u, ((held.take (m)).map (Value.int .i64))[j]? = some u → World.cell? ((w5.alloc (.cells #[] 3)).drew) ((⟨g, 0, none⟩ : Addr).add j) = some u) := hide fun j u hu => (World.cell?_of_block (w := w5) (a := (⟨g, 0, none⟩ : Addr).add j) (by rw [show ((⟨g, 0, none⟩ : Addr).add j).block = g by unfold Addr.add; split <;> rfl]; exact ((((Fr.refl (fun _ => False) w5).alloc (.cells #[] 3)).drew).block g hgl id))).trans (hcs j u hu)
        have HOw : Hid (World.ownsRow ((w5.alloc (.cells #[] 3)).drew) base 3 1 (.slice (some ⟨w5.heap.size, 0, none⟩) 0 0) 0 []) := hide (own_blk (World.ownsRow_made w5 #[] 0 hb5 (by unfold maxLen; omega) rfl) (fun _ _ => rfl))
        have HE2 : Hid (∀ W6 g6 c6, W6.ownsRow base 3 1 (.slice (some ⟨g6, 0, none⟩) (0 + (m)) c6) (0 + (m)) ([] ++ (held.take (m)).map (Value.int .i64)) → World.grownBy ((w5.alloc (.cells #[] 3)).drew) W6 (Value.slice (some ⟨w5.heap.size, 0, none⟩) 0 0).ownBlock → ((Value.slice (some ⟨w5.heap.size, 0, none⟩) 0 0).ownBlock = some g6 ∨ g6 = ((w5.alloc (.cells #[] 3)).drew).heap.size) → W6.cell? ⟨pt, 3, none⟩ = some (.slice (some ⟨g, 0, none⟩) m dc) ∧ W6.frozen? ⟨pt, 3, none⟩ = false ∧ DuoP w0 (W6.setCell ⟨pt, 3, none⟩ (.slice (some ⟨g6, 0, none⟩) (m) c6)) B p pt pb base N (c + 1)) := hide fun W6 g6 c6 ho hg hat => by
          have hF6 : Fr (fun _ => False) w5 W6 := Fr.up (((Fr.refl (fun _ => False) w5).alloc (.cells #[] 3)).drew) (Fr.grown hg) (fun b e => Nat.le_of_eq (Option.some.inj e).symm)
          have hg6 : w5.heap.size ≤ g6 := by
            rcases hat with e | e
            · exact Nat.le_of_eq (Option.some.inj e)
            · rw [e]; show w5.heap.size ≤ (w5.alloc (.cells #[] 3)).heap.size; simp
          rw [Nat.zero_add] at ho
          have := unhide HE w5 hv4 W6 g6 c6 (unhide HM5) hF6 ho hg6
          rw [unhide HEd, ← unhide HDn] at this
          exact this
        obtain ⟨i0, ki, kz0, kz1, kz2⟩ := info_parts Tryd.info3
        have hHm : m ≤ 100 := by omega
        have hww : IntKind.i64.wrap (m : Int) = m := by rw [IntKind.wrap_i64]; omega
        generalize (held.take (m)).map (Value.int .i64) = HS at *
        clear HE HDr HE3 HCe HBs hcs HEd HDn HZ HM5
        go_wp2
        go_region_law (first | (refine step_append_lies _ rfl _ _ 31 rfl base 3 i0 (.int .i64 0) 1 8 Tryd.underlying31 ki kz0 kz1 kz2 rfl (by decide) (.slice (some ⟨w5.heap.size, 0, none⟩) 0 0) 0 [] (by first | rfl | simp [Act.eval, Act.put]) (unhide HOw) ⟨g, 0, none⟩ (m) dc HS (by first | rfl | simp [Act.eval, Act.put]) (unhide HLt) (unhide HCs) (unhide HOn) (by omega) (by unfold maxLen; omega) (by omega) (by simp; omega) _ rfl ?_; intro g6 c6 w6 ho6 hg6 hat6 hlt6; obtain ⟨z1, z2, hD6⟩ := unhide HE2 _ _ _ ho6 hg6 hat6; have HD6 := hide hD6; clear ho6 hg6 hat6 hlt6 hD6))
        all_goals go_wp2
        all_goals go_ret
        all_goals exact ⟨rfl, unhide HD6⟩
  · obtain rfl : m = dn := by rw [hm]; unfold leftN; omega
    clear hm
    subst hk3
    go_enter Tryd.func10, Tryd.ntmps10
    go_wp2_with (first | (go_at_call 14; refine (unhide HDr).mono ?_; rintro e w4 ⟨rfl, ⟨hv4, hM4⟩, hX4⟩; obtain ⟨y0, y1, y2, y3, y4, y5, y6⟩ := hX4; have d3 := unhide HE3 _ _ hM4; have HM4 := hide hM4; clear hM4))
    go_region
    have HM5 := hide ((unhide HM4).quiet ((Fr.refl (fun _ => False) w4).drew))
    have d5 := unhide HE3 _ _ (unhide HM5)
    obtain ⟨hb5, f5⟩ := unhide HBs _ _ (unhide HM5)
    clear HM4 d3 y0 y1 y2 y3 y4 y5 y6
    generalize w4.drew = w5 at *
    have d6 : (w5.alloc (.cells #[] 3)).cell? ⟨pt, 3, none⟩ = some (.slice da m dc) := (World.cell?_alloc_some w5 ⟨pt, 3, none⟩ _ (by rw [d5]; rfl)).trans d5
    have f6 : (w5.alloc (.cells #[] 3)).frozen? ⟨pt, 3, none⟩ = false := by
      have hl := World.block_lt_of_cell? w5 ⟨pt, 3, none⟩ d5
      exact (World.frozen?_of_block (w := w5) (a := ⟨pt, 3, none⟩) (Below.heap_alloc _ _ _ hl)).trans f5
    by_cases hm0 : m = 0
    · subst hm0
      rcases hfm with ⟨rfl, _, rfl⟩ | ⟨g, rfl⟩
      · have hD : DuoP w0 (((w5.alloc (.cells #[] 3)).setCell ⟨pt, 3, none⟩ (.slice (some ⟨w5.heap.size, 0, none⟩) 0 0))) B p pt pb base N (c + 1) := (unhide HE w5 hv4 _ w5.heap.size 0 (unhide HM5) ((Fr.refl _ _).alloc _) (by first | (rw [unhide HZ0]; exact World.ownsRow_made w5 #[] 0 hb5 (by unfold maxLen; omega) rfl) | (rw [unhide HZ rfl]; exact World.ownsRow_made w5 #[] 0 hb5 (by unfold maxLen; omega) rfl)) (Nat.le_refl _)).2.2
        have HD := hide hD
        clear hD HE HDr HE3 HCe HBs HLt HOn HZ HM5 HDn HEd
        go_wp2
        go_region
        go_wp2
        go_ret
        exact ⟨rfl, (unhide HD).quiet (Fr.drew (Fr.refl (fun _ => False) _))⟩
      · have hD : DuoP w0 (((w5.alloc (.cells #[] 3)).setCell ⟨pt, 3, none⟩ (.slice (some ⟨w5.heap.size, 0, none⟩) 0 0))) B p pt pb base N (c + 1) := (unhide HE w5 hv4 _ w5.heap.size 0 (unhide HM5) ((Fr.refl _ _).alloc _) (by first | (rw [unhide HZ0]; exact World.ownsRow_made w5 #[] 0 hb5 (by unfold maxLen; omega) rfl) | (rw [unhide HZ rfl]; exact World.ownsRow_made w5 #[] 0 hb5 (by unfold maxLen; omega) rfl)) (Nat.le_refl _)).2.2
        have HD := hide hD
        clear hD HE HDr HE3 HCe HBs HLt HOn HZ HM5 HDn HEd
        go_wp2
        go_region
        go_wp2
        go_ret
        exact ⟨rfl, (unhide HD).quiet (Fr.drew (Fr.refl (fun _ => False) _))⟩
    · rcases hfm with ⟨_, h0, _⟩ | ⟨g, rfl⟩
      · exact absurd h0 hm0
      · obtain ⟨hgl, hcs⟩ := unhide HCe _ _ g rfl (unhide HM5)
        have HCs : Hid (∀ j u, ((held.take (m)).map (Value.int .i64))[j]? = some u → World.cell? ((w5.alloc (.cells #[] 3)).drew) ((⟨g, 0, none⟩ : Addr).add j) = some u) := hide fun j u hu => (World.cell?_of_block (w := w5) (a := (⟨g, 0, none⟩ : Addr).add j) (by rw [show ((⟨g, 0, none⟩ : Addr).add j).block = g by unfold Addr.add; split <;> rfl]; exact ((((Fr.refl (fun _ => False) w5).alloc (.cells #[] 3)).drew).block g hgl id))).trans (hcs j u hu)
        have HOw : Hid (World.ownsRow ((w5.alloc (.cells #[] 3)).drew) base 3 1 (.slice (some ⟨w5.heap.size, 0, none⟩) 0 0) 0 []) := hide (own_blk (World.ownsRow_made w5 #[] 0 hb5 (by unfold maxLen; omega) rfl) (fun _ _ => rfl))
        have HE2 : Hid (∀ W6 g6 c6, W6.ownsRow base 3 1 (.slice (some ⟨g6, 0, none⟩) (0 + (m)) c6) (0 + (m)) ([] ++ (held.take (m)).map (Value.int .i64)) → World.grownBy ((w5.alloc (.cells #[] 3)).drew) W6 (Value.slice (some ⟨w5.heap.size, 0, none⟩) 0 0).ownBlock → ((Value.slice (some ⟨w5.heap.size, 0, none⟩) 0 0).ownBlock = some g6 ∨ g6 = ((w5.alloc (.cells #[] 3)).drew).heap.size) → W6.cell? ⟨pt, 3, none⟩ = some (.slice (some ⟨g, 0, none⟩) m dc) ∧ W6.frozen? ⟨pt, 3, none⟩ = false ∧ DuoP w0 (W6.setCell ⟨pt, 3, none⟩ (.slice (some ⟨g6, 0, none⟩) (m) c6)) B p pt pb base N (c + 1)) := hide fun W6 g6 c6 ho hg hat => by
          have hF6 : Fr (fun _ => False) w5 W6 := Fr.up (((Fr.refl (fun _ => False) w5).alloc (.cells #[] 3)).drew) (Fr.grown hg) (fun b e => Nat.le_of_eq (Option.some.inj e).symm)
          have hg6 : w5.heap.size ≤ g6 := by
            rcases hat with e | e
            · exact Nat.le_of_eq (Option.some.inj e)
            · rw [e]; show w5.heap.size ≤ (w5.alloc (.cells #[] 3)).heap.size; simp
          rw [Nat.zero_add] at ho
          have := unhide HE w5 hv4 W6 g6 c6 (unhide HM5) hF6 ho hg6
          rw [unhide HEd, ← unhide HDn] at this
          exact this
        obtain ⟨i0, ki, kz0, kz1, kz2⟩ := info_parts Tryd.info3
        have hHm : m ≤ 100 := by omega
        have hww : IntKind.i64.wrap (m : Int) = m := by rw [IntKind.wrap_i64]; omega
        generalize (held.take (m)).map (Value.int .i64) = HS at *
        clear HE HDr HE3 HCe HBs hcs HEd HDn HZ HM5
        go_wp2
        go_region_law (first | (refine step_append_lies _ rfl _ _ 31 rfl base 3 i0 (.int .i64 0) 1 8 Tryd.underlying31 ki kz0 kz1 kz2 rfl (by decide) (.slice (some ⟨w5.heap.size, 0, none⟩) 0 0) 0 [] (by first | rfl | simp [Act.eval, Act.put]) (unhide HOw) ⟨g, 0, none⟩ (m) dc HS (by first | rfl | simp [Act.eval, Act.put]) (unhide HLt) (unhide HCs) (unhide HOn) (by omega) (by unfold maxLen; omega) (by omega) (by simp; omega) _ rfl ?_; intro g6 c6 w6 ho6 hg6 hat6 hlt6; obtain ⟨z1, z2, hD6⟩ := unhide HE2 _ _ _ ho6 hg6 hat6; have HD6 := hide hD6; clear ho6 hg6 hat6 hlt6 hD6))
        all_goals go_wp2
        all_goals go_ret
        all_goals exact ⟨rfl, unhide HD6⟩
  · obtain ⟨q, rfl⟩ : ∃ q : Nat, o4 = q := ⟨o4.toNat, by omega⟩
    obtain rfl : m = dn - q := by rw [hm]; unfold leftN; omega
    clear hm
    go_enter Tryd.func10, Tryd.ntmps10
    go_wp2_with (first | (go_at_call 14; refine (unhide HDr).mono ?_; rintro e w4 ⟨rfl, ⟨hv4, hM4⟩, hX4⟩; obtain ⟨y0, y1, y2, y3, y4, y5, y6⟩ := hX4; have d3 := unhide HE3 _ _ hM4; have HM4 := hide hM4; clear hM4))
    go_region
    have HM5 := hide ((unhide HM4).quiet ((Fr.refl (fun _ => False) w4).drew))
    have d5 := unhide HE3 _ _ (unhide HM5)
    obtain ⟨hb5, f5⟩ := unhide HBs _ _ (unhide HM5)
    clear HM4 d3 y0 y1 y2 y3 y4 y5 y6
    generalize w4.drew = w5 at *
    have d6 : (w5.alloc (.cells #[] 3)).cell? ⟨pt, 3, none⟩ = some (.slice da dn dc) := (World.cell?_alloc_some w5 ⟨pt, 3, none⟩ _ (by rw [d5]; rfl)).trans d5
    have f6 : (w5.alloc (.cells #[] 3)).frozen? ⟨pt, 3, none⟩ = false := by
      have hl := World.block_lt_of_cell? w5 ⟨pt, 3, none⟩ d5
      exact (World.frozen?_of_block (w := w5) (a := ⟨pt, 3, none⟩) (Below.heap_alloc _ _ _ hl)).trans f5
    rcases hfm with ⟨_, h0, _⟩ | ⟨g, rfl⟩
    · omega
    · by_cases hm0 : q = dn
      · subst hm0
        rw [Nat.sub_self] at HE HZ HM5
        have hD : DuoP w0 (((w5.alloc (.cells #[] 3)).setCell ⟨pt, 3, none⟩ (.slice (some ⟨w5.heap.size, 0, none⟩) 0 0))) B p pt pb base N (c + 1) := (unhide HE w5 hv4 _ w5.heap.size 0 (unhide HM5) ((Fr.refl _ _).alloc _) (by first | (rw [unhide HZ0]; exact World.ownsRow_made w5 #[] 0 hb5 (by unfold maxLen; omega) rfl) | (rw [unhide HZ rfl]; exact World.ownsRow_made w5 #[] 0 hb5 (by unfold maxLen; omega) rfl)) (Nat.le_refl _)).2.2
        have HD := hide hD
        clear hD HE HDr HE3 HCe HBs HLt HOn HZ HM5 HDn HEd
        go_wp2
        go_region
        go_wp2
        go_ret
        exact ⟨rfl, (unhide HD).quiet (Fr.drew (Fr.refl (fun _ => False) _))⟩
      · obtain ⟨hgl, hcs⟩ := unhide HCe _ _ g rfl (unhide HM5)
        have HCs : Hid (∀ j u, ((held.take (dn - q)).map (Value.int .i64))[j]? = some u → World.cell? ((w5.alloc (.cells #[] 3)).drew) ((⟨g, 0, none⟩ : Addr).add j) = some u) := hide fun j u hu => (World.cell?_of_block (w := w5) (a := (⟨g, 0, none⟩ : Addr).add j) (by rw [show ((⟨g, 0, none⟩ : Addr).add j).block = g by unfold Addr.add; split <;> rfl]; exact ((((Fr.refl (fun _ => False) w5).alloc (.cells #[] 3)).drew).block g hgl id))).trans (hcs j u hu)
        have HOw : Hid (World.ownsRow ((w5.alloc (.cells #[] 3)).drew) base 3 1 (.slice (some ⟨w5.heap.size, 0, none⟩) 0 0) 0 []) := hide (own_blk (World.ownsRow_made w5 #[] 0 hb5 (by unfold maxLen; omega) rfl) (fun _ _ => rfl))
        have HE2 : Hid (∀ W6 g6 c6, W6.ownsRow base 3 1 (.slice (some ⟨g6, 0, none⟩) (0 + (dn - q)) c6) (0 + (dn - q)) ([] ++ (held.take (dn - q)).map (Value.int .i64)) → World.grownBy ((w5.alloc (.cells #[] 3)).drew) W6 (Value.slice (some ⟨w5.heap.size, 0, none⟩) 0 0).ownBlock → ((Value.slice (some ⟨w5.heap.size, 0, none⟩) 0 0).ownBlock = some g6 ∨ g6 = ((w5.alloc (.cells #[] 3)).drew).heap.size) → W6.cell? ⟨pt, 3, none⟩ = some (.slice (some ⟨g, 0, none⟩) dn dc) ∧ W6.frozen? ⟨pt, 3, none⟩ = false ∧ DuoP w0 (W6.setCell ⟨pt, 3, none⟩ (.slice (some ⟨g6, 0, none⟩) (dn - q) c6)) B p pt pb base N (c + 1)) := hide fun W6 g6 c6 ho hg hat => by
          have hF6 : Fr (fun _ => False) w5 W6 := Fr.up (((Fr.refl (fun _ => False) w5).alloc (.cells #[] 3)).drew) (Fr.grown hg) (fun b e => Nat.le_of_eq (Option.some.inj e).symm)
          have hg6 : w5.heap.size ≤ g6 := by
            rcases hat with e | e
            · exact Nat.le_of_eq (Option.some.inj e)
            · rw [e]; show w5.heap.size ≤ (w5.alloc (.cells #[] 3)).heap.size; simp
          rw [Nat.zero_add] at ho
          have := unhide HE w5 hv4 W6 g6 c6 (unhide HM5) hF6 ho hg6
          rw [unhide HEd, ← unhide HDn] at this
          exact this
        obtain ⟨i0, ki, kz0, kz1, kz2⟩ := info_parts Tryd.info3
        have hHm : dn - q ≤ 100 := by omega
        have hww : IntKind.i64.wrap ((dn : Int) - q) = ((dn - q : Nat) : Int) := by rw [IntKind.wrap_i64]; omega
        have hdq : dn ≤ dc + q := by omega
        generalize (held.take (dn - q)).map (Value.int .i64) = HS at *
        clear HE HDr HE3 HCe HBs hcs HEd HDn HZ HM5
        go_wp2
        go_region_law (first | (refine step_append_lies _ rfl _ _ 31 rfl base 3 i0 (.int .i64 0) 1 8 Tryd.underlying31 ki kz0 kz1 kz2 rfl (by decide) (.slice (some ⟨w5.heap.size, 0, none⟩) 0 0) 0 [] (by first | rfl | simp [Act.eval, Act.put]) (unhide HOw) ⟨g, 0, none⟩ (dn - q) dc HS (by first | rfl | simp [Act.eval, Act.put]) (unhide HLt) (unhide HCs) (unhide HOn) (by omega) (by unfold maxLen; omega) (by omega) (by simp; omega) _ rfl ?_; intro g6 c6 w6 ho6 hg6 hat6 hlt6; obtain ⟨z1, z2, hD6⟩ := unhide HE2 _ _ _ ho6 hg6 hat6; have HD6 := hide hD6; clear ho6 hg6 hat6 hlt6 hD6))
        all_goals go_wp2
        all_goals go_ret
        all_goals exact ⟨rfl, unhide HD6⟩
  · obtain rfl : m = 0 := by rw [hm]; unfold leftN; omega
    clear hm
    have HZ0 := hide (unhide HZ rfl)
    go_enter Tryd.func10, Tryd.ntmps10
    go_wp2_with (first | (go_at_call 14; refine (unhide HDr).mono ?_; rintro e w4 ⟨rfl, ⟨hv4, hM4⟩, hX4⟩; obtain ⟨y0, y1, y2, y3, y4, y5, y6⟩ := hX4; have d3 := unhide HE3 _ _ hM4; have HM4 := hide hM4; clear hM4))
    go_region
    have HM5 := hide ((unhide HM4).quiet ((Fr.refl (fun _ => False) w4).drew))
    have d5 := unhide HE3 _ _ (unhide HM5)
    obtain ⟨hb5, f5⟩ := unhide HBs _ _ (unhide HM5)
    clear HM4 d3 y0 y1 y2 y3 y4 y5 y6
    generalize w4.drew = w5 at *
    have d6 : (w5.alloc (.cells #[] 3)).cell? ⟨pt, 3, none⟩ = some (.slice da dn dc) := (World.cell?_alloc_some w5 ⟨pt, 3, none⟩ _ (by rw [d5]; rfl)).trans d5
    have f6 : (w5.alloc (.cells #[] 3)).frozen? ⟨pt, 3, none⟩ = false := by
      have hl := World.block_lt_of_cell? w5 ⟨pt, 3, none⟩ d5
      exact (World.frozen?_of_block (w := w5) (a := ⟨pt, 3, none⟩) (Below.heap_alloc _ _ _ hl)).trans f5
    rcases hfm with ⟨rfl, h0, rfl⟩ | ⟨g, rfl⟩
    · have hD : DuoP w0 (((w5.alloc (.cells #[] 3)).setCell ⟨pt, 3, none⟩ (.slice (some ⟨w5.heap.size, 0, none⟩) 0 0))) B p pt pb base N (c + 1) := (unhide HE w5 hv4 _ w5.heap.size 0 (unhide HM5) ((Fr.refl _ _).alloc _) (by first | (rw [unhide HZ0]; exact World.ownsRow_made w5 #[] 0 hb5 (by unfold maxLen; omega) rfl) | (rw [unhide HZ rfl]; exact World.ownsRow_made w5 #[] 0 hb5 (by unfold maxLen; omega) rfl)) (Nat.le_refl _)).2.2
      have HD := hide hD
      clear hD HE HDr HE3 HCe HBs HLt HOn HZ HM5 HDn HEd
      go_wp2
      go_region
      go_wp2
      go_ret
      exact ⟨rfl, (unhide HD).quiet (Fr.drew (Fr.refl (fun _ => False) _))⟩
    · have hD : DuoP w0 (((w5.alloc (.cells #[] 3)).setCell ⟨pt, 3, none⟩ (.slice (some ⟨w5.heap.size, 0, none⟩) 0 0))) B p pt pb base N (c + 1) := (unhide HE w5 hv4 _ w5.heap.size 0 (unhide HM5) ((Fr.refl _ _).alloc _) (by first | (rw [unhide HZ0]; exact World.ownsRow_made w5 #[] 0 hb5 (by unfold maxLen; omega) rfl) | (rw [unhide HZ rfl]; exact World.ownsRow_made w5 #[] 0 hb5 (by unfold maxLen; omega) rfl)) (Nat.le_refl _)).2.2
      have HD := hide hD
      clear hD HE HDr HE3 HCe HBs HLt HOn HZ HM5 HDn HEd
      go_wp2
      go_region
      go_wp2
      go_ret
      exact ⟨rfl, (unhide HD).quiet (Fr.drew (Fr.refl (fun _ => False) _))⟩
end Go.Proofs.YtjblmincldaklaaDoor
