/- A step of both: Make, Collect, nothing. -/
import Derived.Test.YtjblmincldaklaaDoorU0
namespace Go.Proofs.YtjblmincldaklaaDoor
open Go.RowKit Go.Proofs.YtjblmincldaklaaDoor.Hp
/-- Both are alike. -/
def DuoP (w0 w : World) (B : HB) (p pt pb base N c : Nat) : Prop :=
  ∃ A wd hv held cnt L lv T tv al av dv, Mid w0 w B p pt pb base N A wd hv held cnt wd L lv T tv al av held dv cnt ∧ Tm A wd L T ∧ L.length ≤ c ∧ T.length ≤ c ∧ al.length ≤ c ∧ held.length ≤ c ∧ cnt ≤ c ∧ ∀ x ∈ al, x < 65536
theorem DuoP.quiet {w0 w w' : World} {B : HB} {p pt pb base N c : Nat} (h : DuoP w0 w B p pt pb base N c) (k : Fr (fun _ => False) w w') : DuoP w0 w' B p pt pb base N c := by
  obtain ⟨A, wd, hv, held, cnt, L, lv, T, tv, al, av, dv, h1, h2⟩ := h
  exact ⟨A, wd, hv, held, cnt, L, lv, T, tv, al, av, dv, h1.quiet k, h2⟩
theorem DuoP.up {w0 w : World} {B : HB} {p pt pb base N c : Nat} (h : DuoP w0 w B p pt pb base N c) : DuoP w0 w B p pt pb base N (c + 1) := by
  obtain ⟨A, wd, hv, held, cnt, L, lv, T, tv, al, av, dv, h1, h2, h3, h4, h5, h6, h7, h8⟩ := h
  exact ⟨A, wd, hv, held, cnt, L, lv, T, tv, al, av, dv, h1, h2, by omega, by omega, by omega, by omega, by omega, h8⟩
/-- The step that is handed over, in memory. -/
def XO (W : World) (b : Nat) (o0 o1 o2 o3 o4 o5 o6 : Int) : Prop := W.cell? ⟨b, 0, none⟩ = some (.int .i64 o0) ∧ W.cell? ⟨b, 1, none⟩ = some (.int .i64 o1) ∧ W.cell? ⟨b, 2, none⟩ = some (.int .i64 o2) ∧ W.cell? ⟨b, 3, none⟩ = some (.int .i64 o3) ∧ W.cell? ⟨b, 4, none⟩ = some (.int .i64 o4) ∧ W.cell? ⟨b, 5, none⟩ = some (.int .i64 o5) ∧ W.cell? ⟨b, 6, none⟩ = some (.int .i64 o6)
theorem XO.new (w : World) (o0 o1 o2 o3 o4 o5 o6 : Int) : XO (w.alloc (.cells #[.int .i64 o0, .int .i64 o1, .int .i64 o2, .int .i64 o3, .int .i64 o4, .int .i64 o5, .int .i64 o6] 35)) w.heap.size o0 o1 o2 o3 o4 o5 o6 := by
  unfold XO
  refine ⟨?_, ?_, ?_, ?_, ?_, ?_, ?_⟩ <;> (rw [World.cell?_alloc_at _ _ _ _ rfl]; rfl)
theorem XO.fr {K : Nat → Prop} {W W' : World} {b : Nat} {o0 o1 o2 o3 o4 o5 o6 : Int} (h : XO W b o0 o1 o2 o3 o4 o5 o6) (k : Fr K W W') (hb : ¬ K b) : XO W' b o0 o1 o2 o3 o4 o5 o6 := by
  have hl := World.block_lt_of_cell? W ⟨b, 0, none⟩ h.1
  have e := k.block b hl hb
  have f : ∀ i u, W.cell? ⟨b, i, none⟩ = some u → W'.cell? ⟨b, i, none⟩ = some u := fun i u hu => (World.cell?_of_block (w := W) (a := ⟨b, i, none⟩) e).trans hu
  exact ⟨f _ _ h.1, f _ _ h.2.1, f _ _ h.2.2.1, f _ _ h.2.2.2.1, f _ _ h.2.2.2.2.1, f _ _ h.2.2.2.2.2.1, f _ _ h.2.2.2.2.2.2⟩
set_option maxRecDepth 100000 in
set_option maxHeartbeats 4000000 in
theorem step_1 {w0 w : World} {B : HB} {p pt pb base N c : Nat} (h : DuoP w0 w B p pt pb base N c) (hN1 : 2 ≤ N) (hN : N ≤ 16) (hc : c ≤ 100) (o1 o2 o3 o4 o5 o6 : Int) :
    Calls Tryd.prog 10 #[.pointer (some ⟨p, 0, none⟩), .pointer (some ⟨pt, 0, none⟩), .agg #[.int .i64 1, .int .i64 o1, .int .i64 o2, .int .i64 o3, .int .i64 o4, .int .i64 o5, .int .i64 o6]] w fun e w' => e = .returned (.bool true) ∧ DuoP w0 w' B p pt pb base N (c + 1) := by
  obtain ⟨A, wd, hv, held, cnt, L, lv, T, tv, al, av, dv, h1, h2, h3, h4, h5, h6, h7, h8⟩ := h
  have hnb : ¬ SpK B p hv w.heap.size := fun hk => by have := (h1.lw.sp.lt hk).2; omega
  have hXO := XO.new w 1 o1 o2 o3 o4 o5 o6
  have HMk : Hid (Calls Tryd.prog 12 #[.pointer (some ⟨p, 0, none⟩), .int .i64 o1, .int .i64 o2, .int .i64 o3] (w.alloc (.cells #[.int .i64 1, .int .i64 o1, .int .i64 o2, .int .i64 o3, .int .i64 o4, .int .i64 o5, .int .i64 o6] 35)) fun e w' => ∃ (a : Int) (b : Bool) (A' : Nat → Kd) (wd' : Nat → Int) (cnt' : Nat), e = .returned (.tuple #[.int .i64 a, .bool b]) ∧ MkS N A wd held cnt o1 o2 o3 (.tuple #[.int .i64 a, .bool b]) A' wd' cnt' ∧ Mid w0 w' B p pt pb base N A' wd' hv held cnt' wd L lv T tv al av held dv cnt ∧ XO w' w.heap.size 1 o1 o2 o3 o4 o5 o6) := hide (by
    have hm0 := h1.quiet ((Fr.refl (fun _ => False) w).alloc (.cells #[.int .i64 1, .int .i64 o1, .int .i64 o2, .int .i64 o3, .int .i64 o4, .int .i64 o5, .int .i64 o6] 35))
    refine (Make_any hm0.lw.sp (by omega) o1 o2 o3).mono ?_
    rintro e w' ⟨v, A', wd', cnt', hm, rfl, hs, hF⟩
    have hmid := hm0.space hs hF (fun g e => .inl e)
    have hx := hXO.fr hF hnb
    cases hm with
    | no hr => exact ⟨0, false, _, _, _, rfl, .no hr, hmid, hx⟩
    | at_ hr a A2 g => exact ⟨_, true, _, _, _, rfl, .at_ hr a _ g, hmid, hx⟩
    | gc hr hn rb A1 hg a A2 g => exact ⟨_, true, _, _, _, rfl, .gc hr hn rb A1 hg a _ g, hmid, hx⟩
    | full hr hn rb A1 hg g => exact ⟨0, false, _, _, _, rfl, .full hr hn rb _ hg g, hmid, hx⟩)
  have HTk : Hid (∀ W a b A' wd' cnt', MkS N A wd held cnt o1 o2 o3 (.tuple #[.int .i64 a, .bool b]) A' wd' cnt' → Mid w0 W B p pt pb base N A' wd' hv held cnt' wd L lv T tv al av held dv cnt → Calls Tryd.prog 21 #[.pointer (some ⟨pt, 0, none⟩), .int .i64 o1, .int .i64 o2, .int .i64 o3] W fun e w' => e = .returned (.tuple #[.int .i64 a, .bool b]) ∧ DuoP w0 w' B p pt pb base N (c + 1)) := hide fun W a b A' wd' cnt' hm hmid => by
    refine (tmake_any hmid.tw h2 h1.lw.sp.inv hmid.lw.sp.inv (by omega) (by omega) (by omega) (by omega) (by omega) (by omega) (by omega) hm).mono ?_
    rintro e w' ⟨rfl, L', lv', T', tv', al', av', k1, k2, k3, k4, k5, k6, k7, k8⟩
    have hcn : cnt' ≤ cnt + 1 := by cases hm <;> omega
    refine ⟨rfl, A', wd', hv, held, cnt', L', lv', T', tv', al', av', dv, hmid.twin k1 k3 k4, k2, by omega, by omega, by omega, by omega, by omega, fun x hx => ?_⟩
    rcases k8 x hx with e | e
    · exact h8 x e
    · exact e
  clear h1 h2 h3 h4 h5 h6 h7 h8 hXO hnb
  go_enter Tryd.func10, Tryd.ntmps10
  go_wp2_with (first | (go_at_call 21; refine (unhide HTk _ _ _ _ _ _ (unhide HS3) (unhide HM3)).mono ?_; rintro e w4 ⟨rfl, hD4⟩; have HD4 := hide hD4; clear hD4) | (go_at_call 12; refine (unhide HMk).mono ?_; rintro e w3 ⟨a3, b3, A3, wd3, cnt3, rfl, hS3, hM3, hX3⟩; obtain ⟨x0, x1, x2, x3, x4, x5, x6⟩ := hX3; have HS3 := hide hS3; have HM3 := hide hM3; clear hS3 hM3))
  all_goals go_ret
  all_goals exact ⟨ret_bool (by simp), unhide HD4⟩
set_option maxRecDepth 100000 in
set_option maxHeartbeats 4000000 in
theorem step_5 {w0 w : World} {B : HB} {p pt pb base N c : Nat} (h : DuoP w0 w B p pt pb base N c) (hN : N ≤ 16) (hc : c ≤ 100) (o1 o2 o3 o4 o5 o6 : Int) :
    Calls Tryd.prog 10 #[.pointer (some ⟨p, 0, none⟩), .pointer (some ⟨pt, 0, none⟩), .agg #[.int .i64 5, .int .i64 o1, .int .i64 o2, .int .i64 o3, .int .i64 o4, .int .i64 o5, .int .i64 o6]] w fun e w' => e = .returned (.bool true) ∧ DuoP w0 w' B p pt pb base N (c + 1) := by
  obtain ⟨A, wd, hv, held, cnt, L, lv, T, tv, al, av, dv, h1, h2, h3, h4, h5, h6, h7, h8⟩ := h
  have HC1 : Hid (∀ W, Fr (fun _ => False) w W → Calls Tryd.prog 17 #[.pointer (some ⟨p, 0, none⟩)] W fun e w' => ∃ (z : Nat) (rb : Nat → Bool) (A' : Nat → Kd), e = .returned (.int .i64 (z : Int)) ∧ z = notB rb (blkL A N) ∧ Gc N A wd held rb A' ∧ Mid w0 w' B p pt pb base N A' wd hv held (cnt + 1) wd L lv T tv al av held dv cnt) := hide fun W hW => by
    refine (SCollect_any (h1.quiet hW).lw.sp (by omega)).mono ?_
    rintro e w' ⟨rb, A', hg, rfl, hs, hF⟩
    exact ⟨_, rb, A', rfl, rfl, hg, (h1.quiet hW).space hs hF (fun g e => .inl e)⟩
  have HC2 : Hid (∀ W z rb A', z = notB rb (blkL A N) → Gc N A wd held rb A' → Mid w0 W B p pt pb base N A' wd hv held (cnt + 1) wd L lv T tv al av held dv cnt → Calls Tryd.prog 24 #[.pointer (some ⟨pt, 0, none⟩)] W fun e w' => e = .returned (.int .i64 (z : Int)) ∧ DuoP w0 w' B p pt pb base N (c + 1)) := hide fun W z rb A' hz hg hmid => by
    refine (tcollect_any hmid.tw h2 h1.lw.sp.inv (by omega) (by omega) (by omega) (by omega) (by omega)).mono ?_
    rintro e w' ⟨M, lv', tv', hM, rfl, hT, hF, hK⟩
    have hgc := h2.gc h1.lw.sp.inv hg hM
    refine ⟨by rw [hgc.2, hz], A', wd, hv, held, cnt + 1, _, lv', _, tv', al, av, dv, hmid.twin hT hF hK, hgc.1, ?_, ?_, by omega, by omega, by omega, h8⟩
    · exact Nat.le_trans (List.length_filter_le _ _) (by omega)
    · exact Nat.le_trans (keep_len T M) (by omega)
  clear h1 h2 h3 h4 h5 h6 h7 h8
  go_enter Tryd.func10, Tryd.ntmps10
  go_wp2_with (first | (go_at_call 24; refine (unhide HC2 _ _ _ _ (unhide HZ3) (unhide HG3) (unhide HM3)).mono ?_; rintro e w4 ⟨rfl, hD4⟩; have HD4 := hide hD4; clear hD4) | (go_at_call 17; refine (unhide HC1 _ ((Fr.refl _ _).alloc _)).mono ?_; rintro e w3 ⟨z3, rb3, A3, rfl, hZ3, hG3, hM3⟩; have HZ3 := hide hZ3; have HG3 := hide hG3; have HM3 := hide hM3; clear hZ3 hG3 hM3))
  all_goals go_ret
  all_goals exact ⟨ret_bool (by simp), unhide HD4⟩
set_option maxRecDepth 100000 in
set_option maxHeartbeats 4000000 in
theorem step_0 {w0 w : World} {B : HB} {p pt pb base N c : Nat} (h : DuoP w0 w B p pt pb base N c) (o0 o1 o2 o3 o4 o5 o6 : Int) (h1 : o0 ≠ 1) (h2 : o0 ≠ 2) (h3 : o0 ≠ 3) (h4 : o0 ≠ 4) (h5 : o0 ≠ 5) :
    Calls Tryd.prog 10 #[.pointer (some ⟨p, 0, none⟩), .pointer (some ⟨pt, 0, none⟩), .agg #[.int .i64 o0, .int .i64 o1, .int .i64 o2, .int .i64 o3, .int .i64 o4, .int .i64 o5, .int .i64 o6]] w fun e w' => e = .returned (.bool true) ∧ DuoP w0 w' B p pt pb base N (c + 1) := by
  have H := hide h.up
  have d1 : (o0 == 1) = false := by simpa using h1
  have d2 : (o0 == 2) = false := by simpa using h2
  have d3 : (o0 == 3) = false := by simpa using h3
  have d4 : (o0 == 4) = false := by simpa using h4
  have d5 : (o0 == 5) = false := by simpa using h5
  clear h h1 h2 h3 h4 h5
  go_enter Tryd.func10, Tryd.ntmps10
  go_wp2
  go_ret
  exact ⟨rfl, (unhide H).quiet ((Fr.refl _ _).alloc _)⟩
end Go.Proofs.YtjblmincldaklaaDoor
