/- The law's own make, of all it is asked. -/
import Derived.Test.YtjblmincldaklaaDoorT7
namespace Go.Proofs.YtjblmincldaklaaDoor
open Go.RowKit Go.Proofs.YtjblmincldaklaaDoor.Hp
variable {w w' : World} {pt pb base N : Nat} {A A' A1 : Nat → Kd} {wd : Nat → Int} {L : List Rb} {lv : Value} {T : List Tb} {tv : Value} {al : List Nat} {av : Value} {held : List Int} {dv : Value} {cnt : Nat}
set_option maxRecDepth 100000 in
set_option maxHeartbeats 4000000 in
theorem tmake_full {k s ms : Int} {rb : Nat → Bool} (h : Tw w pt pb base N wd L lv T tv al av held dv cnt) (hm : Tm A wd L T) (hI : Inv N A) (hN1 : 1 ≤ N) (hN : N ≤ 128) (hL : L.length ≤ 4000) (hT : T.length ≤ 1000) (hh : held.length ≤ 900) (hc : cnt < 100000) (hR : Right k s ms) (hnp : NoPlace N A (1 + s.toNat)) (hg : Gc N A wd held rb A1) (hn2 : NoPlace N A1 (1 + s.toNat)) :
    Calls Tryd.prog 21 #[.pointer (some ⟨pt, 0, none⟩), .int .i64 k, .int .i64 s, .int .i64 ms] w fun e w' => TMkP w pt pb base N L lv T tv al av held dv (.tuple #[.int .i64 0, .bool false]) A1 wd (cnt + 1) e w' := by
  have hI1 := hg.inv
  have hR' := hR
  unfold Right at hR'
  obtain ⟨r1, r2, r3, r4, r5, r6⟩ := hR'
  have HNo := hide (talloc_no h hm hI hN1 hN (by omega) ⟨r3, r4⟩ hnp)
  have HCo : Hid (∀ W, Fr (fun _ => False) w W → Calls Tryd.prog 24 #[.pointer (some ⟨pt, 0, none⟩)] W fun e w' => ∃ z L1 lv3 T1 tv3, e = .returned (.int .i64 z) ∧ Tw w' pt pb base N wd L1 lv3 T1 tv3 al av held dv (cnt + 1) ∧ Tm A1 wd L1 T1 ∧ Fr (TwK pt pb lv T tv av dv) w w' ∧ (∀ j, TwK pt pb lv3 T1 tv3 av dv j → TwK pt pb lv T tv av dv j ∨ w.heap.size ≤ j) ∧ L1.length ≤ L.length ∧ T1.length ≤ T.length) := hide fun W hW => by
    refine (tcollect_any (h.quiet hW) hm hI hT (by omega) hh (by omega) hc).mono ?_
    rintro e w' ⟨M, lv', tv', hM, rfl, hTw, hF, hK⟩
    have hgc := hm.gc hI hg hM
    refine ⟨_, _, lv', _, tv', rfl, hTw, hgc.1, (hW.mono fun _ x => x.elim).trans hF, fun j hj => ?_, List.length_filter_le _ _, keep_len T M⟩
    rcases hK j hj with e | e
    · exact .inl e
    · exact .inr (Nat.le_trans hW.size e)
  have c0 := h.c0
  clear h hm
  go_enter Tryd.func21, Tryd.ntmps21
  go_wp2_with (first | (go_at_call 38; refine (unhide HNo).mono ?_; rintro e w2 ⟨rfl, hF2⟩; have HQ := hide hF2; clear hF2))
  refine (unhide HCo _ (unhide HQ)).mono ?_
  rintro e w3 ⟨z3, L1, lv3, T1, tv3, rfl, hT3, hm3, hF3, hK3, hl3, ht3⟩
  have HN3 := hide (talloc_no hT3 hm3 hI1 hN1 hN (by omega) ⟨r3, r4⟩ hn2)
  have HFin : Hid (∀ W, Fr (fun _ => False) w3 W → TMkP w pt pb base N L lv T tv al av held dv (.tuple #[.int .i64 0, .bool false]) A1 wd (cnt + 1) (.returned (.tuple #[.int .i64 0, .bool false])) W) := hide fun W hW => ⟨rfl, L1, lv3, T1, tv3, al, av, hT3.quiet hW, hm3, hF3.trans (hW.mono fun _ x => x.elim), hK3, by omega, by omega, by omega, fun x hx => .inl hx⟩
  have c3 := hT3.c0
  clear hT3 hm3 hF3 hK3 HCo HNo HQ
  go_wp2_with (first | (go_at_call 38; refine (unhide HN3).mono ?_; rintro e w4 ⟨rfl, hF4⟩; have HQ4 := hide hF4; clear hF4))
  go_ret2
  exact unhide HFin _ (unhide HQ4)
set_option maxRecDepth 100000 in
set_option maxHeartbeats 4000000 in
theorem tmake_no {k s ms : Int} (h : Tw w pt pb base N wd L lv T tv al av held dv cnt) (hm : Tm A wd L T) (hR : ¬ Right k s ms) :
    Calls Tryd.prog 21 #[.pointer (some ⟨pt, 0, none⟩), .int .i64 k, .int .i64 s, .int .i64 ms] w fun e w' => TMkP w pt pb base N L lv T tv al av held dv (.tuple #[.int .i64 0, .bool false]) A wd cnt e w' := by
  have HFin : Hid (TMkP w pt pb base N L lv T tv al av held dv (.tuple #[.int .i64 0, .bool false]) A wd cnt (.returned (.tuple #[.int .i64 0, .bool false])) w) := hide ⟨rfl, L, lv, T, tv, al, av, h, hm, Fr.refl _ _, fun j hj => .inl hj, by omega, by omega, by omega, fun x hx => .inl hx⟩
  have hR' : ¬ (1 ≤ k ∧ k ≤ 4 ∧ 0 ≤ s ∧ s ≤ 16447 ∧ 0 ≤ ms ∧ ms ≤ 65535) := hR
  have hc6 : k < 1 ∨ (1 ≤ k ∧ 4 < k) ∨ (1 ≤ k ∧ k ≤ 4 ∧ s < 0) ∨ (1 ≤ k ∧ k ≤ 4 ∧ 0 ≤ s ∧ 16447 < s) ∨ (1 ≤ k ∧ k ≤ 4 ∧ 0 ≤ s ∧ s ≤ 16447 ∧ ms < 0) ∨ (1 ≤ k ∧ k ≤ 4 ∧ 0 ≤ s ∧ s ≤ 16447 ∧ 0 ≤ ms ∧ 65535 < ms) := by omega
  clear h hm hR hR'
  rcases hc6 with s1 | ⟨s1, s2⟩ | ⟨s1, s2, s3⟩ | ⟨s1, s2, s3, s4⟩ | ⟨s1, s2, s3, s4, s5⟩ | ⟨s1, s2, s3, s4, s5, s6⟩
  all_goals go_enter Tryd.func21, Tryd.ntmps21
  all_goals go_wp2
  all_goals go_ret2
  all_goals exact unhide HFin
theorem tmake_any {k s ms : Int} {v : Value} {wd' : Nat → Int} {cnt' : Nat} (h : Tw w pt pb base N wd L lv T tv al av held dv cnt) (hm : Tm A wd L T) (hI : Inv N A) (hI' : Inv N A') (hN1 : 1 ≤ N) (hN : N ≤ 128) (hL : L.length ≤ 4000) (hT : T.length ≤ 1000) (ha1 : al.length ≤ 1000) (hh : held.length ≤ 900) (hc : cnt < 100000) (hK : MkS N A wd held cnt k s ms v A' wd' cnt') :
    Calls Tryd.prog 21 #[.pointer (some ⟨pt, 0, none⟩), .int .i64 k, .int .i64 s, .int .i64 ms] w fun e w' => TMkP w pt pb base N L lv T tv al av held dv v A' wd' cnt' e w' := by
  cases hK with
  | no hr => exact tmake_no h hm hr
  | at_ hr a A2 g => exact tmake_at h hm hI hI' hN1 hN hL hT ha1 hr g
  | gc hr hn rb A1 hg a A2 g => exact tmake_gc h hm hI hI' hN1 hN hL hT ha1 hh hc hr hn hg g
  | full hr hn rb A1 hg g => exact tmake_full h hm hI hN1 hN hL hT hh hc hr hn hg g
end Go.Proofs.YtjblmincldaklaaDoor
