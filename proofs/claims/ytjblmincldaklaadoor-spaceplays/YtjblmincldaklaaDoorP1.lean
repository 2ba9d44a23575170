/- SpacePlays, walked. -/
import Derived.Test.YtjblmincldaklaaDoorP0
namespace Go.Proofs.YtjblmincldaklaaDoor
open Go.RowKit Go.Proofs.YtjblmincldaklaaDoor.Hp
theorem OxA.far {w w' : World} {b i : Nat} {q : Ox} (h : OxA w b i q) (k : Fr (fun _ => False) w w') (hb : b < w.heap.size) : OxA w' b i q :=
  ⟨cell_far k hb h.1, cell_far k hb h.2.1, cell_far k hb h.2.2.1, cell_far k hb h.2.2.2.1, cell_far k hb h.2.2.2.2.1, cell_far k hb h.2.2.2.2.2.1, cell_far k hb h.2.2.2.2.2.2⟩
theorem DuoP.far {w0 w : World} {B : HB} {p pt pb base N c : Nat} (h : DuoP w0 w B p pt pb base N c) : Fr (fun _ => False) w0 w := by
  obtain ⟨A, wd, hv, held, cnt, L, lv, T, tv, al, av, dv, h1, _⟩ := h
  exact h1.lw.far
set_option maxRecDepth 100000 in
set_option maxHeartbeats 4000000 in
theorem plays_any (a : Int) (a1 : Option Addr) (len cap : Nat) (f : Nat → Ox) (w : World) (hV : Vars w) (ha : (Lit.int .i64 a).wf = true) (hm : len ≤ maxLen) (hR : ∀ j, OxR (f j))
    (hc : ∀ j, j < len → ∃ b off, a1 = some ⟨b, off, none⟩ ∧ b < w.heap.size ∧ OxA w b (off + j * 7) (f j)) :
    Calls Tryd.prog 3 #[.int .i64 a, .slice a1 len cap] w fun e w' => e = .returned (.bool true) ∧ Below w.heap.size w w' := by
  have HA := hide (anchor_any w hV)
  have hn := wf_rng ha
  have hsz := hV.size
  unfold maxLen at hm
  have HB : Hid (∀ W, Fr (fun _ => False) w W → Below w.heap.size w W) := hide fun W hF => hF.below (Nat.le_refl _) (fun _ x => x.elim)
  by_cases h0 : a < 128 ∨ 1048576 < a
  · have HN := hide (fun w => SNew_no a w h0)
    clear hV hc ha
    rcases h0 with h0 | h0
    · go_enter Tryd.func3, Tryd.ntmps3
      go_wp2_with (first | (go_at_call 8; refine (unhide HN _).mono ?_; rintro e w2 ⟨rfl, rfl⟩) | (go_at_call 7; refine (unhide HA).mono ?_; rintro e w1 ⟨rfl, hF1, hV1⟩; have HF1 := hide hF1; clear hF1 hV1))
      go_ret
      exact ⟨rfl, unhide HB _ (unhide HF1)⟩
    · have h00 : ¬ a < 128 := by omega
      go_enter Tryd.func3, Tryd.ntmps3
      go_wp2_with (first | (go_at_call 8; refine (unhide HN _).mono ?_; rintro e w2 ⟨rfl, rfl⟩) | (go_at_call 7; refine (unhide HA).mono ?_; rintro e w1 ⟨rfl, hF1, hV1⟩; have HF1 := hide hF1; clear hF1 hV1))
      go_ret
      exact ⟨rfl, unhide HB _ (unhide HF1)⟩
  · obtain ⟨x, rfl⟩ : ∃ x : Nat, a = x := ⟨a.toNat, by omega⟩
    have hx1 : 128 ≤ x := by omega
    have hx2 : x ≤ 1048576 := by omega
    by_cases hb : x ≤ 1024 ∧ len ≤ 100
    · obtain ⟨hx3, hl⟩ := hb
      have hC := hide hc
      clear hV hc ha hn hm h0
      go_enter Tryd.func3, Tryd.ntmps3
      go_wp2_with (first | (go_at_call 9; refine (NewR_any x w2 hx1 (by omega)).mono ?_; rintro e w3 ⟨rfl, hR3, hF3⟩; have HD3 := hide (Duo_start (unhide HL) hR3 hF3 hz1); clear hR3 hF3) | (go_at_call 8; refine (unhide HN).mono ?_; rintro e w2 ⟨B, p, rfl, hL⟩; have HL := hide hL; clear hL) | (go_at_call 7; refine (unhide HA).mono ?_; rintro e w1 ⟨rfl, hF1, hV1⟩; have HF1 := hide hF1; have hz1 : 2 ≤ w1.heap.size := hV1.size; have HN := hide (SNew_any x w1 (by omega) (by omega) hV1); clear hF1 hV1))
      have hN1 : 2 ≤ x / 64 := by omega
      have hN2 : x / 64 ≤ 16 := by omega
      obtain ⟨N, hN⟩ : ∃ N, N = x / 64 := ⟨_, rfl⟩
      rw [← hN] at HD3 hN1 hN2
      clear hN HL HN HA
      go_loopg [46] len (fun gh i wr => ∃ t : Nat, t ≤ len ∧ Hid (gh = len - t) ∧ i = .int .i64 t ∧ Hid (DuoP w1 wr B p w3.heap.size w2.heap.size (w3.heap.size + 1) N t))
      case atStart => exact ⟨0, by omega, hide (by omega), rfl, HD3⟩
      case round =>
        obtain ⟨t, ht, hgt, rfl, hD⟩ := hrel
        by_cases hlt : t < len
        · obtain ⟨b, off, rfl, hbw, hox⟩ := unhide hC t hlt
          have hO := hR t
          obtain ⟨o, ho⟩ : ∃ o, o = f t := ⟨_, rfl⟩
          rw [← ho] at hO hox
          clear ho
          have hox2 := hox.far ((unhide HF1).trans (unhide hD).far) hbw
          obtain ⟨c0, c1, c2, c3, c4, c5, c6⟩ := hox2
          have HS : Hid (Calls Tryd.prog 10 #[.pointer (some ⟨p, 0, none⟩), .pointer (some ⟨w3.heap.size, 0, none⟩), .agg #[.int .i64 o.o0, .int .i64 o.o1, .int .i64 o.o2, .int .i64 o.o3, .int .i64 o.o4, .int .i64 o.o5, .int .i64 o.o6]] (wr.alloc (.cells #[.int .i64 o.o0, .int .i64 o.o1, .int .i64 o.o2, .int .i64 o.o3, .int .i64 o.o4, .int .i64 o.o5, .int .i64 o.o6] 35)) fun e w' => e = .returned (.bool true) ∧ DuoP w1 w' B p w3.heap.size w2.heap.size (w3.heap.size + 1) N (t + 1)) := hide (step_all ((unhide hD).quiet ((Fr.refl _ _).alloc _)) hN1 hN2 (by omega) o hO)
          have HSm : Hid (∀ W, DuoP w1 W B p w3.heap.size w2.heap.size (w3.heap.size + 1) N (t + 1) → Calls Tryd.prog 11 #[.pointer (some ⟨p, 0, none⟩), .pointer (some ⟨w3.heap.size, 0, none⟩)] W fun e w' => e = .returned (.bool true) ∧ DuoP w1 w' B p w3.heap.size w2.heap.size (w3.heap.size + 1) N (t + 1)) := hide fun W hW => by
            refine (same_any hW hN1 hN2 (by omega)).mono ?_
            rintro e w' ⟨rfl, hF⟩
            exact ⟨rfl, hW.quiet hF⟩
          clear hox hO hD hC hR
          go_wp2_with (first | (go_at_call 11; refine (unhide HSm _ (unhide HD4)).mono ?_; rintro e w5 ⟨rfl, hD5⟩; have HD5 := hide hD5; clear hD5) | (go_at_call 10; refine (unhide HS).mono ?_; rintro e w4 ⟨rfl, hD4⟩; have HD4 := hide hD4; clear hD4))
          go_roundg (len - (t + 1))
          all_goals first
            | exact ⟨t + 1, by omega, hide rfl, by go_num, HD5⟩
            | (have := unhide hgt; omega)
        · obtain rfl : t = len := by omega
          have HE := hide (unhide HB _ ((unhide HF1).trans (unhide hD).far))
          clear hC
          go_wp2
          go_ret
          exact ⟨rfl, unhide HE⟩
    · clear hc ha hn h0 hR hV
      have hbb : 1024 < x ∨ 100 < len := by omega
      clear hb
      have HN := hide (fun w => SNew_big x w hx1 hx2)
      by_cases h10 : 1024 < x
      · clear hbb
        go_enter Tryd.func3, Tryd.ntmps3
        go_wp2_with (first | (go_at_call 8; refine (unhide HN _).mono ?_; rintro e w2 ⟨p, rfl, hF2⟩; have HF2 := hide ((unhide HF1).trans hF2); clear hF2) | (go_at_call 7; refine (unhide HA).mono ?_; rintro e w1 ⟨rfl, hF1, hV1⟩; have HF1 := hide hF1; clear hF1 hV1))
        all_goals go_ret
        all_goals exact ⟨rfl, unhide HB _ (unhide HF2)⟩
      · have hl1 : 100 < len := by omega
        clear hbb
        go_enter Tryd.func3, Tryd.ntmps3
        go_wp2_with (first | (go_at_call 8; refine (unhide HN _).mono ?_; rintro e w2 ⟨p, rfl, hF2⟩; have HF2 := hide ((unhide HF1).trans hF2); clear hF2) | (go_at_call 7; refine (unhide HA).mono ?_; rintro e w1 ⟨rfl, hF1, hV1⟩; have HF1 := hide hF1; clear hF1 hV1))
        all_goals go_ret
        all_goals exact ⟨rfl, unhide HB _ (unhide HF2)⟩
end Go.Proofs.YtjblmincldaklaaDoor
