/- SchedFair, walked. -/
import Derived.Test.YtidacjkpioenhaaF1
import Derived.Deep.LoopGhost
namespace Go.Proofs.Ytidacjkpioenhaa
open Go.RowKit
set_option maxHeartbeats 1000000 in
theorem fair_out (w : World) (ao : Option Addr) (cp : Nat) (zs : List Int) (bo : Option Addr) (cq : Nat) (ys : List Int) (turns : Int) (hm : zs.length ≤ maxLen) (hm2 : ys.length ≤ maxLen) (h : 500 < zs.length ∨ 200 < ys.length ∨ turns < 0 ∨ 300 < turns) :
    Calls Try.prog 4 #[.slice ao zs.length cp, .slice bo ys.length cq, .int .i64 turns] w fun e w' => e = .returned (.bool true) ∧ Below w.heap.size w w' := by
  unfold maxLen at hm hm2
  have HA := hide (anchor_any w)
  go_enter Try.func4, Try.ntmps4
  go_wp2_with fail
  refine (unhide HA).mono ?_
  rintro e w1 ⟨rfl, hF⟩
  have HB := hide hF.lowD
  clear hF
  have hb : (((decide (500 < zs.length) || decide (200 < ys.length)) || decide (turns < 0)) || decide (300 < turns)) = true := by
    rcases h with h | h | h | h <;> simp [h]
  go_wp2
  all_goals first | (go_ret; exact ⟨rfl, unhide HB⟩) | (exfalso; omega)
theorem getD_lt (X : List Int) (j : Nat) (h : j < X.length) : X.getD j 0 = X[j] := by simp [List.getD, h]
/-- A row that was made since the world w0. -/
def Nw (w0 w : World) (v : Value) (zs : List Int) : Prop := ∃ ib, Own w v ib zs ∧ (∀ g, ib = some g → w0.heap.size ≤ g) ∧ Fr (fun _ => False) w0 w
theorem Nw.empty (w : World) : Nw w (w.alloc (.cells #[] 3)) (.slice (some ⟨w.heap.size, 0, none⟩) 0 0) [] := ⟨_, own_empty w, fun g e => by cases e; exact Nat.le_refl _, (Fr.refl _ w).alloc _⟩
theorem Nw.quiet {w0 w w' : World} {v : Value} {zs : List Int} (h : Nw w0 w v zs) (k : Fr (fun _ => False) w w') : Nw w0 w' v zs := by
  obtain ⟨ib, ho, hg, hF⟩ := h
  exact ⟨ib, ho.fr k fun _ _ => id, hg, hF.trans k⟩
theorem Nw.drew {w0 w : World} {v : Value} {zs : List Int} (h : Nw w0 w v zs) : Nw w0 w.drew v zs := h.quiet ((Fr.refl _ w).drew)
section
variable {w0 w : World} {ops : Array Oper} {rest : List Oper} {o : Oper} {a : Act} {Q : Exit → Act → World → Prop}
theorem wpList_nw (hg : o.guard = none) (s x : Operand) (ho : o.op = .call { callee := .builtin .append, args := #[s, x], argTypes := #[22, 22] })
    (v : Value) (zs : List Int) (hs : a.eval s = v) (hown : Nw w0 w v zs) (ao : Option Addr) (n c : Nat) (ys : List Int) (hx : a.eval x = .slice ao n c) (hn : n = ys.length) (hy : IntsAt w ao ys) (hlen : zs.length + ys.length ≤ 1000000)
    (hK : ∀ ao' c' w', Nw w0 w' (.slice ao' (zs.length + ys.length) c') (zs ++ ys) → wpList Try.prog ops Q rest (a.put o.dst (.slice ao' (zs.length + ys.length) c')) w') : wpList Try.prog ops Q (o :: rest) a w := by
  obtain ⟨ib, h1, h2, h3⟩ := hown
  exact wpList_app hg s x ho v ib zs hs h1 ao n c ys hx hn hy hlen fun ao' c' ib' w' ho' hg' => hK ao' c' w' ⟨ib', ho', fun g e => by
    rcases hg'.at_ with e' | e'
    · exact h2 g (by rw [← e', e])
    · rw [e'] at e; cases e; exact h3.size, h3.up hg'.fr fun b e => h2 b e⟩
theorem step_nw {K : Act → World → Prop} {E : Prop} (hg : o.guard = none) (s x : Operand) (ho : o.op = .call { callee := .builtin .append, args := #[s, x], argTypes := #[22, 22] })
    (v : Value) (zs : List Int) (hs : a.eval s = v) (hown : Nw w0 w v zs) (ao : Option Addr) (n c : Nat) (ys : List Int) (hx : a.eval x = .slice ao n c) (hn : n = ys.length) (hy : IntsAt w ao ys) (hlen : zs.length + ys.length ≤ 1000000)
    (hK : ∀ ao' c' w', Nw w0 w' (.slice ao' (zs.length + ys.length) c') (zs ++ ys) → K (a.put o.dst (.slice ao' (zs.length + ys.length) c')) w') : if Region.wanted o (yielded ops a.tmps) = true then Oper.wp Try.prog o a w K Q else E := by
  obtain ⟨ib, h1, h2, h3⟩ := hown
  exact step_app hg s x ho v ib zs hs h1 ao n c ys hx hn hy hlen fun ao' c' ib' w' ho' hg' => hK ao' c' w' ⟨ib', ho', fun g e => by
    rcases hg'.at_ with e' | e'
    · exact h2 g (by rw [← e', e])
    · rw [e'] at e; cases e; exact h3.size, h3.up hg'.fr fun b e => h2 b e⟩
end
theorem one_nw {w0 w : World} {v : Value} {zs : List Int} (h : Nw w0 w v zs) (x : Int) : Nw w0 (w.alloc (.cells #[.int .i64 x] 3)) v zs ∧ IntsAt (w.alloc (.cells #[.int .i64 x] 3)) (some ⟨w.heap.size, 0, none⟩) [x] := by
  obtain ⟨F, hy⟩ := one_at w x _ rfl
  exact ⟨h.quiet F, hy⟩
set_option maxRecDepth 100000 in
set_option maxHeartbeats 4000000 in
theorem fair_in (w : World) (ao : Option Addr) (cp : Nat) (zs : List Int) (bo : Option Addr) (cq : Nat) (ys : List Int) (M : Nat) (hl : zs.length ≤ 500) (hl2 : ys.length ≤ 200) (hM : M ≤ 300) (hr : ∀ z ∈ zs, rng z) (hz : IntsAt w ao zs) (hy : IntsAt w bo ys) :
    Calls Try.prog 4 #[.slice ao zs.length cp, .slice bo ys.length cq, .int .i64 (M : Nat)] w fun e w' => e = .returned (.bool true) ∧ Below w.heap.size w w' := by
  have HA := hide (anchor_any w)
  have HNw : Hid (∀ w1, Fr (fun _ => False) w w1 → Calls Try.prog 8 #[.slice ao zs.length cp] w1 fun e w2 => ∃ p, e = .returned (.pointer (some ⟨p, 0, none⟩)) ∧ Calls Try.prog 8 #[.slice none 0 0] w2 fun e w3 => ∃ q, e = .returned (.pointer (some ⟨q, 0, none⟩)) ∧ Two w w3 p q zs [] [] []) := hide fun w1 hF => (New_q w1 ao cp zs (hz.quiet hF) (by omega) hr).mono fun e w2 ⟨B, he, hq, hb, hF2⟩ => ⟨B.p, he, (New_q w2 none 0 [] (IntsAt.nil _ _) (by simp) (by simp)).mono fun e w3 ⟨C, he3, hq3, hc, hF3⟩ => ⟨C.p, he3, Two.new (hF.trans hF2) hq (fun k hk => by have := hb k hk; have := hF.size; omega) hq3 hc hF3⟩⟩
  have HY := hide hy
  obtain ⟨n, hn⟩ : ∃ n, n = ys.length := ⟨_, rfl⟩
  have HIl : Hid (n = ys.length) := hide hn
  rw [← hn] at hl2 ⊢
  obtain ⟨nz, hnz⟩ : ∃ n, n = zs.length := ⟨_, rfl⟩
  rw [← hnz] at hl HNw ⊢
  clear hn hz hr hy hnz
  go_enter Try.func4, Try.ntmps4
  go_wp2_with fail
  refine (unhide HA).mono ?_
  rintro e w1 ⟨rfl, hF⟩
  have HW1 := hide (unhide HNw w1 hF)
  clear hF HA HNw
  go_wp2_with fail
  refine (unhide HW1).mono ?_
  rintro e w2 ⟨p, rfl, hC2⟩
  have HC2 := hide hC2
  clear hC2 HW1
  go_wp2_with fail
  refine (unhide HC2).mono ?_
  rintro e w3 ⟨q, rfl, hD⟩
  have HD3 := hide hD
  clear hD HC2
  go_wp2
  go_loopw [52] (fun i wr => ∃ k : Nat, k ≤ n ∧ i = .int .i64 k ∧ Hid (Two w wr p q zs (ys.take k) [] (ys.take k))) (fun i _ => n - (intOf i).toNat)
  case atStart => exact ⟨0, by omega, rfl, HD3⟩
  case round =>
    clear HD3
    obtain ⟨k, hk, rfl, hD⟩ := hrel
    by_cases hlt : k < n
    · have hkz : k < ys.length := by have := unhide HIl; omega
      obtain ⟨b, off, hab, hb1, cz⟩ := (unhide HY).quiet (unhide hD).far k hkz
      subst hab
      obtain ⟨z, hz⟩ : ∃ z, z = ys.getD k 0 := ⟨_, rfl⟩
      rw [← hz] at cz
      have HT : Hid (ys.take k ++ [z] = ys.take (k + 1)) := hide (by rw [List.take_succ_eq_append_getElem hkz, hz]; simp [List.getD, hkz])
      have hlk : (ys.take k).length < 1000 := by rw [List.length_take]; omega
      have HPu : Hid (Calls Try.prog 10 #[.pointer (some ⟨p, 0, none⟩), .int .i64 z] wr fun e w4 => e = .returned (.tuple #[]) ∧ Calls Try.prog 10 #[.pointer (some ⟨q, 0, none⟩), .int .i64 z] w4 fun e w5 => e = .returned (.tuple #[]) ∧ Two w w5 p q zs (ys.take (k + 1)) [] (ys.take (k + 1))) := hide (((unhide hD).push z (by omega)).mono fun e w4 ⟨he, h4⟩ => ⟨he, (h4.swap.push z (by omega)).mono fun e w5 ⟨he5, h5⟩ => ⟨he5, by rw [← unhide HT]; exact h5.swap⟩⟩)
      clear hz hkz hD HT hlk
      go_wp2_with (first | (go_at_call 10; refine (unhide HPu2).mono ?_; rintro e w5 ⟨rfl, hD5⟩; have HD5 := hide hD5; clear hD5) | (go_at_call 10; refine (unhide HPu).mono ?_; rintro e w4 ⟨rfl, hC4⟩; have HPu2 := hide hC4; clear hC4 HPu))
      go_roundw
      case rel => exact ⟨k + 1, by omega, by go_num, HD5⟩
      case measure => simp [intOf]; omega
    · have HD2 : Hid (Two w wr p q zs ys [] ys) := hide (by have := unhide hD; rwa [List.take_of_length_le (by have := unhide HIl; omega)] at this)
      have hke : k = n := by omega
      clear hD
      subst hke
      go_wp2
      go_loopw [11, 12] (fun v i wr => ∃ j : Nat, j ≤ M ∧ i = .int .i64 j ∧ ∃ now, v = .int .i64 now ∧ ∃ S I, Hid (Two w wr p q S I [] ys) ∧ Hid (I.length = k) ∧ Hid ((I ++ [now]).Perm (ys ++ [-5]))) (fun _ i _ => M - (intOf i).toNat)
      case atStart => exact ⟨0, by omega, rfl, -5, rfl, zs, ys, HD2, hide (unhide HIl).symm, hide (List.Perm.refl _)⟩
      case round =>
        clear HD2
        obtain ⟨j, hj, rfl, now, rfl, S, I, hD, hI, hP⟩ := hrel
        by_cases hjt : j < M
        · have HC : Hid (Calls Try.prog 11 #[.pointer (some ⟨p, 0, none⟩), .int .i64 now] wr fun e w4 => e = .returned (.int .i64 (yldV S I now)) ∧ (Calls Try.prog 12 #[.pointer (some ⟨p, 0, none⟩)] w4 fun e w' => e = .returned (.int .i64 (k : Nat)) ∧ w4 = w') ∧ Calls Try.prog 11 #[.pointer (some ⟨q, 0, none⟩), .int .i64 (yldV S I now)] w4 fun e w5 => e = .returned (.int .i64 (yldV S I now)) ∧ Two w w5 p q S.tail (yldI S I now) [] ys) := hide (((unhide hD).yield now (by have := unhide hI; omega)).mono fun e w4 ⟨he, h4⟩ => by
            refine ⟨he, ?_, ?_⟩
            · have := h4.len
              rw [yld_same, unhide hI] at this
              exact this
            · refine (h4.swap.yield (yldV S I now) (by have := unhide HIl; omega)).mono fun e w5 ⟨he5, h5⟩ => ?_
              obtain ⟨e1, e2⟩ := yld_none ys (yldV S I now)
              rw [e2] at h5
              exact ⟨by rw [he5, e1], h5.swap⟩)
          have HP2 : Hid ((yldI S I now ++ [yldV S I now]).Perm (ys ++ [-5])) := hide ((yld_perm S I now).trans (unhide hP))
          have HI2 : Hid ((yldI S I now).length = k) := hide (by rw [yld_same]; exact unhide hI)
          clear hD hP hI
          generalize yldV S I now = v at *
          generalize yldI S I now = X at *
          go_wp2_with (first | (go_at_call 12; refine (unhide HC3).1.mono ?_; rintro e w5 ⟨rfl, rfl⟩) | (go_at_call 11; refine (unhide HC3).2.mono ?_; rintro e w6 ⟨rfl, hD6⟩; have HD6 := hide hD6; clear hD6) | (go_at_call 11; refine (unhide HC).mono ?_; rintro e w4 ⟨rfl, hC4⟩; have HC3 := hide hC4; clear hC4 HC))
          go_roundw
          case rel => exact ⟨j + 1, by omega, by go_num, v, rfl, S.tail, X, HD6, HI2, HP2⟩
          case measure => simp [intOf]; omega
        · obtain ⟨wm, rfl⟩ : ∃ wm, wm = wr := ⟨_, rfl⟩
          obtain ⟨w4, hw4⟩ : ∃ w4, w4 = wm.alloc (.cells #[] 3) := ⟨_, rfl⟩
          have HLs : Hid (Calls Try.prog 13 #[.pointer (some ⟨p, 0, none⟩)] w4 fun e w5 => ∃ ao5 cp5, e = .returned (.slice ao5 k cp5) ∧ IntsAt w5 ao5 I ∧ Nw wm w5 (.slice (some ⟨wm.heap.size, 0, none⟩) 0 0) []) := hide ((((unhide hD).quiet (by rw [hw4]; exact (Fr.refl _ wm).alloc _)).list (by have := unhide hI; omega)).mono fun e w5 ⟨ao5, cp5, ib5, he, ho, _, hF⟩ => ⟨ao5, cp5, by rw [he, unhide hI], ho.ints, by
            refine Nw.quiet ?_ hF
            rw [hw4]
            exact Nw.empty wm⟩)
          have HRn : Hid (∀ w8, Fr (fun _ => False) wm w8 → Run w w8 q [] ys ∧ IntsAt w8 bo ys) := hide fun w8 hF => ⟨((unhide hD).quiet hF).right, (unhide HY).quiet ((unhide hD).far.trans hF)⟩
          clear hD
          go_wp2_with fail
          rw [← hw4]
          refine (unhide HLs).mono ?_
          rintro e w5 ⟨ao5, cp5, rfl, hy5, hn5⟩
          have HX5 := hide (And.intro hn5 hy5)
          clear hn5 hy5 HLs hw4
          go_wp2_with (first | (at_builtin; refine wpList_nw rfl _ _ rfl (.slice ao10 k c10) ys rfl (one_nw (unhide HX10) (-5)).1 (some ⟨w10.heap.size, 0, none⟩) 1 1 [-5] rfl rfl (one_nw (unhide HX10) (-5)).2 (by have := unhide HIl; simp; omega) ?_; intro ao12 c12 w12 hn12; have HX12 := hide hn12; rw [← unhide HIl] at HX12 ⊢; clear hn12) | (at_builtin; refine wpList_nw rfl _ _ rfl (.slice (some ⟨w8.heap.size, 0, none⟩) 0 0) [] rfl (Nw.empty w8) bo k cq ys rfl (unhide HIl) ((unhide HRn _ ((unhide HX8).choose_spec.2.2.alloc _)).2) (by have := unhide HIl; simp; omega) ?_; intro ao10 c10 w10 hn10; rw [List.length_nil, Nat.zero_add, List.nil_append, ← unhide HIl] at hn10; rw [List.length_nil, Nat.zero_add, ← unhide HIl]; have HX10 := hide hn10; clear hn10) | (at_builtin; refine wpList_nw rfl _ _ rfl (.slice ao6 k c6) I rfl (one_nw (unhide HX6) now).1 (some ⟨w6.heap.size, 0, none⟩) 1 1 [now] rfl rfl (one_nw (unhide HX6) now).2 (by have := unhide hI; simp; omega) ?_; intro ao8 c8 w8 hn8; rw [unhide hI] at hn8; rw [unhide hI]; have HX8 := hide hn8; clear hn8) | (at_builtin; refine wpList_nw rfl _ _ rfl (.slice (some ⟨wm.heap.size, 0, none⟩) 0 0) [] rfl (unhide HX5).1 ao5 k cp5 I rfl (unhide hI).symm (unhide HX5).2 (by have := unhide hI; simp; omega) ?_; intro ao6 c6 w6 hn6; rw [List.length_nil, Nat.zero_add, List.nil_append, unhide hI] at hn6; rw [List.length_nil, Nat.zero_add, unhide hI]; have HX6 := hide hn6; clear hn6))
          have HX13 : Hid ((∃ ib, Own w12 (.slice ao8 (k + 1) c8) ib (I ++ [now])) ∧ IntsAt w12 ao12 (ys ++ [-5]) ∧ Run w w12 q [] ys) := hide (by
            obtain ⟨ib8, ho8, _, hF8⟩ := unhide HX8
            obtain ⟨ib12, ho12, _, hF12⟩ := unhide HX12
            exact ⟨⟨ib8, ho8.fr hF12 fun _ _ => id⟩, ho12.ints, (unhide HRn w12 (hF8.trans hF12)).1⟩)
          have HL13 : Hid ((I ++ [now]).length = k + 1) := hide (by rw [List.length_append, unhide hI]; rfl)
          have HLy : Hid ((ys ++ [-5]).length = k + 1) := hide (by rw [List.length_append, ← unhide HIl]; rfl)
          clear HX5 HX6 HX8 HX10 HX12 HRn hI
          go_loopw [13, 96] (fun v i wr => ∃ t : Nat, t ≤ k + 1 ∧ i = .int .i64 t ∧ ∃ aoX m cX X, v = .slice aoX m cX ∧ m + t = k + 1 ∧ Hid (X.length = m) ∧ Hid (X.Perm ((ys ++ [-5]).drop t)) ∧ Hid ((∃ ib, Own wr (.slice aoX m cX) ib X) ∧ IntsAt wr ao12 (ys ++ [-5]) ∧ Run w wr q [] ys)) (fun _ i _ => k + 1 - (intOf i).toNat)
          case atStart => exact ⟨0, by omega, rfl, ao8, k + 1, c8, I ++ [now], rfl, by omega, HL13, hP, HX13⟩
          case round =>
            clear HX13 HL13 hP
            obtain ⟨t, ht, rfl, aoX, m, cX, X, rfl, hmt, hXl, hXp, hX⟩ := hrel
            obtain ⟨wn, rfl⟩ : ∃ wn, wn = wr := ⟨_, rfl⟩
            by_cases htl : t < k + 1
            · have hty : t < (ys ++ [-5]).length := by rw [unhide HLy]; exact htl
              obtain ⟨b, off, hab, hb1, cz⟩ := (unhide hX).2.1 t hty
              obtain ⟨d, hd⟩ : ∃ d, d = (ys ++ [-5]).getD t 0 := ⟨_, rfl⟩
              have HAb : Hid (ao12 = some ⟨b, off, none⟩) := hide hab
              rw [← hd] at cz
              have HXp2 : Hid (X.Perm (d :: (ys ++ [-5]).drop (t + 1))) := hide (by
                have := unhide hXp
                rw [List.drop_eq_getElem_cons hty] at this
                have e : d = (ys ++ [-5])[t] := by rw [hd]; exact getD_lt _ _ hty
                rw [e]; exact this)
              clear hty hd hXp
              have hti : (t : Int) < (k : Int) + 1 := by omega
              subst hab
              go_wp2
              go_loopw [16, 102] (fun v i wr => ∃ u : Nat, u ≤ m ∧ i = .int .i64 u ∧ ∃ a : Int, v = .int .i64 a ∧ wn = wr ∧ Hid ((a = -1 ∧ d ∉ X.take u) ∨ ∃ jj : Nat, a = (jj : Int) ∧ jj < u ∧ X.getD jj 0 = d)) (fun _ i _ => m - (intOf i).toNat)
              case atStart => exact ⟨0, by omega, rfl, -1, rfl, rfl, hide (.inl ⟨rfl, by simp⟩)⟩
              case round =>
                obtain ⟨u, hu, rfl, a, rfl, rfl, hA⟩ := hrel
                by_cases hum : u < m
                · have hux : u < X.length := by rw [unhide hXl]; exact hum
                  obtain ⟨ib, hO⟩ := (unhide hX).1
                  obtain ⟨b2, off2, hab2, hb2, cz2⟩ := hO.ints u hux
                  subst hab2
                  obtain ⟨y, hy⟩ : ∃ y, y = X.getD u 0 := ⟨_, rfl⟩
                  rw [← hy] at cz2
                  by_cases hyd : y = d
                  · have HA2 : Hid (((u : Int) = -1 ∧ d ∉ X.take (u + 1)) ∨ ∃ jj : Nat, (u : Int) = (jj : Int) ∧ jj < u + 1 ∧ X.getD jj 0 = d) := hide (.inr ⟨u, rfl, by omega, by rw [← hy, hyd]⟩)
                    subst hyd
                    clear hA hy hux hO
                    go_wp2
                    go_roundw
                    case rel => exact ⟨u + 1, by omega, by go_num, (u : Int), rfl, trivial, HA2⟩
                    case measure => simp [intOf]; omega
                  · have HA2 : Hid ((a = -1 ∧ d ∉ X.take (u + 1)) ∨ ∃ jj : Nat, a = (jj : Int) ∧ jj < u + 1 ∧ X.getD jj 0 = d) := hide (by
                      rcases unhide hA with ⟨h1, h2⟩ | ⟨jj, h1, h2, h3⟩
                      · refine .inl ⟨h1, ?_⟩
                        rw [List.take_succ_eq_append_getElem hux, List.mem_append]
                        rintro (h | h)
                        · exact h2 h
                        · simp at h
                          apply hyd
                          rw [hy, h]
                          simp [List.getD, hux]
                      · exact .inr ⟨jj, h1, by omega, h3⟩)
                    have hbq : (y == d) = false := by simpa using hyd
                    clear hA hy hux hO hyd
                    go_wp2
                    go_roundw
                    case rel => exact ⟨u + 1, by omega, by go_num, a, rfl, trivial, HA2⟩
                    case measure => simp [intOf]; omega
                · have hue : u = m := by omega
                  obtain ⟨jj, haj, hjm, HJ⟩ : ∃ jj : Nat, a = (jj : Int) ∧ jj < m ∧ Hid (X.getD jj 0 = d) := by
                    rcases unhide hA with ⟨h1, h2⟩ | ⟨jj, h1, h2, h3⟩
                    · exfalso
                      rw [hue, ← unhide hXl, List.take_length] at h2
                      exact h2 ((unhide HXp2).mem_iff.2 (by simp))
                    · exact ⟨jj, h1, by omega, hide h3⟩
                  subst hue haj
                  clear hA
                  obtain ⟨ib, hO⟩ := (unhide hX).1
                  have hjx : jj < X.length := by rw [unhide hXl]; exact hjm
                  obtain ⟨g, o2, cap, hva, hib, hgl, hcap, hcc⟩ : ∃ g o2 cap, (Value.slice aoX u cX) = .slice (some ⟨g, o2, none⟩) u cap ∧ ib = some g ∧ g < wn.heap.size ∧ u ≤ cap ∧ ∀ i, i < u → wn.cell? ⟨g, o2 + i, none⟩ = some (.int .i64 (X.getD i 0)) := by
                    rcases hO with ⟨_, e, _⟩ | ⟨g, o2, cap, hv, e, hl, hle, hs, hc⟩
                    · rw [e] at hjx; simp at hjx
                    · rw [unhide hXl] at hv hle hc
                      exact ⟨g, o2, cap, hv, e, hl, hle, hc⟩
                  cases hva
                  have HT : Hid (IntsAt wn (some ⟨g, o2, none⟩) (X.take jj)) := hide fun i hi => by
                    have hi' : i < jj := by simp at hi; omega
                    refine ⟨g, o2, rfl, hgl, ?_⟩
                    rw [hcc i (by omega)]
                    simp [List.getD, hi']
                  have HDr : Hid (IntsAt wn (if cX = jj + 1 then some ⟨g, o2, none⟩ else some ⟨g, o2 + (jj + 1), none⟩) (X.drop (jj + 1))) := hide fun i hi => by
                    rw [List.length_drop, unhide hXl] at hi
                    rw [if_neg (by omega)]
                    refine ⟨g, o2 + (jj + 1), rfl, hgl, ?_⟩
                    rw [show o2 + (jj + 1) + i = o2 + (jj + 1 + i) by omega, hcc (jj + 1 + i) (by omega)]
                    simp [List.getD]
                  have HTl : Hid (jj = (X.take jj).length) := hide (by rw [List.length_take]; omega)
                  have HDl : Hid (u - (jj + 1) = (X.drop (jj + 1)).length) := hide (by rw [List.length_drop, unhide hXl])
                  have HXe : Hid (X.take jj ++ X.drop (jj + 1) = X.eraseIdx jj) := hide (List.eraseIdx_eq_take_drop_succ X jj).symm
                  have HPm : Hid ((X.eraseIdx jj).Perm ((ys ++ [-5]).drop (t + 1))) := hide (perm_out (unhide HXp2) hjx (unhide HJ))
                  have HEl : Hid ((X.eraseIdx jj).length = u - 1) := hide (by rw [List.length_eraseIdx_of_lt hjx, unhide hXl])
                  have HNx : Hid (∀ ao7 c7 w7 m7, Nw wn w7 (.slice ao7 m7 c7) (X.eraseIdx jj) → (∃ ib, Own w7 (.slice ao7 m7 c7) ib (X.eraseIdx jj)) ∧ IntsAt w7 (some ⟨b, off, none⟩) (ys ++ [-5]) ∧ Run w w7 q [] ys) := hide fun ao7 c7 w7 m7 ⟨ib7, ho7, _, hF7⟩ => ⟨⟨ib7, ho7⟩, (unhide hX).2.1.quiet hF7, by
                    obtain ⟨B, hp, hq, hb, hf⟩ := (unhide hX).2.2
                    exact ⟨B, hp, hq.quiet hF7, hb, hf.trans hF7⟩⟩
                  clear hO hcc hX hXl hib hgl HXp2 HJ hjx
                  have hj1 : (jj : Int) < (u : Int) := by omega
                  have hj2 : (jj : Int) ≤ (cX : Int) := by omega
                  have hw1 : IntKind.i64.wrap ((jj : Int) + 1) = (jj : Int) + 1 := by rw [Go.IntKind.wrap_i64]; omega
                  have hw2 : ((jj : Int) + 1).toNat = jj + 1 := by omega
                  have hw3 : (jj : Int) + 1 ≤ (u : Int) := by omega
                  have hw4 : 0 ≤ (jj : Int) + 1 := by omega
                  have hcq : jj + 1 ≤ cX := by omega
                  have HW0 : Hid (∀ W, W = (wn.alloc (.cells #[] 3)).drew → Nw wn W (.slice (some ⟨wn.heap.size, 0, none⟩) 0 0) [] ∧ IntsAt W (some ⟨g, o2, none⟩) (X.take jj)) := hide fun W hW => by
                    subst hW
                    exact ⟨(Nw.empty wn).drew, (unhide HT).quiet (((Fr.refl _ wn).alloc _).drew)⟩
                  by_cases hce : cX = jj + 1
                  · have HDr2 : Hid (IntsAt wn (some ⟨g, o2, none⟩) (X.drop (jj + 1))) := hide (by have := unhide HDr; rwa [if_pos hce] at this)
                    have hue2 : u = jj + 1 := by omega
                    have HDl2 : Hid (0 = (X.drop (jj + 1)).length) := hide (by have := unhide HDl; omega)
                    have HEl2 : Hid ((X.eraseIdx jj).length = jj) := hide (by have := unhide HEl; omega)
                    clear HDl HEl
                    have HDl := HDl2
                    have hmt2 : jj + (t + 1) = k + 1 := by omega
                    subst hce hue2
                    clear HDr HT HDl2
                    have hj5 : (jj : Int) ≤ (jj : Int) + 1 := by omega
                    go_wp2
                    go_region_law (first | (refine step_nw rfl (.tmp 118) (.tmp 122) rfl (.slice ao6 jj c6) (X.take jj) rfl (unhide HX6) (some ⟨g, o2, none⟩) 0 0 (X.drop (jj + 1)) rfl (unhide HDl) ((unhide HDr2).quiet (unhide HX6).choose_spec.2.2) (by have := unhide HDl; have := unhide HTl; omega) ?_; intro ao7 c7 w7 hn7; rw [unhide HXe, ← unhide HTl, ← unhide HDl] at hn7; rw [← unhide HTl, ← unhide HDl]; have HX7 := hide hn7; clear hn7) | (refine step_nw rfl (.tmp 114) (.tmp 117) rfl (.slice (some ⟨wn.heap.size, 0, none⟩) 0 0) [] rfl (unhide HW0 _ rfl).1 (some ⟨g, o2, none⟩) jj (jj + 1) (X.take jj) rfl (unhide HTl) (unhide HW0 _ rfl).2 (by have := unhide HTl; simp; omega) ?_; intro ao6 c6 w6 hn6; rw [List.length_nil, Nat.zero_add, List.nil_append, ← unhide HTl] at hn6; rw [List.length_nil, Nat.zero_add, ← unhide HTl]; have HX6 := hide hn6; clear hn6))
                    go_wp2
                    go_roundw
                    case rel => exact ⟨t + 1, by omega, by go_num, ao7, jj + 0, c7, X.eraseIdx jj, rfl, by omega, HEl2, HPm, hide (unhide HNx _ _ _ _ (unhide HX7))⟩
                    case measure => simp [intOf]; omega
                  · have HDr2 : Hid (IntsAt wn (some ⟨g, o2 + (jj + 1), none⟩) (X.drop (jj + 1))) := hide (by have := unhide HDr; rwa [if_neg hce] at this)
                    have hce2 : jj + 1 < cX := by omega
                    clear HDr HT
                    go_wp2
                    go_region_law (first | (refine step_nw rfl (.tmp 118) (.tmp 122) rfl (.slice ao6 jj c6) (X.take jj) rfl (unhide HX6) (some ⟨g, o2 + (jj + 1), none⟩) (u - (jj + 1)) (cX - (jj + 1)) (X.drop (jj + 1)) rfl (unhide HDl) ((unhide HDr2).quiet (unhide HX6).choose_spec.2.2) (by have := unhide HDl; have := unhide HTl; omega) ?_; intro ao7 c7 w7 hn7; rw [unhide HXe, ← unhide HTl, ← unhide HDl] at hn7; rw [← unhide HTl, ← unhide HDl]; have HX7 := hide hn7; clear hn7) | (refine step_nw rfl (.tmp 114) (.tmp 117) rfl (.slice (some ⟨wn.heap.size, 0, none⟩) 0 0) [] rfl (unhide HW0 _ rfl).1 (some ⟨g, o2, none⟩) jj cX (X.take jj) rfl (unhide HTl) (unhide HW0 _ rfl).2 (by have := unhide HTl; simp; omega) ?_; intro ao6 c6 w6 hn6; rw [List.length_nil, Nat.zero_add, List.nil_append, ← unhide HTl] at hn6; rw [List.length_nil, Nat.zero_add, ← unhide HTl]; have HX6 := hide hn6; clear hn6))
                    go_wp2
                    go_roundw
                    case rel => exact ⟨t + 1, by omega, by go_num, ao7, jj + (u - (jj + 1)), c7, X.eraseIdx jj, rfl, by omega, hide (by rw [unhide HEl]; omega), HPm, hide (unhide HNx _ _ _ _ (unhide HX7))⟩
                    case measure => simp [intOf]; omega
            · have hte : t = k + 1 := by omega
              have HX0 : Hid (X = []) := hide (by
                have := unhide hXp
                rw [hte, List.drop_eq_nil_of_le (by rw [unhide HLy]; exact Nat.le_refl _)] at this
                exact List.Perm.eq_nil this)
              have hm0 : m = 0 := by have := unhide hXl; rw [unhide HX0] at this; simpa using this.symm
              have HRn : Hid (Run w wn q [] ys) := hide (unhide hX).2.2
              clear hX hXp hXl hmt
              subst hm0 hte
              go_wp2
              go_loopg [127] k (fun gk i wr => ∃ u : Nat, u ≤ k ∧ Hid (gk = k - u) ∧ i = .int .i64 u ∧ Hid (Run w wr q [] (ys.drop u)))
              case atStart => exact ⟨0, by omega, hide (by omega), rfl, HRn⟩
              case round =>
                clear HRn
                obtain ⟨u, hu, hgk, rfl, hR⟩ := hrel
                by_cases huk : u < k
                · have hkz : u < ys.length := by have := unhide HIl; omega
                  obtain ⟨b, off, hab, hb1, cz⟩ := (unhide HY).quiet (unhide hR).choose_spec.2.2.2 u hkz
                  subst hab
                  obtain ⟨z, hz⟩ : ∃ z, z = ys.getD u 0 := ⟨_, rfl⟩
                  rw [← hz] at cz
                  have hz2 : z = ys[u] := by rw [hz]; exact getD_lt _ _ hkz
                  have HC : Hid (Calls Try.prog 14 #[.pointer (some ⟨q, 0, none⟩)] wr fun e w' => e = .returned (.tuple #[.int .i64 z, .bool true]) ∧ Run w w' q [] (ys.drop (u + 1))) := hide (by
                    have := (unhide hR).next (by have := unhide HIl; rw [List.length_drop]; omega)
                    rw [List.drop_eq_getElem_cons hkz, ← hz2] at this
                    obtain ⟨e1, e2, e3⟩ := nxt_first (ys.drop (u + 1)) z
                    rw [e1, e2, e3] at this
                    exact this)
                  clear hz hz2 hkz hR
                  go_wp2_with (go_at_call 14; refine (unhide HC).mono ?_; rintro e w5 ⟨rfl, hR5⟩; have HR5 := hide hR5; clear hR5)
                  go_roundg (k - (u + 1))
                  case measure => have := unhide hgk; omega
                  case rel => exact ⟨u + 1, by omega, hide rfl, by go_num, HR5⟩
                · have HLn : Hid (Calls Try.prog 12 #[.pointer (some ⟨q, 0, none⟩)] wr fun e w' => e = .returned (.int .i64 0) ∧ wr = w') := hide (by
                    have := (unhide hR).len
                    rw [List.drop_eq_nil_of_le (by have := unhide HIl; omega)] at this
                    exact this)
                  have HB : Hid (Below w.heap.size w wr) := hide (unhide hR).choose_spec.2.2.2.lowD
                  clear hR
                  go_wp2_with (go_at_call 12; refine (unhide HLn).mono ?_; rintro e w5 ⟨rfl, rfl⟩)
                  go_ret
                  exact ⟨rfl, unhide HB⟩
theorem fair_w (ao : Option Addr) (cp : Nat) (zs : List Int) (bo : Option Addr) (cq : Nat) (ys : List Int) (turns : Int) (w : World) (hm : zs.length ≤ maxLen) (hr : ∀ z ∈ zs, rng z) (hz : IntsAt w ao zs) (hm2 : ys.length ≤ maxLen) (_hr2 : ∀ z ∈ ys, rng z) (hy : IntsAt w bo ys) :
    Calls Try.prog 4 #[.slice ao zs.length cp, .slice bo ys.length cq, .int .i64 turns] w fun e w' => e = .returned (.bool true) ∧ Below w.heap.size w w' := by
  by_cases h : 500 < zs.length ∨ 200 < ys.length ∨ turns < 0 ∨ 300 < turns
  · exact fair_out w ao cp zs bo cq ys turns hm hm2 h
  · obtain ⟨M, rfl⟩ := Int.eq_ofNat_of_zero_le (show 0 ≤ turns by omega)
    exact fair_in w ao cp zs bo cq ys M (by omega) (by omega) (by omega) hr hz hy
end Go.Proofs.Ytidacjkpioenhaa
