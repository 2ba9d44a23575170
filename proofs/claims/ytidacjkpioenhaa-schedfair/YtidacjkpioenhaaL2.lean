/- SchedLists, walked. -/
import Derived.Test.YtidacjkpioenhaaD1
import Derived.Deep.RegionHeld2
namespace Go.Proofs.Ytidacjkpioenhaa
open Go.RowKit
set_option maxHeartbeats 1000000 in
theorem lists_out (w : World) (ao : Option Addr) (cp : Nat) (zs : List Int) (bo : Option Addr) (cq : Nat) (ys : List Int) (turns : Int) (hm : zs.length ≤ maxLen) (hm2 : ys.length ≤ maxLen) (h : 200 < zs.length ∨ 100 < ys.length ∨ turns < 0 ∨ 50 < turns) :
    Calls Try.prog 6 #[.slice ao zs.length cp, .slice bo ys.length cq, .int .i64 turns] w fun e w' => e = .returned (.bool true) ∧ Below w.heap.size w w' := by
  unfold maxLen at hm hm2
  have HA := hide (anchor_any w)
  go_enter Try.func6, Try.ntmps6
  go_wp2_with fail
  refine (unhide HA).mono ?_
  rintro e w1 ⟨rfl, hF⟩
  have HB := hide hF.lowD
  clear hF
  have hb : (((decide (200 < zs.length) || decide (100 < ys.length)) || decide (turns < 0)) || decide (50 < turns)) = true := by
    rcases h with h | h | h | h <;> simp [h]
  go_wp2
  all_goals first | (go_ret; exact ⟨rfl, unhide HB⟩) | (exfalso; omega)
theorem one_at (w : World) (x : Int) (w1 : World) (h : w1 = w.alloc (.cells #[.int .i64 x] 3)) : Fr (fun _ => False) w w1 ∧ IntsAt w1 (some ⟨w.heap.size, 0, none⟩) [x] := by
  subst h
  exact ⟨(Fr.refl _ w).alloc _, fun j hj => ⟨w.heap.size, 0, rfl, by simp, by
    obtain rfl : j = 0 := by simpa using hj
    simp⟩⟩
set_option maxRecDepth 100000 in
set_option maxHeartbeats 2000000 in
theorem lists_in (w : World) (ao : Option Addr) (cp : Nat) (zs : List Int) (bo : Option Addr) (cq : Nat) (ys : List Int) (M : Nat) (hl : zs.length ≤ 200) (hl2 : ys.length ≤ 100) (hM : M ≤ 50) (hr : ∀ z ∈ zs, rng z) (hz : IntsAt w ao zs) (hy : IntsAt w bo ys) :
    Calls Try.prog 6 #[.slice ao zs.length cp, .slice bo ys.length cq, .int .i64 (M : Nat)] w fun e w' => e = .returned (.bool true) ∧ Below w.heap.size w w' := by
  have HA := hide (anchor_any w)
  have HNw : Hid (∀ w1, Fr (fun _ => False) w w1 → Calls Try.prog 8 #[.slice ao zs.length cp] w1 fun e w2 => ∃ p, e = .returned (.pointer (some ⟨p, 0, none⟩)) ∧ ∀ w3, w3 = w2.alloc (.cells #[.slice ao zs.length cp, .int .i64 0, .slice none 0 0] 29) → Duo w w3 p w2.heap.size zs [] zs []) := hide fun w1 hF => (New_q w1 ao cp zs (hz.quiet hF) (by omega) hr).mono fun e w2 ⟨B, he, hq, hb, hF2⟩ => ⟨B.p, he, fun w3 hw3 => Duo.new (hF.trans hF2) hq (fun k hk => by have := hb k hk; have := hF.size; omega) (by omega) hr hz hw3⟩
  have HY := hide hy
  obtain ⟨n, hn⟩ : ∃ n, n = ys.length := ⟨_, rfl⟩
  have HIl : Hid (n = ys.length) := hide hn
  rw [← hn] at hl2 ⊢
  obtain ⟨nz, hnz⟩ : ∃ n, n = zs.length := ⟨_, rfl⟩
  rw [← hnz] at hl HNw ⊢
  clear hn hz hr hy hnz
  go_enter Try.func6, Try.ntmps6
  go_wp2_with fail
  refine (unhide HA).mono ?_
  rintro e w1 ⟨rfl, hF⟩
  have HW1 := hide (unhide HNw w1 hF)
  clear hF HA HNw
  go_wp2_with fail
  refine (unhide HW1).mono ?_
  rintro e w2 ⟨p, rfl, hD⟩
  obtain ⟨w3, hw3⟩ : ∃ w3, w3 = w2.alloc (.cells #[.slice ao nz cp, .int .i64 0, .slice none 0 0] 29) := ⟨_, rfl⟩
  have HD3 := hide (hD w3 hw3)
  clear hD HW1
  go_wp2
  rw [← hw3]
  generalize w2.heap.size = r at *
  clear hw3
  go_loopw [45] (fun i wr => ∃ k : Nat, k ≤ n ∧ i = .int .i64 k ∧ Hid (Duo w wr p r zs (ys.take k) zs (ys.take k))) (fun i _ => n - (intOf i).toNat)
  case atStart => exact ⟨0, by omega, rfl, HD3⟩
  case round =>
    obtain ⟨k, hk, rfl, hD⟩ := hrel
    by_cases hlt : k < n
    · have hkz : k < ys.length := by have := unhide HIl; omega
      obtain ⟨b, off, hab, hb1, cz⟩ := (unhide HY).quiet (unhide hD).far k hkz
      subst hab
      obtain ⟨z, hz⟩ : ∃ z, z = ys.getD k 0 := ⟨_, rfl⟩
      rw [← hz] at cz
      have HT : Hid (ys.take k ++ [z] = ys.take (k + 1)) := hide (by rw [List.take_succ_eq_append_getElem hkz, hz]; simp [List.getD, hkz])
      have HLk : Hid ((ys.take k).length = k) := hide (by rw [List.length_take]; omega)
      have HPu := hide ((unhide hD).push z (by have := unhide HLk; omega))
      clear hz hkz hD
      obtain ⟨X, hX⟩ : ∃ X, X = ys.take k := ⟨_, rfl⟩
      rw [← hX] at HT HLk HPu
      clear hX
      go_wp2_with (first | (go_at_call 10; refine (unhide HPu).mono ?_; rintro e w4 ⟨rfl, hD4⟩; obtain ⟨ao4, cap4, lb4, c4, f4, o4, hE4⟩ := hD4.cell; have HE4 := hide hE4; have HO4 := hide o4; rw [unhide HLk] at c4; clear hD4 hE4 o4 HPu) | (at_builtin; obtain ⟨w5, hw5⟩ : ∃ w5, w5 = w4.alloc (.cells #[.int .i64 z] 3) := ⟨_, rfl⟩; rw [← hw5]; obtain ⟨F5, hy5⟩ := one_at w4 z w5 hw5; refine wpList_app rfl _ _ rfl (.slice ao4 k cap4) lb4 X rfl (by have := (unhide HO4).fr F5 (fun _ _ => id); rw [unhide HLk] at this; exact this) (some ⟨w4.heap.size, 0, none⟩) 1 1 [z] rfl rfl hy5 (by have := unhide HLk; simp; omega) ?_; intro ao5 c5 lb5 w6 ho hg; obtain ⟨c6, f6, hD6⟩ := unhide HE4 w5 w6 ao5 c5 lb5 z F5 ho hg; rw [unhide HLk] at c6 hD6 ⊢; have HD6 := hide hD6; clear hD6 ho hg hy5 F5 hw5))
      go_roundw
      case rel => exact ⟨k + 1, by omega, by go_num, hide (by rw [← unhide HT]; exact unhide HD6)⟩
      case measure => simp [intOf]; omega
    · have HD2 : Hid (Duo w wr p r zs ys zs ys) := hide (by have := unhide hD; rwa [List.take_of_length_le (by have := unhide HIl; omega)] at this)
      have hke : k = n := by omega
      clear hD
      subst hke
      go_wp2
      go_loopw [11] (fun i wr => ∃ j : Nat, j ≤ M ∧ i = .int .i64 j ∧ ∃ S I, Hid (Duo w wr p r S I S I) ∧ Hid (k = I.length)) (fun i _ => M - (intOf i).toNat)
      case atStart => exact ⟨0, by omega, rfl, zs, ys, HD2, HIl⟩
      case round =>
        clear HD2 HIl
        obtain ⟨j, hj, rfl, S, I, hD, hI⟩ := hrel
        obtain ⟨wm, rfl⟩ : ∃ wm, wm = wr := ⟨_, rfl⟩
        by_cases hjt : j < M
        · have HLs := hide ((unhide hD).list (by have := unhide hI; omega))
          go_wp2_with fail
          refine (unhide HLs).mono ?_
          rintro e w4 ⟨ao4, cp4, ib4, rfl, ho4, hg4, hF4⟩
          rw [← unhide hI] at ho4 ⊢
          have HO4 := hide ho4
          have HG4 := hide hg4
          have HF4 := hide hF4
          clear ho4 hg4 hF4 HLs
          go_wp2
          go_loopw [72] (fun i wr => ∃ m : Nat, m ≤ k ∧ i = .int .i64 m ∧ ∃ ys' : List Int, Hid (ys'.length = k) ∧ Hid (Own wr (.slice ao4 k cp4) ib4 ys') ∧ Hid (Fr (fun _ => False) wm wr)) (fun i _ => k - (intOf i).toNat)
          case atStart => exact ⟨0, by omega, rfl, I, hide (unhide hI).symm, HO4, HF4⟩
          case round =>
            clear HO4 HF4
            obtain ⟨m, hm, rfl, us, hul, hO, hF⟩ := hrel
            by_cases hmt : m < k
            · have hml : m < us.length := by rw [unhide hul]; exact hmt
              obtain ⟨b, off, hab, hb1, cz⟩ := (unhide hO).ints m hml
              subst hab
              obtain ⟨ho2, fz, _, hib⟩ := (unhide hO).set m hml (-1)
              have HO2 := hide ho2
              have HF2 : Hid (Fr (fun _ => False) wm (wr.setCell ⟨b, off + m, none⟩ (.int .i64 (-1)))) := hide ((unhide hF).up ((Fr.refl (· = b) wr).setCell (p := ⟨b, off + m, none⟩) rfl _) fun g e => by subst e; exact unhide HG4 g hib)
              have HU2 : Hid ((us.set m (-1)).length = k) := hide (by rw [List.length_set]; exact unhide hul)
              clear ho2 hib hml hO hF hul
              generalize us.getD m 0 = u at *
              go_wp2
              go_roundw
              case rel => exact ⟨m + 1, by omega, by go_num, _, HU2, HO2, HF2⟩
              case measure => simp [intOf]; omega
            · have hme : m = k := by omega
              subst hme
              have HD5 : Hid (∀ w5, Fr (fun _ => False) wm w5 → Calls Try.prog 14 #[.pointer (some ⟨p, 0, none⟩)] w5 fun e w6 => e = .returned (.tuple #[.int .i64 (nxtV S I), .bool (nxtB I)]) ∧ Calls Try.prog 16 #[.pointer (some ⟨r, 0, none⟩)] w6 fun e w7 => e = .returned (.tuple #[.int .i64 (nxtV S I), .bool (nxtB I)]) ∧ Duo w w7 p r S.tail (nxtI S I) S.tail (nxtI S I)) := hide fun w5 h5 => (((unhide hD).quiet h5).next (by have := unhide hI; omega)).mono fun e w6 ⟨he, h6⟩ => ⟨he, h6.nextR (by have := unhide hI; omega)⟩
              obtain ⟨w8, hw8⟩ : ∃ w8, w8 = wr.alloc (.cells #[.int .i64 (-2)] 3) := ⟨_, rfl⟩
              have HX8 : Hid (Own w8 (.slice ao4 m cp4) ib4 us ∧ IntsAt w8 (some ⟨wr.heap.size, 0, none⟩) [-2] ∧ us.length + [(-2 : Int)].length ≤ 1000000) := hide (by
                obtain ⟨F8, hy8⟩ := one_at wr (-2) w8 hw8
                exact ⟨(unhide hO).fr F8 (fun _ _ => id), hy8, by have := unhide hul; simp; omega⟩)
              have HF8 : Hid (∀ w9 ib9, Grew w8 w9 ib4 ib9 → Fr (fun _ => False) wm w9) := hide fun w9 ib9 hg => ((unhide hF).trans (one_at wr (-2) w8 hw8).1).up hg.fr fun g e => unhide HG4 g e
              clear hF hO
              go_wp2_with (at_builtin; rw [← hw8]; refine wpList_app rfl _ _ rfl (.slice ao4 m cp4) ib4 us rfl (unhide HX8).1 (some ⟨wr.heap.size, 0, none⟩) 1 1 [-2] rfl rfl (unhide HX8).2.1 (unhide HX8).2.2 ?_; intro ao9 c9 ib9 w9 ho hg; have HD9 := hide (unhide HD5 w9 (unhide HF8 w9 ib9 hg)); rw [unhide hul]; clear ho hg)
              refine (unhide HD9).mono ?_
              rintro e w10 ⟨rfl, hC⟩
              have HC := hide hC
              clear hC HD9 HD5 hw8 HX8 HF8 hD
              go_wp2_with fail
              refine (unhide HC).mono ?_
              rintro e w11 ⟨rfl, hD11⟩
              have HD11 := hide hD11
              clear hD11 HC
              by_cases h0 : I = []
              · have hb : nxtB I = false := by rw [h0]; rfl
                have HX : Hid (Duo w w11 p r S.tail [] S.tail [] ∧ m = ([] : List Int).length) := hide ⟨by have := unhide HD11; rw [h0] at this; exact this, by rw [unhide hI, h0]⟩
                rw [hb]
                clear hb h0 HD11 hI
                generalize nxtV S I = v at *
                go_wp2
                go_roundw
                case rel => exact ⟨j + 1, by omega, by go_num, S.tail, [], hide (unhide HX).1, hide (unhide HX).2⟩
                case measure => simp [intOf]; omega
              · have hb : nxtB I = true := by unfold nxtB; cases I with | nil => exact absurd rfl h0 | cons _ _ => rfl
                have HLn : Hid ((nxtI S I).length + 1 = m) := hide (by have := nxt_len S I h0; rw [List.length_append] at this; rw [unhide hI]; exact this)
                have HPu : Hid (Calls Try.prog 10 #[.pointer (some ⟨p, 0, none⟩), .int .i64 (nxtV S I)] w11 fun e w' => e = .returned (.tuple #[]) ∧ Duo w w' p r S.tail (nxtI S I ++ [nxtV S I]) S.tail (nxtI S I)) := hide ((unhide HD11).push (nxtV S I) (by have := unhide HLn; omega))
                rw [hb]
                clear hb h0 HD11 hI
                generalize nxtV S I = v at *
                generalize nxtI S I = X at *
                obtain ⟨ln, hln⟩ : ∃ ln, ln = X.length := ⟨_, rfl⟩
                have HLx : Hid (X.length = ln) := hide hln.symm
                rw [← hln] at HLn
                have HLm : Hid (ln + 1 = m) := HLn
                have hlb : ln < 100 := by have := unhide HLn; omega
                clear hln HLn
                go_wp2_with (first | (go_at_call 10; refine (unhide HPu).mono ?_; rintro e w12 ⟨rfl, hD12⟩; obtain ⟨ao12, cap12, lb12, c12, f12, o12, hE12⟩ := hD12.cell; have HE12 := hide hE12; have HO12 := hide o12; rw [unhide HLx] at c12; clear hD12 hE12 o12 HPu) | (at_builtin; obtain ⟨w5, hw5⟩ : ∃ w5, w5 = w12.alloc (.cells #[.int .i64 v] 3) := ⟨_, rfl⟩; rw [← hw5]; obtain ⟨F5, hy5⟩ := one_at w12 v w5 hw5; refine wpList_app rfl _ _ rfl (.slice ao12 ln cap12) lb12 X rfl (by have := (unhide HO12).fr F5 (fun _ _ => id); rw [unhide HLx] at this; exact this) (some ⟨w12.heap.size, 0, none⟩) 1 1 [v] rfl rfl hy5 (by have := unhide HLx; simp; omega) ?_; intro ao5 c5 lb5 w6 ho hg; obtain ⟨c6, f6, hD6⟩ := unhide HE12 w5 w6 ao5 c5 lb5 v F5 ho hg; rw [unhide HLx] at c6 hD6 ⊢; have HD6 := hide hD6; clear hD6 ho hg hy5 F5 hw5))
                go_roundw
                case rel => exact ⟨j + 1, by omega, by go_num, S.tail, X ++ [v], HD6, hide (by rw [List.length_append, unhide HLx]; exact (unhide HLm).symm)⟩
                case measure => simp [intOf]; omega
        · have HLs := hide (((unhide hD).quiet ((Fr.refl _ wm).drew)).list (by have := unhide hI; omega))
          obtain ⟨ao5, cap5, lb5, c5, _, o5, _⟩ := (unhide hD).cell
          have HFin : Hid (∀ w4 ao4 cp4 ib4, Own w4 (.slice ao4 I.length cp4) ib4 I → Fr (fun _ => False) wm.drew w4 → w4.cell? ⟨r, 2, none⟩ = some (.slice ao5 I.length cap5) ∧ Calls Try.prog 17 #[.slice ao4 I.length cp4, .slice ao5 I.length cap5] w4 fun e w' => e = .returned (.bool true) ∧ w'.cell? ⟨r, 2, none⟩ = some (.slice ao5 I.length cap5) ∧ Below w.heap.size w w') := hide fun w4 ao4 cp4 ib4 ho hF0 => have hF := ((Fr.refl (fun _ => False) wm).drew).trans hF0; ⟨hF.cell c5 id, (ints_any w4 ao4 ao5 cp4 cap5 I ho.ints (o5.ints.quiet hF) (by have := unhide hI; omega)).mono fun e w' ⟨he, hw⟩ => ⟨he, by
            subst hw
            exact ⟨hF.cell c5 id, ((unhide hD).far.trans hF).lowD⟩⟩⟩
          rw [← unhide hI] at HFin c5
          clear o5
          go_wp2
          go_region_held2 (fun W => W.cell? ⟨r, 2, none⟩ = some (.slice ao5 k cap5)) (go_keep) (first | (go_at_call 13; refine (unhide HLs).mono ?_; rintro e w4 ⟨ao4, cp4, ib4, rfl, ho4, hg4, hF4⟩; rw [← unhide hI] at ho4 ⊢; obtain ⟨c54, hC⟩ := unhide HFin w4 ao4 cp4 ib4 ho4 hF4; have HC := hide hC; clear ho4 hg4 hF4 hC) | (go_at_call 17; refine (unhide HC).mono ?_; rintro e w5 ⟨rfl, c55, hB⟩; have HB := hide hB; clear hB))
          go_wp2
          go_ret
          exact ⟨rfl, unhide HB⟩
theorem lists_w (ao : Option Addr) (cp : Nat) (zs : List Int) (bo : Option Addr) (cq : Nat) (ys : List Int) (turns : Int) (w : World) (hm : zs.length ≤ maxLen) (hr : ∀ z ∈ zs, rng z) (hz : IntsAt w ao zs) (hm2 : ys.length ≤ maxLen) (_hr2 : ∀ z ∈ ys, rng z) (hy : IntsAt w bo ys) :
    Calls Try.prog 6 #[.slice ao zs.length cp, .slice bo ys.length cq, .int .i64 turns] w fun e w' => e = .returned (.bool true) ∧ Below w.heap.size w w' := by
  by_cases h : 200 < zs.length ∨ 100 < ys.length ∨ turns < 0 ∨ 50 < turns
  · exact lists_out w ao cp zs bo cq ys turns hm hm2 h
  · obtain ⟨M, rfl⟩ := Int.eq_ofNat_of_zero_le (show 0 ≤ turns by omega)
    exact lists_in w ao cp zs bo cq ys M (by omega) (by omega) (by omega) hr hz hy
end Go.Proofs.Ytidacjkpioenhaa
