/- Children. -/
import Derived.Test.YtogjblikljggbaaDoorMk0
import Derived.Test.YtogjblikljggbaaDoorWd1
import Derived.Laws.Small
namespace Go.Proofs.YtogjblikljggbaaDoor
open Go.RowKit Go.Proofs.YtogjblikljggbaaDoor.Hp
theorem isRef_any (B : HB) (n : Nat) (A : Nat → Kd) (wd : Nat → Int) (x : Int) (w : World) (h : At w B n (hrOf A wd)) (hI : Inv n A) :
    Calls Tryd.prog 54 #[B.ptr, .int .i64 x] w fun e w' => e = .returned (.bool (refB A x)) ∧ Fr (fun _ => False) w w' := by
  have HC : Hid (Calls Tryd.prog 42 #[.pointer (some ⟨B.p, 0, none⟩), .int .i64 x] w fun e w' => e = .returned (.int .i64 (roomI A x)) ∧ Fr (fun _ => False) w w') := hide (by
    have := Room_any B n (hrOf A wd) x w h (fine_of wd hI)
    rw [roomR_I wd hI] at this
    exact this)
  have HE : Hid (decide (0 < roomI A x) = refB A x) := hide (by
    unfold refB
    by_cases e : roomI A x = 0
    · simp [e]
    · have : 0 < roomI A x := by omega
      simp [e, this])
  clear h hI
  generalize refB A x = b at *
  generalize roomI A x = r at *
  unfold HB.ptr
  go_enter Tryd.func54, Tryd.ntmps54
  go_wp2_with fail
  refine (unhide HC).mono ?_
  rintro e w1 ⟨rfl, hF⟩
  have HF := hide hF
  clear hF HC
  go_wp2
  go_ret
  exact ⟨ret_bool (unhide HE), unhide HF⟩
def KidsP (w0 : World) (ys : List Int) (e : Ending) (w' : World) : Prop := ∃ ao cp, e = .returned (.slice ao ys.length cp) ∧ w'.ownsRow w0.heap.size 3 1 (.slice ao ys.length cp) ys.length (ys.map (Value.int .i64)) ∧ Fr (fun _ => False) w0 w'
theorem KidsP.nothing {w0 w' : World} (h : Fr (fun _ => False) w0 w') : KidsP w0 [] (.returned (.slice none 0 0)) w' :=
  ⟨none, 0, rfl, by have := World.ownsRow_nil w' w0.heap.size 3 1; exact this, h⟩
set_option maxHeartbeats 1000000 in
theorem Children_no (B : HB) (z h : Int) (w : World) (hh : ¬ IsH h)
    (HL : Hid (Calls Tryd.prog 29 #[.pointer (some ⟨B.p, 0, none⟩), .int .i64 z, .int .i64 0] w fun e w' => (∃ b, e = .returned (.tuple #[.int .i64 h, .bool b])) ∧ Fr (fun _ => False) w w')) :
    Calls Tryd.prog 55 #[B.ptr, .int .i64 z] w fun e w' => KidsP w [] e w' := by
  have HO := hide (fun w' => Open_no h w' hh)
  clear hh
  unfold HB.ptr
  go_enter Tryd.func55, Tryd.ntmps55
  go_wp2_with fail
  refine (unhide HL).mono ?_
  rintro e w1 ⟨⟨b, rfl⟩, hF⟩
  have HF := hide hF
  clear hF HL
  go_wp2_with (first | (go_at_call 48; refine (unhide HO _).mono ?_; rintro e w' ⟨rfl, rfl⟩))
  go_ret
  exact KidsP.nothing (unhide HF)
set_option maxRecDepth 100000 in
set_option maxHeartbeats 2000000 in
theorem Children_yes (B : HB) (n : Nat) (A : Nat → Kd) (wd : Nat → Int) (x r m : Nat) (w : World) (h : At w B n (hrOf A wd)) (hI : Inv n A) (hr : roomN A x = r) (hr0 : r ≠ 0) (hh : IsH (wd x)) (hm : m = min (hS (wd x)).toNat (r - 1)) :
    Calls Tryd.prog 55 #[B.ptr, .int .i64 x] w fun e w' => KidsP w (kidsTo A wd x m) e w' := by
  have hr1 : r ≤ 20000 := by
    have f := fine_of wd hI (x / 64)
    have := room_in hI (x := x) (by omega)
    have h2 := f (by omega)
    rw [← hr]
    have e : roomN A x ≤ rmK (A (x / 64)) := by
      unfold roomN
      cases A (x / 64) <;> simp only [roomK, rmK]
      · exact Nat.le_refl _
      · exact Nat.le_refl _
      · split
        · exact Nat.le_refl _
        · exact Nat.zero_le _
      · split
        · exact Nat.le_refl _
        · exact Nat.zero_le _
    have : rmK (A (x / 64)) ≤ 20000 := h2.2.1
    omega
  have hx1 : x < 2000000 := by
    have := room_in hI (x := x) (by omega)
    have := h.hi
    omega
  have hL0 : Hid (Calls Tryd.prog 29 #[.pointer (some ⟨B.p, 0, none⟩), .int .i64 x, .int .i64 0] w fun e w' => e = .returned (.tuple #[.int .i64 (wd x), .bool true]) ∧ Fr (fun _ => False) w w') := hide (Load_in B n A wd x r 0 w h hI hr (by omega))
  have HLd : Hid (∀ k w', k < m → Fr (fun _ => False) w w' → Calls Tryd.prog 29 #[.pointer (some ⟨B.p, 0, none⟩), .int .i64 x, .int .i64 ((k : Int) + 1)] w' fun e w'' => e = .returned (.tuple #[.int .i64 (wd (x + (k + 1))), .bool true]) ∧ Fr (fun _ => False) w' w'') := hide fun k w' hk hF => by
    have := Load_in B n A wd x r (k + 1) w' (h.quiet hF) hI hr (by omega)
    rw [show ((k + 1 : Nat) : Int) = (k : Int) + 1 by omega] at this
    exact this
  have HRm : Hid (∀ w', Fr (fun _ => False) w w' → Calls Tryd.prog 42 #[.pointer (some ⟨B.p, 0, none⟩), .int .i64 x] w' fun e w'' => e = .returned (.int .i64 r) ∧ Fr (fun _ => False) w' w'') := hide fun w' hF => by
    have := Room_in B n A wd x w' (h.quiet hF) hI
    rw [hr] at this
    exact this
  have HRf : Hid (∀ v w', Fr (fun _ => False) w w' → Calls Tryd.prog 54 #[.pointer (some ⟨B.p, 0, none⟩), .int .i64 v] w' fun e w'' => e = .returned (.bool (refB A v)) ∧ Fr (fun _ => False) w' w'') := hide fun v w' hF => isRef_any B n A wd v w' (h.quiet hF) hI
  have hmk : 0 ≤ hM (wd x) ∧ hM (wd x) ≤ 65535 ∧ 0 ≤ hS (wd x) ∧ hS (wd x) ≤ 16447 := by unfold IsH at hh; unfold hM hS; omega
  have HT : Hid (∀ (k : Nat) w', Calls Tryd.prog 64 #[.int .i64 (hK (wd x)), .int .i64 (hM (wd x)), .int .i64 k] w' fun e w'' => e = .returned (.bool (tellsB (hK (wd x)) (hM (wd x)) k)) ∧ w'' = w') := hide fun k w' => tells_any _ _ k w' hmk.1 hmk.2.1
  have HO : Hid (∀ w', Calls Tryd.prog 48 #[.int .i64 (wd x)] w' fun e w'' => e = .returned (.tuple #[.int .i64 (hK (wd x)), .int .i64 (hS (wd x)), .int .i64 (hM (wd x)), .bool true]) ∧ w'' = w') := hide fun w' => Open_yes _ w' hh
  have hmn : (if (r : Int) - 1 < hS (wd x) then (r : Int) - 1 else hS (wd x)) = (m : Int) := by
    split <;> omega
  have hml : m ≤ 20000 := by omega
  have hks : Hid (∀ k, k < m → kidsTo A wd x (k + 1) = kidsTo A wd x k ++ (if tellsB (hK (wd x)) (hM (wd x)) k && refB A (wd (x + (k + 1))) then [wd (x + (k + 1))] else [])) := hide fun k _ => rfl
  have hk0 : Hid (kidsTo A wd x 0 = []) := hide rfl
  have hkl : Hid (∀ k, (kidsTo A wd x k).length ≤ k) := hide (kidsTo_len A wd x)
  obtain ⟨base, hb⟩ : ∃ base, base = w.heap.size := ⟨_, rfl⟩
  have HBs : Hid (base = w.heap.size) := hide hb
  have HP : Hid (∀ ao c cp w', c = (kidsTo A wd x m).length → w'.ownsRow base 3 1 (.slice ao c cp) c ((kidsTo A wd x m).map (Value.int .i64)) → Fr (fun _ => False) w w' → KidsP w (kidsTo A wd x m) (.returned (.slice ao c cp)) w') := hide fun ao c cp w' e o q => by subst e; exact ⟨ao, cp, rfl, by rw [← hb]; exact o, q⟩
  clear h hI hr hh hm hb
  have h31 := hmk.2.2.1
  have h32 := hmk.2.2.2
  clear hmk
  generalize hK (wd x) = kd at *
  generalize hM (wd x) = mk at *
  generalize hS (wd x) = sz at *
  generalize wd x = hv at *
  generalize kidsTo A wd x = KS at *
  obtain ⟨i0, hi, hz0, hz1, hz2⟩ := info_parts Tryd.info3
  unfold HB.ptr
  go_enter Tryd.func55, Tryd.ntmps55
  go_wp2_with fail
  refine (unhide hL0).mono ?_
  rintro e w1 ⟨rfl, hF1⟩
  have HF1 := hide hF1
  clear hF1 hL0
  go_wp2_with (first | (go_at_call 48; refine (unhide HO _).mono ?_; rintro e w' ⟨rfl, rfl⟩) | (go_at_call 42; refine (unhide HRm _ (unhide HF1)).mono ?_; rintro e w2 ⟨rfl, hF2⟩))
  have HF2 := hide ((unhide HF1).trans hF2)
  clear hF2 HF1
  try go_wp2
  go_loopw [11, 36] (fun v i wr => ∃ k : Nat, k ≤ m ∧ i = .int .i64 k ∧ ∃ c ao cp, v = .slice ao c cp ∧ c ≤ 20000 ∧ Hid (c = (KS k).length) ∧ Hid (wr.ownsRow base 3 1 (.slice ao c cp) c ((KS k).map (Value.int .i64))) ∧ Hid (Fr (fun _ => False) w wr)) (fun _ i _ => m - (intOf i).toNat)
  case atStart => exact ⟨0, by omega, rfl, 0, none, 0, rfl, by omega, hide (by rw [unhide hk0]; rfl), hide (by have := World.ownsRow_nil w2 base 3 1; rw [unhide hk0]; exact this), HF2⟩
  case round =>
    obtain ⟨k, hk, rfl, c0, ao, cp, rfl, hcl, hc0, hO, hF⟩ := hrel
    by_cases hlt : k < m
    · have HL := hide (unhide HLd k wr hlt (unhide hF))
      go_wp2_with fail
      refine (unhide HL).mono ?_
      rintro e w3 ⟨rfl, hF3⟩
      have HF3 := hide ((unhide hF).trans hF3)
      have HO3 := hide (own_fr (unhide hO) hF3 (fun _ x => x.elim))
      clear hO hF HL hF3
      have HRv := hide (unhide HRf (wd (x + (k + 1))) w3 (unhide HF3))
      have HTk := hide (unhide HT k)
      have hst := unhide hks k hlt
      have hbw : base ≤ w3.heap.size := by have := (unhide HF3).size; have := unhide HBs; omega
      have hcl2 : c0 ≤ k := by have := unhide hkl k; have := unhide hc0; omega
      generalize wd (x + (k + 1)) = v at *
      cases ht : tellsB kd mk k with
      | false =>
        rw [ht] at hst HTk
        have HST : Hid (KS (k + 1) = KS k) := hide (by rw [hst]; simp)
        clear hst ht
        go_wp2_with (first | (go_at_call 64; refine (unhide HTk _).mono ?_; rintro e w' ⟨rfl, rfl⟩))
        go_roundw
        case rel => exact ⟨k + 1, by omega, by go_num, c0, ao, cp, rfl, hcl, by rw [unhide HST]; exact hc0, by rw [unhide HST]; exact HO3, HF3⟩
        case measure => simp [intOf]; omega
      | true =>
        rw [ht] at hst HTk
        cases hb : refB A v with
        | false =>
          rw [hb] at hst HRv
          have HST : Hid (KS (k + 1) = KS k) := hide (by rw [hst]; simp)
          clear hst ht hb
          go_wp2_with (first | (go_at_call 64; refine (unhide HTk _).mono ?_; rintro e w' ⟨rfl, rfl⟩) | (go_at_call 54; refine (unhide HRv).mono ?_; rintro e w4 ⟨rfl, hF4⟩))
          have HF4 := hide ((unhide HF3).trans hF4)
          have HO4 := hide (own_fr (unhide HO3) hF4 (fun _ x => x.elim))
          clear hF4
          try go_wp2
          go_roundw
          case rel => exact ⟨k + 1, by omega, by go_num, c0, ao, cp, rfl, hcl, by rw [unhide HST]; exact hc0, by rw [unhide HST]; exact HO4, HF4⟩
          case measure => simp [intOf]; omega
        | true =>
          rw [hb] at hst HRv
          have HST : Hid (KS (k + 1) = KS k ++ [v]) := hide (by rw [hst]; simp)
          clear hst ht hb
          go_wp2_with (first | (go_at_call 64; refine (unhide HTk _).mono ?_; rintro e w' ⟨rfl, rfl⟩) | (go_at_call 54; refine (unhide HRv).mono ?_; rintro e w4 ⟨rfl, hF4⟩; have hbw4 : base ≤ w4.heap.size := Nat.le_trans hbw hF4.size; have HF4 := hide ((unhide HF3).trans hF4); have HO4 := hide (own_fr (unhide HO3) hF4 (fun _ x => x.elim)); clear hF4) | (at_builtin; refine wpList_append_own _ rfl _ _ 28 rfl base 3 i0 (.int .i64 0) 1 8 Tryd.underlying28 hi hz0 hz1 hz2 rfl (by decide) _ _ _ rfl ((unhide HO4).alloc _) ⟨w4.heap.size, 0, none⟩ 1 1 [.int .i64 v] rfl rfl ?c1 ?c2 ?c3 ?c4 ?c5 ?_))
          case c1 =>
            intro j u hj
            match j, hj with
            | 0, hj => simp at hj; subst hj; simp [Addr.add]
          case c2 => intro u hu; simp at hu; subst hu; rfl
          case c3 => unfold maxLen; omega
          case c4 => omega
          case c5 => simp; omega
          · intro v' w5 hown' hgrow _
            obtain ⟨ao', cp', hv', _⟩ := own_form hown'
            subst hv'
            have hlo : ∀ j, some j = (Value.slice ao c0 cp).ownBlock → base ≤ j := fun j e => ((unhide HO4).lt j e.symm).1
            have HF5 : Hid (Fr (fun _ => False) w w5) := hide (((unhide HF4).alloc _).up (Fr.grown hgrow) (fun j e => by have := hlo j e; have := unhide HBs; omega))
            have HO5 : Hid (w5.ownsRow base 3 1 (.slice ao' (c0 + 1) cp') (c0 + 1) ((KS (k + 1)).map (Value.int .i64))) := hide (by rw [unhide HST, List.map_append]; exact hown')
            clear hown' hgrow hlo
            go_wp2
            go_roundw
            case rel => exact ⟨k + 1, by omega, by go_num, c0 + 1, ao', cp', rfl, by omega, hide (by rw [unhide HST, List.length_append, ← unhide hc0]; rfl), HO5, HF5⟩
            case measure => simp [intOf]; omega
    · have e : k = m := by omega
      subst e
      go_wp2
      go_ret
      exact unhide HP _ _ _ _ (unhide hc0) (unhide hO) (unhide hF)
theorem Children_any (B : HB) (n : Nat) (A : Nat → Kd) (wd : Nat → Int) (z : Int) (w : World) (h : At w B n (hrOf A wd)) (hI : Inv n A) : Calls Tryd.prog 55 #[B.ptr, .int .i64 z] w fun e w' => KidsP w (kids A wd z) e w' := by
  unfold kids
  by_cases h0 : roomI A z = 0
  · rw [if_neg (fun x => x.1 h0)]
    refine Children_no B z 0 w (by decide) (hide ?_)
    refine (Load_any B n (hrOf A wd) z 0 w h (fine_of wd hI) (fits_of wd hI)).mono ?_
    rintro e w' ⟨rfl, hF⟩
    refine ⟨⟨false, ?_⟩, hF⟩
    unfold loadV
    rw [if_neg (by unfold inB; rw [roomR_I wd hI, h0]; decide)]
  · obtain ⟨x, rfl, hx, _⟩ := ref_nat hI (refB_iff.2 h0)
    have e : roomI A (x : Int) = roomN A x := by unfold roomI; rw [if_pos (by omega), Int.toNat_natCast]
    rw [Int.toNat_natCast]
    by_cases h1 : IsH (wd x)
    · rw [if_pos ⟨h0, h1⟩, e]
      exact Children_yes B n A wd x (roomN A x) _ w h hI rfl hx h1 rfl
    · rw [if_neg (fun y => h1 y.2)]
      exact Children_no B x (wd x) w h1 (hide ((Load_in B n A wd x (roomN A x) 0 w h hI rfl (by omega)).mono fun e w' y => ⟨⟨true, y.1⟩, y.2⟩))
end Go.Proofs.YtogjblikljggbaaDoor
