/- The document's heap: Alloc. -/
import Derived.Test.YtjblmincldaklaaDoorRf3
namespace Go.Proofs.YtjblmincldaklaaDoor
open Go.RowKit Go.Proofs.YtjblmincldaklaaDoor.Hp
theorem findI_none {x : Int} : ∀ (L : List Rb) (i : Int), (∀ b ∈ L, (b.at_ : Int) ≠ x) → findI L x i = -1
  | [], _, _ => rfl
  | b :: L, i, h => by
    unfold findI
    rw [if_neg (h b (by simp))]
    exact findI_none L _ fun c hc => h c (by simp [hc])
theorem findI_some {x : Int} : ∀ (L : List Rb) (i : Int) (b : Rb), b ∈ L → (b.at_ : Int) = x → i ≤ findI L x i
  | [], _, _, hb, _ => by simp at hb
  | c :: L, i, b, hb, e => by
    unfold findI
    split
    · exact Int.le_refl _
    · rename_i hne
      rcases List.mem_cons.1 hb with h | h
      · subst h; exact absurd e hne
      · have := findI_some L (i + 1) b h e
        omega
theorem find_room {A : Nat → Kd} {L : List Rb} (m : Match A L) (x : Nat) (h : roomN A x ≠ 0) : 0 ≤ findI L (x : Int) 0 := by
  obtain ⟨b, hb, e⟩ := m.all x h
  exact findI_some L 0 b hb (by rw [e])
theorem find_noroom {A : Nat → Kd} {L : List Rb} (m : Match A L) (x : Nat) (h : roomN A x = 0) : findI L (x : Int) 0 = -1 := by
  refine findI_none L 0 fun b hb e => ?_
  obtain ⟨h1, h2⟩ := m.room b hb
  have : b.at_ = x := by omega
  rw [this, h] at h1
  exact h2 h1.symm
theorem room_bit {A : Nat → Kd} {s c u j : Nat} (e : A s = .cls c u) (hj : j * 2 ^ (c + 1) < 64) : roomN A (64 * s + j * 2 ^ (c + 1)) = if u.testBit j then 2 ^ (c + 1) else 0 := by
  have hp : 0 < 2 ^ (c + 1) := Nat.pow_pos (by decide)
  unfold roomN
  rw [show (64 * s + j * 2 ^ (c + 1)) / 64 = s by omega, show (64 * s + j * 2 ^ (c + 1)) % 64 = j * 2 ^ (c + 1) by omega, e]
  simp only [roomK]
  rw [Nat.mul_mod_left, Nat.mul_div_cancel _ hp]
  simp
theorem low_eq {u j : Nat} (hu : u < 4294967295) (h1 : ∀ i, i < j → u.testBit i = true) (h2 : u.testBit j = false) : lowP u = j := by
  obtain ⟨a, b, _⟩ := lowP_spec hu
  rcases Nat.lt_trichotomy (lowP u) j with h | h | h
  · rw [h1 _ h] at a; cases a
  · exact h
  · rw [b j h] at h2; cases h2
theorem full_eq {c u : Nat} (hc : c < 6) (hu : u ≤ fullC c) (h : ∀ i, i < 2 ^ (5 - c) → u.testBit i = true) : u = fullC c := by
  apply Classical.byContradiction
  intro hn
  obtain ⟨a, b⟩ := lowP_lt hc hu hn
  have := (lowP_spec a).1
  rw [h _ b] at this; cases this
theorem cK_cls {A : Nat → Kd} {s c : Nat} (e : cK (A s) = ((2 ^ (c + 1) : Nat) : Int)) : ∃ u, A s = .cls c u := by
  have hp : 0 < 2 ^ (c + 1) := Nat.pow_pos (by decide)
  cases ek : A s with
  | free => rw [ek] at e; simp only [cK] at e; omega
  | tail => rw [ek] at e; simp only [cK] at e; omega
  | head k => rw [ek] at e; simp only [cK] at e; omega
  | cls d u =>
    rw [ek] at e; simp only [cK] at e
    have h2 : 2 ^ (d + 1) = 2 ^ (c + 1) := by omega
    have := (Nat.pow_right_inj (by decide)).1 h2
    exact ⟨u, by congr 1; omega⟩
theorem opK_cK {A : Nat → Kd} {s c : Nat} (e : cK (A s) ≠ ((2 ^ (c + 1) : Nat) : Int)) : opK c (A s) = false := by
  cases ek : A s with
  | cls d u =>
    rw [ek] at e
    by_cases h : d = c
    · subst h; exact absurd rfl e
    · simp [opK, h]
  | _ => rfl
theorem opK_full {A : Nat → Kd} {s c : Nat} (e : A s = .cls c (fullC c)) : opK c (A s) = false := by rw [e]; simp [opK]
set_option maxRecDepth 100000 in
set_option maxHeartbeats 4000000 in
theorem Alloc_ref (pb base N : Nat) (z : Int) (L : List Rb) (lv : Value) (A : Nat → Kd) (w : World) (h : RefAt w pb base N L lv) (hb : base ≤ w.heap.size) (hI : Inv N A) (hM : Match A L) (hN1 : 1 ≤ N) (hN : N ≤ 128) (hf : L.length ≤ 5000) :
    Calls Tryd.prog 38 #[.pointer (some ⟨pb, 0, none⟩), .int .i64 z] w fun e w' => (1 ≤ z ∧ z ≤ 16448 ∧ RAllocP w pb base N z.toNat A L e w') ∨ (¬ (1 ≤ z ∧ z ≤ 16448) ∧ e = .returned (.tuple #[.int .i64 0, .bool false]) ∧ Fr (fun _ => False) w w') := by
  by_cases hz : 1 ≤ z ∧ z ≤ 16448
  · obtain ⟨hz1, hz2⟩ := hz
    obtain ⟨m, rfl⟩ : ∃ m : Nat, z = m := ⟨z.toNat, by omega⟩
    by_cases hm : 64 < m
    · have HR := hide (row_ref pb base N m ((m + 63) / 64) L lv A w h hb hI hM hN1 hN hf hm (by omega) rfl)
      rw [show (((m + 63) / 64 : Nat) : Int) = ((m : Int) + 63) / 64 by omega] at HR
      clear h hI hM
      go_enter Tryd.func38, Tryd.ntmps38
      go_wp2_with fail
      refine (unhide HR).mono ?_
      rintro e w1 (⟨a, A', hg, rfl, hA⟩ | ⟨hn, rfl, hF⟩)
      · have HA := hide hA
        have HG := hide hg
        clear hA hg HR
        go_wp2
        go_ret2
        exact .inl ⟨hz1, hz2, .inl ⟨a, A', unhide HG, rfl, unhide HA⟩⟩
      · have HA := hide hn
        have HG := hide hF
        clear hn hF HR
        go_wp2
        go_ret2
        exact .inl ⟨hz1, hz2, .inr ⟨unhide HA, rfl, unhide HG⟩⟩
    · have H := hide h
      have HI := hide hI
      have HM := hide hM
      have h0 : A 0 = .tail := hI.zero
      have H0 := hide h0
      clear h hI hM h0
      go_enter Tryd.func38, Tryd.ntmps38
      go_wp2
      have HP : Hid (∀ e w', RAllocP w pb base N m A L e w' → (1 ≤ (m : Int) ∧ (m : Int) ≤ 16448 ∧ RAllocP w pb base N (m : Int).toNat A L e w') ∨ (¬ (1 ≤ (m : Int) ∧ (m : Int) ≤ 16448) ∧ e = .returned (.tuple #[.int .i64 0, .bool false]) ∧ Fr (fun _ => False) w w')) := hide fun e w' hp => .inl ⟨hz1, hz2, hp⟩
      have HM64 : Hid (m ≤ 64) := hide (by omega)
      clear hz1 hz2 hm
      go_loop [6] (fun t => ∃ r c : Nat, t = .int .i64 r ∧ r ≤ 64 ∧ 2 ≤ r ∧ c ≤ clOf m ∧ Hid (r = 2 ^ (c + 1))) (fun t => 64 - (intOf t).toNat)
      case atStart => exact ⟨2, 0, rfl, by omega, by omega, Nat.zero_le _, hide rfl⟩
      case round =>
        obtain ⟨r, c, rfl, hr1, hr2, hc, hrc⟩ := hrel
        have hc6 : c < 6 := by have := clOf_lt m; omega
        have hcl := clOf_iff m c (unhide HM64) hc6
        rw [← unhide hrc] at hcl
        by_cases hlt : r < m
        · have hc2 := hcl.1 hlt
          have HR2 : Hid (2 * r = 2 ^ (c + 1 + 1)) := hide (by rw [unhide hrc, Nat.pow_succ 2 (c + 1)]; omega)
          have h64 : 2 * r ≤ 64 := by rw [unhide HR2]; exact room_le (by have := clOf_lt m; omega)
          clear hcl
          go_wp2
          go_round
          case rel => exact ⟨2 * r, c + 1, by go_num, by omega, by omega, by omega, HR2⟩
          case measure => simp [intOf]; omega
        · have ec : clOf m = c := by
            have : ¬ c < clOf m := fun x => hlt (hcl.2 x)
            omega
          have HEc := hide ec
          have HQ : Hid (2 ^ (5 - c) * r = 64) := hide (by rw [unhide hrc]; rcases c6 hc6 with rfl | rfl | rfl | rfl | rfl | rfl <;> rfl)
          have HRm : Hid (roomOfM m = r) := hide (by unfold roomOfM; rw [if_pos (unhide HM64), ec, unhide hrc])
          clear hcl ec hc
          go_wp2
          clear hlt
          have HO0 : Hid (∀ t, t < 1 → opK c (A t) = false) := hide fun t ht => by
            obtain rfl : t = 0 := by omega
            rw [unhide H0]; rfl
          go_loopw [4, 5, 7] (fun t4 t5 t7 wr => t4 = .int .i64 0 ∧ t5 = .bool false ∧ ∃ s : Nat, 1 ≤ s ∧ s ≤ N ∧ t7 = .int .i64 s ∧ Hid (∀ t, t < s → opK c (A t) = false) ∧ Hid (Fr (fun _ => False) w wr)) (fun _ _ t7 _ => N - (intOf t7).toNat)
          case atStart => exact ⟨rfl, rfl, 1, by omega, hN1, rfl, HO0, hide (Fr.refl _ _)⟩
          case round =>
            obtain ⟨rfl, rfl, s, hs1, hs2, rfl, hO, hF⟩ := hrel
            have hR := (unhide H).quiet (unhide hF)
            have cN := hR.cN
            by_cases hlt : s < N
            · have HC := hide (Class_any pb base N L lv A s wr hR (unhide HI) (unhide HM) hs1 hlt (by omega))
              clear hR
              by_cases hcl : cK (A s) = (r : Int)
              · obtain ⟨u, hu⟩ := cK_cls (c := c) (by rw [hcl, unhide hrc])
                have HU := hide hu
                rw [hcl] at HC
                clear hcl hu
                go_wp2_with fail
                refine (unhide HC).mono ?_
                rintro e w1 ⟨rfl, hF1⟩
                have HF2 := hide ((unhide hF).trans hF1)
                clear hF1 HC cN
                go_wp2
                go_loop [4, 5, 8] (fun t4 t5 t8 => t4 = .int .i64 0 ∧ t5 = .bool false ∧ ∃ j x : Nat, x ≤ 64 ∧ t8 = .int .i64 (64 * (s : Int) + (x : Int)) ∧ Hid (x = j * r) ∧ Hid (∀ i, i < j → u.testBit i = true)) (fun _ _ t8 => 64 * s + 64 - (intOf t8).toNat)
                case atStart => exact ⟨rfl, rfl, 0, 0, by omega, by simp, hide (by simp), hide (fun i hi => by omega)⟩
                case round =>
                  obtain ⟨rfl, rfl, j, x, hx, rfl, hxj, hbi⟩ := hrel
                  by_cases hx64 : x < 64
                  · have hR1 := (unhide H).quiet (unhide HF2)
                    have HFi := hide (Find_any pb base N L lv (64 * (s : Int) + (x : Int)) w1 hR1)
                    have hrb := room_bit (unhide HU) (j := j) (by rw [← unhide hrc, ← unhide hxj]; exact hx64)
                    rw [← unhide hrc, ← unhide hxj] at hrb
                    cases htb : u.testBit j with
                    | true =>
                      rw [htb, if_pos rfl] at hrb
                      have hfi := find_room (unhide HM) (64 * s + x) (by rw [hrb]; omega)
                      rw [show ((64 * s + x : Nat) : Int) = 64 * (s : Int) + (x : Int) by omega] at hfi
                      have hx2 : x + r ≤ 64 := by
                        have hj : j < 2 ^ (5 - c) := by
                          apply Nat.lt_of_not_le
                          intro hle
                          have := Nat.mul_le_mul_right r hle
                          rw [unhide HQ, ← unhide hxj] at this
                          omega
                        have := Nat.mul_le_mul_right r (show j + 1 ≤ 2 ^ (5 - c) from hj)
                        rw [unhide HQ, Nat.add_mul, ← unhide hxj] at this
                        omega
                      have HX : Hid (x + r = (j + 1) * r) := hide (by rw [Nat.add_mul, ← unhide hxj]; omega)
                      have HBi : Hid (∀ i, i < j + 1 → u.testBit i = true) := hide fun i hi => by
                        by_cases e : i = j
                        · rw [e]; exact htb
                        · exact unhide hbi i (by omega)
                      clear hrb htb hR1 hxj hbi
                      generalize findI L (64 * (s : Int) + (x : Int)) 0 = f at *
                      go_wp2_with fail
                      refine (unhide HFi).mono ?_
                      rintro e w2 ⟨rfl, rfl⟩
                      clear HFi
                      go_wp2
                      go_round
                      case rel => exact ⟨rfl, rfl, j + 1, x + r, by omega, by go_num, HX, HBi⟩
                      case measure => simp [intOf]; omega
                    | false =>
                      rw [htb] at hrb
                      have hfi := find_noroom (unhide HM) (64 * s + x) (by rw [hrb]; rfl)
                      rw [show ((64 * s + x : Nat) : Int) = 64 * (s : Int) + (x : Int) by omega] at hfi
                      rw [hfi] at HFi
                      obtain ⟨_, hu0, hu1⟩ := (unhide HI).cls s c u (unhide HU)
                      have hnf : u ≠ fullC c := fun e => by
                        have hj : j < 2 ^ (5 - c) := by
                          apply Nat.lt_of_not_le
                          intro hle
                          have := Nat.mul_le_mul_right r hle
                          rw [unhide HQ, ← unhide hxj] at this
                          omega
                        rw [e] at htb
                        unfold fullC at htb
                        rw [Nat.testBit_two_pow_sub_one] at htb
                        simp [hj] at htb
                      have hlo := low_eq (lowP_lt hc6 hu1 hnf).1 (unhide hbi) htb
                      have HGo : Hid (∃ A', Goes N A m (64 * s + x) A') := hide (by
                        have := Goes.op (n := N) (A := A) (m := m) s u (unhide HM64) hlt (by rw [unhide HEc]; exact unhide HU) (by rw [unhide HEc]; exact hnf) (by rw [unhide HEc]; exact unhide hO)
                        rw [unhide HEc, hlo, ← unhide hrc, ← unhide hxj, Nat.mul_comm] at this
                        exact ⟨_, this⟩)
                      have hsz := (unhide HF2).size
                      have HA := hide (add_ref pb base N (64 * s + x) r L lv w1 hR1 (by omega) (by omega) hf)
                      rw [show ((64 * s + x : Nat) : Int) = 64 * (s : Int) + (x : Int) by omega] at HA
                      clear hrb htb hR1 hxj hbi hfi hu0 hu1 hnf hlo
                      go_wp2_with fail
                      refine (unhide HFi).mono ?_
                      rintro e w2 ⟨rfl, rfl⟩
                      clear HFi
                      go_wp2_with fail
                      refine (unhide HA).mono ?_
                      intro e w3 hP
                      have he := hP.1
                      subst he
                      have HP3 := hide hP
                      clear hP HA
                      go_wp2
                      go_ret2
                      obtain ⟨A', hgo⟩ := unhide HGo
                      exact unhide HP _ _ (.inl ⟨_, A', hgo, rfl, by rw [unhide HRm]; exact (unhide HP3).pre (unhide HF2)⟩)
                  · have HFu : Hid (opK c (A s) = false) := hide (by
                      obtain ⟨_, hu0, hu1⟩ := (unhide HI).cls s c u (unhide HU)
                      have hjq : 2 ^ (5 - c) ≤ j := by
                        apply Nat.le_of_not_lt
                        intro hle
                        have := Nat.mul_le_mul_right r (show j + 1 ≤ 2 ^ (5 - c) from hle)
                        rw [unhide HQ, Nat.add_mul, ← unhide hxj] at this
                        omega
                      have := full_eq hc6 hu1 fun i hi => unhide hbi i (by omega)
                      exact opK_full (by rw [unhide HU, ← this]))
                    have HO2 : Hid (∀ t, t < s + 1 → opK c (A t) = false) := hide fun t ht => by
                      by_cases e : t = s
                      · rw [e]; exact unhide HFu
                      · exact unhide hO t (by omega)
                    clear hxj hbi
                    go_wp2
                    go_roundw
                    case rel => exact ⟨rfl, rfl, s + 1, by omega, by omega, by go_num, HO2, HF2⟩
                    case measure => simp [intOf]; omega
              · have HO := hide (opK_cK (c := c) (A := A) (s := s) (by rw [← unhide hrc]; exact hcl))
                generalize cK (A s) = zc at *
                go_wp2_with fail
                refine (unhide HC).mono ?_
                rintro e w1 ⟨rfl, hF1⟩
                have HF2 := hide ((unhide hF).trans hF1)
                clear hF1 HC
                go_wp2
                go_roundw
                case rel => exact ⟨rfl, rfl, s + 1, by omega, by omega, by go_num, hide (fun t ht => by
                  by_cases e : t = s
                  · rw [e]; exact unhide HO
                  · exact unhide hO t (by omega)), HF2⟩
                case measure => simp [intOf]; omega
            · have es : s = N := by omega
              subst es
              have HOa : Hid (∀ t, opK c (A t) = false) := hide fun t => by
                by_cases e : t < s
                · exact unhide hO t e
                · exact opK_past (unhide HI) c (by omega)
              have HN0 : Hid (∀ t, t < 1 → A t ≠ .free) := hide fun t ht e => by
                obtain rfl : t = 0 := by omega
                rw [unhide H0] at e; cases e
              clear hR hO
              go_wp2
              go_loopw [4, 5, 9] (fun t4 t5 t9 wr => t4 = .int .i64 0 ∧ t5 = .bool false ∧ ∃ s2 : Nat, 1 ≤ s2 ∧ s2 ≤ s ∧ t9 = .int .i64 s2 ∧ Hid (∀ t, t < s2 → A t ≠ .free) ∧ Hid (Fr (fun _ => False) w wr)) (fun _ _ t9 _ => s - (intOf t9).toNat)
              case atStart => exact ⟨rfl, rfl, 1, by omega, by omega, rfl, HN0, hF⟩
              case round =>
                obtain ⟨rfl, rfl, s2, ht1, ht2, rfl, hO, hF2⟩ := hrel
                have hR := (unhide H).quiet (unhide hF2)
                have cN2 := hR.cN
                by_cases hlt2 : s2 < s
                · have HC := hide (Class_any pb base s L lv A s2 _ hR (unhide HI) (unhide HM) ht1 hlt2 (by omega))
                  clear hR
                  by_cases hfr : A s2 = .free
                  · rw [(cK_zero s2).2 hfr] at HC
                    have HGo : Hid (∃ A', Goes s A m (s2 * 64) A') := hide ⟨_, Goes.free s2 (unhide HM64) hlt2 hfr (unhide hO) (by rw [unhide HEc]; exact unhide HOa)⟩
                    clear hfr
                    go_wp2_with fail
                    refine (unhide HC).mono ?_
                    rintro e w1 ⟨rfl, hF1⟩
                    have hF3 := (unhide hF2).trans hF1
                    have hsz := hF3.size
                    have HA := hide (add_ref pb base s (s2 * 64) r L lv w1 ((unhide H).quiet hF3) (by omega) (by omega) hf)
                    rw [show ((s2 * 64 : Nat) : Int) = 64 * (s2 : Int) by omega] at HA
                    have HF3 := hide hF3
                    clear hF1 hF3 HC
                    go_wp2_with fail
                    refine (unhide HA).mono ?_
                    intro e w3 hP
                    have he := hP.1
                    subst he
                    have HP3 := hide hP
                    clear hP HA
                    go_wp2
                    go_ret2
                    obtain ⟨A', hgo⟩ := unhide HGo
                    exact unhide HP _ _ (.inl ⟨_, A', hgo, rfl, by rw [unhide HRm]; exact (unhide HP3).pre (unhide HF3)⟩)
                  · have hne : cK (A s2) ≠ 0 := fun e => hfr ((cK_zero s2).1 e)
                    have HO2 : Hid (∀ t, t < s2 + 1 → A t ≠ .free) := hide fun t ht => by
                      by_cases e : t = s2
                      · rw [e]; exact hfr
                      · exact unhide hO t (by omega)
                    clear hfr
                    generalize cK (A s2) = zc at *
                    go_wp2_with fail
                    refine (unhide HC).mono ?_
                    rintro e w1 ⟨rfl, hF1⟩
                    have HF3 := hide ((unhide hF2).trans hF1)
                    clear hF1 HC
                    go_wp2
                    go_roundw
                    case rel => exact ⟨rfl, rfl, s2 + 1, by omega, by omega, by go_num, HO2, HF3⟩
                    case measure => simp [intOf]; omega
                · have es : s2 = s := by omega
                  subst es
                  have HNo : Hid (NoPlace s2 A m) := hide (.inl ⟨unhide HM64, by rw [unhide HEc]; exact unhide HOa, fun t e => unhide hO t (free_pos (unhide HI) e).2 e⟩)
                  clear hR
                  go_wp2
                  go_ret2
                  exact unhide HP _ _ (.inr ⟨unhide HNo, rfl, unhide hF2⟩)
  · have hd : z < 1 ∨ (1 ≤ z ∧ 16448 < z) := by omega
    have HZ := hide hz
    clear h hI hM hz
    rcases hd with hd | ⟨hd1, hd⟩
    · go_enter Tryd.func38, Tryd.ntmps38
      go_wp2
      go_ret2
      exact .inr ⟨unhide HZ, rfl, Fr.refl _ _⟩
    · go_enter Tryd.func38, Tryd.ntmps38
      go_wp2
      go_ret2
      exact .inr ⟨unhide HZ, rfl, Fr.refl _ _⟩
end Go.Proofs.YtjblmincldaklaaDoor
