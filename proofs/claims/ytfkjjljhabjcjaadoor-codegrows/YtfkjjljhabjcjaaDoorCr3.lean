/- The reader: sizes. -/
import Derived.Test.YtfkjjljhabjcjaaDoorCr2
import Derived.Laws.ShiftsVarLaws
namespace Go.Proofs.YtfkjjljhabjcjaaDoor
open Go.RowKit Go.Proofs.YtfkjjljhabjcjaaDoor.Cx
theorem size_ret {b : List UInt8} {i k m : Nat} {c : UInt8} (hm : m < 128 ^ k) (hA : At b i (pre k m)) (hc : b[i + k]? = some c) (hx : c.toNat < 128) (h0 : k = 0 ∨ 0 < c.toNat) :
    At b i (sz (m + c.toNat * 128 ^ k)) ∧ (sz (m + c.toNat * 128 ^ k)).length = k + 1 := by
  rw [sz_pre k m c.toNat hm h0, sz_lt hx]
  refine ⟨At.app.2 ⟨hA, ?_⟩, by simp [pre_len]⟩
  rw [pre_len]
  refine At.one.2 ?_
  rw [hc]
  congr 1
  exact UInt8.toNat_inj.1 (by rw [ofNat_toNat (by omega)])
theorem size_bad {b : List UInt8} {i k m : Nat} (hm : m < 128 ^ k) (hA : At b i (pre k m)) (h : ∀ c, b[i + k]? = some c → (0 < k ∧ c.toNat = 0) ∨ (k = 9 ∧ 1 < c.toNat)) : ∀ N, okS N → ¬ At b i (sz N) := by
  intro N hN ha
  obtain ⟨M, e1, e2, e3⟩ := sz_split k m N b i hm hA ha
  obtain ⟨c, h1, h2, h3⟩ := sz_head e3
  rcases h c h1 with ⟨h4, h5⟩ | ⟨rfl, h5⟩
  · have := h2 (UInt8.toNat_inj.1 h5)
    omega
  · unfold okS at hN
    have hM : M < 2 := by
      rcases Nat.lt_or_ge M 2 with h6 | h6
      · exact h6
      · have : 2 * 128 ^ 9 ≤ M * 128 ^ 9 := Nat.mul_le_mul_right _ h6
        have e9 : 2 * 128 ^ 9 = 18446744073709551616 := by decide
        omega
    have := h3 (by omega)
    omega
theorem pow7_9 {k : Nat} (hk : k ≤ 9) : 128 ^ k ≤ 9223372036854775808 := by
  have : 128 ^ k ≤ 128 ^ 9 := Nat.pow_le_pow_right (by decide) hk
  have e9 : 128 ^ 9 = 9223372036854775808 := by decide
  omega
theorem fits7 {k m x : Nat} (hk : k ≤ 9) (hm : m < 128 ^ k) (hx : x < 128) (h9 : k = 9 → x ≤ 1) : m + x * 128 ^ k < 18446744073709551616 := by
  by_cases e : k = 9
  · subst e
    have := h9 rfl
    have e9 : 128 ^ 9 = 9223372036854775808 := by decide
    have : x * 128 ^ 9 ≤ 1 * 128 ^ 9 := Nat.mul_le_mul_right _ this
    omega
  · have h8 : 128 ^ k ≤ 128 ^ 8 := Nat.pow_le_pow_right (by decide) (by omega)
    have e8 : 128 ^ 8 = 72057594037927936 := by decide
    have : x * 128 ^ k ≤ 127 * 128 ^ k := Nat.mul_le_mul_right _ (by omega)
    omega
theorem or7 {k m x : Nat} (hk : k ≤ 9) (hm : m < 128 ^ k) (hx : x < 128) (h9 : k = 9 → x ≤ 1) : bits .or .u64 (m : Int) (IntKind.u64.wrap ((x : Int) * 2 ^ (7 * k))) = ((m + x * 128 ^ k : Nat) : Int) := by
  have hf := fits7 hk hm hx h9
  have e2 : (2 : Int) ^ (7 * k) = ((128 ^ k : Nat) : Int) := by
    rw [show (128 : Nat) = 2 ^ 7 from rfl, ← Nat.pow_mul]; simp
  have e3 : IntKind.u64.wrap ((x : Int) * 2 ^ (7 * k)) = ((x * 128 ^ k : Nat) : Int) := by
    rw [e2, ← Int.natCast_mul, IntKind.wrap_u64]; omega
  rw [e3, bits_or_u64_nat _ _ (by omega) (by omega), Nat.or_comm]
  congr 1
  have := Nat.two_pow_add_eq_or_of_lt (i := 7 * k) (b := m) (by rw [Nat.pow_mul]; exact hm) x
  rw [Nat.pow_mul, show (2 : Nat) ^ 7 = 128 from rfl] at this
  rw [Nat.mul_comm x, ← this]; omega
theorem mod7 (x : Nat) : ((x : Int) % 128) = ((x % 128 : Nat) : Int) := by simp
set_option maxRecDepth 100000 in
set_option maxHeartbeats 2000000 in
theorem size_r (pe pf : Addr) (rp lo : Nat) (b : List UInt8) (a : Option Addr) (cap : Nat) (st : Option Nat) (w : World) (h : Rd pe pf w rp lo b a cap st) :
    Calls Tryd.prog 39 #[.pointer (some ⟨rp, 0, none⟩)] w fun e w' => ∃ x : Nat, x < 18446744073709551616 ∧ e = .returned (.int .u64 x) ∧ RdP pe pf rp lo b a cap st sz okS (fun _ y => y = x) w w' := by
  have H := hide h
  clear h
  go_enter Tryd.func39, Tryd.ntmps39
  go_wp2
  go_loopw [3, 4] (fun n t wr => ∃ k m : Nat, k ≤ 9 ∧ Hid (m < 128 ^ k) ∧ n = .int .u64 m ∧ t = .int .i64 ((7 * k : Nat) : Int) ∧ Hid (Fr (· = rp) w wr ∧ ((st = none ∧ k = 0 ∧ Rd pe pf wr rp lo b a cap none) ∨ ∃ i, st = some i ∧ Rd pe pf wr rp lo b a cap (some (i + k)) ∧ At b i (pre k m)))) (fun _ t _ => 70 - (intOf t).toNat)
  case atStart =>
    refine ⟨0, 0, by decide, hide (by decide), rfl, rfl, hide ⟨Fr.refl _ _, ?_⟩⟩
    cases st with
    | none => exact .inl ⟨rfl, rfl, unhide H⟩
    | some i => exact .inr ⟨i, rfl, unhide H, At.nil _ _⟩
  case round =>
    obtain ⟨k, m, hk, hm, rfl, rfl, hI⟩ := hrel
    obtain ⟨hF, hI2⟩ := unhide hI
    rcases hI2 with ⟨rfl, rfl, hR⟩ | ⟨i, rfl, hR, hA⟩
    · have HO := hide (octet_r pe pf rp lo b a cap none wr hR)
      have HF := hide hF
      obtain rfl : m = 0 := by have := unhide hm; simpa using this
      clear hR hF hI H
      go_wp2_with fail
      refine (unhide HO).mono ?_
      rintro e w1 ⟨hF1, ⟨i, c, he, _⟩ | ⟨rfl, hR, hE⟩⟩
      · cases he
      · have HX : Hid (RdP pe pf rp lo b a cap none sz okS (fun _ y => y = 0) w w1) := hide ⟨(unhide HF).trans hF1, none, hR, trivial⟩
        clear hF1 hR hE HO HF
        go_wp2
        go_ret
        refine ⟨0, by decide, rfl, unhide HX⟩
    · have HO := hide (octet_r pe pf rp lo b a cap (some (i + k)) wr hR)
      have HF := hide hF
      have HA := hide hA
      clear hR hF hI H hA
      go_wp2_with fail
      refine (unhide HO).mono ?_
      rintro e w1 ⟨hF1, ⟨i', c, he, hc, rfl, hR⟩ | ⟨rfl, hR, hE⟩⟩
      · obtain rfl : i' = i + k := (Option.some.inj he).symm
        have hc256 : c.toNat < 256 := c.toNat_lt
        have HR := hide hR
        have HF1 := hide hF1
        have v1 := hR.vars.v1
        have HBad : Hid ((0 < k ∧ c.toNat = 0) ∨ (k = 9 ∧ 1 < c.toNat) → ∀ N, okS N → ¬ At b i (sz N)) := hide fun hb => size_bad (unhide hm) (unhide HA) fun c' hc' => by
          obtain rfl := Option.some.inj (hc.symm.trans hc'); exact hb
        have HRet : Hid (c.toNat < 128 → (k = 0 ∨ 0 < c.toNat) → (k = 9 → c.toNat ≤ 1) → ∀ V : Int, V = bits .or .u64 (m : Int) (IntKind.u64.wrap (((c.toNat : Int) % 128) * 2 ^ (7 * k))) → ∃ x' : Nat, x' < 18446744073709551616 ∧ Ending.returned (.int .u64 V) = .returned (.int .u64 x') ∧ RdP pe pf rp lo b a cap (some i) sz okS (fun _ y => y = x') w w1) := hide fun h1 h2 h3 V hV => by
          rw [mod7, Nat.mod_eq_of_lt h1] at hV
          have h4 := size_ret (unhide hm) (unhide HA) hc h1 h2
          refine ⟨m + c.toNat * 128 ^ k, fits7 hk (unhide hm) h1 h3, ret_int (hV.trans (or7 hk (unhide hm) h1 h3)), (unhide HF).trans (unhide HF1), some (i + k + 1), unhide HR, _, fits7 hk (unhide hm) h1 h3, h4.1, ?_, rfl⟩
          rw [h4.2]; omega
        have HNx : Hid (128 ≤ c.toNat → k < 9 → ∀ V : Int, V = bits .or .u64 (m : Int) (IntKind.u64.wrap (((c.toNat : Int) % 128) * 2 ^ (7 * k))) → ∃ m' : Nat, V = (m' : Int) ∧ Hid (m' < 128 ^ (k + 1)) ∧ Hid (Fr (· = rp) w w1 ∧ ((some i = none ∧ k + 1 = 0 ∧ Rd pe pf w1 rp lo b a cap none) ∨ ∃ i', some i = some i' ∧ Rd pe pf w1 rp lo b a cap (some (i' + (k + 1))) ∧ At b i' (pre (k + 1) m')))) := hide fun h1 h2 V hV => by
          rw [mod7] at hV
          have hmm := unhide hm
          have hx : c.toNat % 128 < 128 := by omega
          refine ⟨m + (c.toNat % 128) * 128 ^ k, hV.trans (or7 hk hmm hx (by omega)), hide ?_, hide ⟨(unhide HF).trans (unhide HF1), .inr ⟨i, rfl, unhide HR, ?_⟩⟩⟩
          · have : (c.toNat % 128) * 128 ^ k ≤ 127 * 128 ^ k := Nat.mul_le_mul_right _ (by omega)
            rw [pow7]; omega
          · rw [pre_snoc k m _ hmm hx]
            refine At.app.2 ⟨unhide HA, ?_⟩
            rw [pre_len]
            refine At.one.2 ?_
            rw [hc]
            congr 1
            refine UInt8.toNat_inj.1 ?_
            rw [ofNat_toNat (by omega)]; omega
        have HFl := hide (fail_r pe pf pf rp lo b a cap (some (i + k + 1)) w1 hR)
        have HFF := hide ((unhide HF).trans hF1)
        clear hR hF1 hc HR HF1 HF HO HA he hm
        generalize c.toNat = x at *
        by_cases hk0 : k = 0
        · by_cases hx : x < 128
          · have d1 : ¬ (0 : Int) < 7 * (k : Int) := by omega
            have d2 : (7 * (k : Int) == 63) = false := by simp; omega
            have HK := hide hk0
            clear hk0
            have d5 : (x : Int) < 128 := by omega
            go_wp2
            go_ret
            exact unhide HRet (by omega) (.inl (unhide HK)) (by omega) _ rfl
          · have d1 : ¬ (0 : Int) < 7 * (k : Int) := by omega
            have d2 : (7 * (k : Int) == 63) = false := by simp; omega
            have HK := hide hk0
            clear hk0
            have d5 : ¬ (x : Int) < 128 := by omega
            go_wp2
            obtain ⟨m', e1, e2, e3⟩ := unhide HNx (by omega) (by omega) _ rfl
            rw [e1]
            go_roundw
            case rel => exact ⟨k + 1, m', by omega, e2, rfl, by first | rfl | (congr 1; omega), e3⟩
            case measure => simp [intOf]; omega
        · by_cases hx0 : x = 0
          · have d1 : (0 : Int) < 7 * (k : Int) := by omega
            have d3 : ((x : Int) == 0) = true := by simp; omega
            go_wp2_with fail
            refine (unhide HFl).mono ?_
            rintro e w2 ⟨rfl, hR2, hF2, _⟩
            have HE : Hid (∃ x' : Nat, x' < 18446744073709551616 ∧ Ending.returned (.int .u64 (0 : Int)) = .returned (.int .u64 x') ∧ RdP pe pf rp lo b a cap (some i) sz okS (fun _ y => y = x') w w2) := hide ⟨0, by decide, rfl, (unhide HFF).trans hF2, none, hR2, unhide HBad (by omega)⟩
            clear hR2 hF2 HFl
            go_wp2
            go_ret
            exact unhide HE
          · by_cases hk9 : k = 9
            · by_cases hx1 : x = 1
              · have d1 : (0 : Int) < 7 * (k : Int) := by omega
                have d2 : (7 * (k : Int) == 63) = true := by simp; omega
                have d3 : ((x : Int) == 0) = false := by simp; omega
                have d4 : ¬ (1 : Int) < (x : Int) := by omega
                have d5 : (x : Int) < 128 := by omega
                have HV := hide (unhide HRet (by omega) (by omega) (by omega) _ rfl)
                have HK := hide hk9
                have HX1 := hide hx1
                clear hk9 hx1
                go_wp2
                go_ret
                exact unhide HV
              · have d1 : (0 : Int) < 7 * (k : Int) := by omega
                have d2 : (7 * (k : Int) == 63) = true := by simp; omega
                have d3 : ((x : Int) == 0) = false := by simp; omega
                have d4 : (1 : Int) < (x : Int) := by omega
                go_wp2_with fail
                refine (unhide HFl).mono ?_
                rintro e w2 ⟨rfl, hR2, hF2, _⟩
                have HE : Hid (∃ x' : Nat, x' < 18446744073709551616 ∧ Ending.returned (.int .u64 (0 : Int)) = .returned (.int .u64 x') ∧ RdP pe pf rp lo b a cap (some i) sz okS (fun _ y => y = x') w w2) := hide ⟨0, by decide, rfl, (unhide HFF).trans hF2, none, hR2, unhide HBad (by omega)⟩
                clear hR2 hF2 HFl
                go_wp2
                go_ret
                exact unhide HE
            · by_cases hx : x < 128
              · have d1 : (0 : Int) < 7 * (k : Int) := by omega
                have d2 : (7 * (k : Int) == 63) = false := by simp; omega
                have d3 : ((x : Int) == 0) = false := by simp; omega
                have d5 : (x : Int) < 128 := by omega
                go_wp2
                go_ret
                exact unhide HRet (by omega) (by omega) (by omega) _ rfl
              · have d1 : (0 : Int) < 7 * (k : Int) := by omega
                have d2 : (7 * (k : Int) == 63) = false := by simp; omega
                have d3 : ((x : Int) == 0) = false := by simp; omega
                have d5 : ¬ (x : Int) < 128 := by omega
                go_wp2
                obtain ⟨m', e1, e2, e3⟩ := unhide HNx (by omega) (by omega) _ rfl
                rw [e1]
                go_roundw
                case rel => exact ⟨k + 1, m', by omega, e2, rfl, by first | rfl | (congr 1; omega), e3⟩
                case measure => simp [intOf]; omega
      · have HBad := hide (size_bad (unhide hm) (unhide HA) fun c' hc' => by rw [(hE _ rfl).1] at hc'; cases hc')
        have HFF := hide ((unhide HF).trans hF1)
        have v1 := hR.vars.v1
        have HFl := hide (fail_r pe pf pf rp lo b a cap none w1 hR)
        have HRR := hide hR
        have HM := hm
        clear hR hF1 hE HO HF HA hm
        by_cases hk0 : 0 < k
        · have d1 : (0 : Int) < 7 * (k : Int) := by omega
          go_wp2_with fail
          refine (unhide HFl).mono ?_
          rintro e w2 ⟨rfl, hR2, hF2, _⟩
          have HE : Hid (∃ x' : Nat, x' < 18446744073709551616 ∧ Ending.returned (.int .u64 (0 : Int)) = .returned (.int .u64 x') ∧ RdP pe pf rp lo b a cap (some i) sz okS (fun _ y => y = x') w w2) := hide ⟨0, by decide, rfl, (unhide HFF).trans hF2, none, hR2, unhide HBad⟩
          clear hR2 hF2 HFl
          go_wp2
          go_ret
          exact unhide HE
        · have d1 : ¬ (0 : Int) < 7 * (k : Int) := by omega
          have d2 : (7 * (k : Int) == 63) = false := by simp; omega
          obtain rfl : m = 0 := by
            have := unhide HM
            rw [show k = 0 by omega] at this
            simpa using this
          go_wp2
          go_ret
          exact ⟨0, by decide, ret_int (by decide), unhide HFF, none, unhide HRR, unhide HBad⟩
end Go.Proofs.YtfkjjljhabjcjaaDoor
