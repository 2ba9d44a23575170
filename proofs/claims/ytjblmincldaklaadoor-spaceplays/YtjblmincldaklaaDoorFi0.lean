/- The answer by definition: what may be a reference, what is in a list. -/
import Derived.Test.YtjblmincldaklaaDoorLq
namespace Go.Proofs.YtjblmincldaklaaDoor
open Go.RowKit Go.Proofs.YtjblmincldaklaaDoor.Hp
set_option maxRecDepth 100000 in
set_option maxHeartbeats 1000000 in
theorem hasL_any (w : World) (ao : Option Addr) (cp : Nat) (zs : List Int) (x : Int) (hm : zs.length ≤ maxLen) (hc : ∀ j, j < zs.length → ∃ b off, ao = some ⟨b, off, none⟩ ∧ b < w.heap.size ∧ w.cell? ⟨b, off + j, none⟩ = some (.int .i64 (zs.getD j 0))) :
    Calls Tryd.prog 53 #[.slice ao zs.length cp, .int .i64 x] w fun e w' => e = .returned (.bool (decide (x ∈ zs))) ∧ w' = w := by
  unfold maxLen at hm
  have HC := hide hc
  obtain ⟨n, hn⟩ : ∃ n, n = zs.length := ⟨_, rfl⟩
  rw [← hn] at hm ⊢
  have HN := hide hn
  clear hc hn
  go_enter Tryd.func53, Tryd.ntmps53
  go_wp2
  go_loopw [5] (fun i wr => ∃ k : Nat, k ≤ n ∧ i = .int .i64 k ∧ w = wr ∧ Hid (x ∉ zs.take k)) (fun i _ => n - (intOf i).toNat)
  case atStart => exact ⟨0, by omega, rfl, rfl, hide (by simp)⟩
  case round =>
    obtain ⟨k, hk, rfl, rfl, hno⟩ := hrel
    by_cases hlt : k < n
    · have hkz : k < zs.length := by have := unhide HN; omega
      obtain ⟨b, off, hab, hb1, cz⟩ := unhide HC k hkz
      subst hab
      obtain ⟨z, hz⟩ : ∃ z, z = zs.getD k 0 := ⟨_, rfl⟩
      rw [← hz] at cz
      have hz2 : z = zs[k] := by rw [hz]; simp [List.getD, hkz]
      by_cases hxz : z = x
      · have HY : Hid (decide (x ∈ zs) = true) := hide (by rw [← hxz, hz2]; simp)
        subst hxz
        clear hz hz2 hkz
        go_wp2
        go_ret
        exact ⟨ret_bool (unhide HY).symm, rfl⟩
      · have HNo : Hid (x ∉ zs.take (k + 1)) := hide (by
          rw [List.take_succ_eq_append_getElem hkz, List.mem_append]
          rintro (h | h)
          · exact unhide hno h
          · rw [← hz2] at h; simp at h; exact hxz h.symm)
        have hb0 : (z == x) = false := by simpa using hxz
        clear hz hz2 hkz hno
        go_wp2
        go_roundw
        case rel => exact ⟨k + 1, by omega, by go_num, trivial, HNo⟩
        case measure => simp [intOf]; omega
    · have e : k = n := by omega
      subst e
      have HY : Hid (decide (x ∈ zs) = false) := hide (by have := unhide hno; rw [unhide HN, List.take_length] at this; simp [this])
      go_wp2
      go_ret
      exact ⟨ret_bool (unhide HY).symm, rfl⟩
/-- May the word k be a reference? -/
def mayB (kd sz ms : Int) (k : Nat) : Bool := decide ((k : Int) < sz) && tellsB kd ms k
theorem may_none (kd ms : Int) (k : Nat) (h2 : kd ≠ 2) (h3 : kd ≠ 3) (h4 : kd ≠ 4) : tellsB kd ms k = false := by
  unfold tellsB
  simp [h2, h3, h4]
set_option maxRecDepth 100000 in
set_option maxHeartbeats 1000000 in
theorem may_any (at_ kd sz ms : Int) (wa : Option Addr) (wn wc : Nat) (k : Nat) (w : World) (hk : k ≤ 100000) (hm : kd = 4 → 0 ≤ ms ∧ ms ≤ 65535) :
    Calls Tryd.prog 64 #[.agg #[.int .i64 at_, .int .i64 kd, .int .i64 sz, .int .i64 ms, .slice wa wn wc], .int .i64 k] w fun e w' => e = .returned (.bool (mayB kd sz ms k)) ∧ Fr (fun _ => False) w w' := by
  have HF : Hid (∀ o, Fr (fun _ => False) w (w.alloc o)) := hide fun o => (Fr.refl _ w).alloc o
  by_cases hs : (k : Int) < sz
  · have HE : Hid (mayB kd sz ms k = tellsB kd ms k) := hide (by unfold mayB; rw [decide_eq_true hs, Bool.true_and])
    by_cases h2 : kd = 2
    · subst h2
      have HY : Hid (mayB 2 sz ms k = true) := hide (by rw [unhide HE]; rfl)
      clear hm
      go_enter Tryd.func64, Tryd.ntmps64
      go_wp2
      go_ret
      exact ⟨ret_bool (unhide HY).symm, unhide HF _⟩
    · by_cases h3 : kd = 3
      · subst h3
        have HY : Hid (mayB 3 sz ms k = decide (ms ≤ (k : Int))) := hide (by rw [unhide HE]; unfold tellsB; simp)
        clear hm
        go_enter Tryd.func64, Tryd.ntmps64
        go_wp2
        go_ret
        exact ⟨ret_bool (unhide HY).symm, unhide HF _⟩
      · by_cases h4 : kd = 4
        · subst h4
          have hms := hm rfl
          have HY : Hid (mayB 4 sz ms k = decide (ms / 2 ^ k % 2 = 1)) := hide (by rw [unhide HE]; unfold tellsB; simp)
          clear hm HE
          go_enter Tryd.func64, Tryd.ntmps64
          go_wp2
          go_loopw [5, 6] (fun b i wr => ∃ t : Nat, t ≤ k ∧ i = .int .i64 t ∧ ∃ v : Int, b = .int .i64 v ∧ 0 ≤ v ∧ v ≤ 65535 ∧ Hid (v = ms / 2 ^ t) ∧ Hid (Fr (fun _ => False) w wr)) (fun _ i _ => k - (intOf i).toNat)
          case atStart => exact ⟨0, by omega, rfl, ms, rfl, by omega, by omega, hide (by simp), hide (unhide HF _)⟩
          case round =>
            obtain ⟨t, ht, rfl, v, rfl, hv0, hv1, hv, hFr⟩ := hrel
            by_cases hlt : t < k
            · have hq : v.tdiv 2 = v / 2 := Int.tdiv_eq_ediv_of_nonneg hv0
              have hw : IntKind.i64.wrap (v / 2) = v / 2 := by rw [Go.IntKind.wrap_i64]; omega
              have HV : Hid (v / 2 = ms / 2 ^ (t + 1)) := hide (by rw [unhide hv, Int.pow_succ, Int.ediv_ediv_of_nonneg (Int.pow_nonneg (by decide))])
              go_wp2
              go_roundw
              case rel => exact ⟨t + 1, by omega, by go_num, v / 2, rfl, by omega, by omega, HV, hFr⟩
              case measure => simp [intOf]; omega
            · have e : t = k := by omega
              subst e
              have hq : v.tmod 2 = v % 2 := Int.tmod_eq_emod_of_nonneg hv0
              have hw : IntKind.i64.wrap (v % 2) = v % 2 := by rw [Go.IntKind.wrap_i64]; omega
              have HY2 : Hid (mayB 4 sz ms t = decide (v % 2 = 1)) := hide (by rw [unhide HY, unhide hv])
              go_wp2
              go_ret
              exact ⟨ret_bool (by rw [unhide HY2]; first | rfl | (by_cases h : v % 2 = 1 <;> simp [h])), unhide hFr⟩
        · have HY : Hid (mayB kd sz ms k = false) := hide (by rw [unhide HE]; exact may_none kd ms k h2 h3 h4)
          have d2 : (kd == 2) = false := by simpa using h2
          have d3 : (kd == 3) = false := by simpa using h3
          have d4 : (kd == 4) = false := by simpa using h4
          clear hm HE h2 h3 h4
          go_enter Tryd.func64, Tryd.ntmps64
          go_wp2
          go_ret
          exact ⟨ret_bool (unhide HY).symm, unhide HF _⟩
  · have HY : Hid (mayB kd sz ms k = false) := hide (by unfold mayB; rw [decide_eq_false hs]; rfl)
    have hs2 : sz ≤ k := by omega
    clear hm hs
    go_enter Tryd.func64, Tryd.ntmps64
    go_wp2
    go_ret
    exact ⟨ret_bool (unhide HY).symm, unhide HF _⟩
end Go.Proofs.YtjblmincldaklaaDoor
