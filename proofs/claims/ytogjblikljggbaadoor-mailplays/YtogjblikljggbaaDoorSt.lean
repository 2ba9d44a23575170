/- The contracts of the sets of spans: add, remove, has, least. -/
import Derived.Test.YtogjblikljggbaaDoorHpM
namespace Go.Proofs.YtogjblikljggbaaDoor
open Go.RowKit Go.Proofs.YtogjblikljggbaaDoor.Hp
set_option maxHeartbeats 1000000 in
theorem add_core (b m s v : Nat) (v' : Int) (w : World) (hm : m ≤ 1000) (hs : s < 64 * m) (hc : w.cell? ⟨b, s / 64, none⟩ = some (.int .u64 v)) (hf : w.frozen? ⟨b, s / 64, none⟩ = false)
    (hv : bits .or .u64 (v : Int) (IntKind.u64.wrap (2 ^ (s % 64))) = v') :
    Calls Tryd.prog 38 #[.slice (some ⟨b, 0, none⟩) m m, .int .i64 s] w fun e w' => e = .returned (.tuple #[]) ∧ w' = (w.setCell ⟨b, s / 64, none⟩ (.int .u64 v')).drew := by
  have HV := hide hv
  clear hv
  go_enter Tryd.func38, Tryd.ntmps38
  go_wp2
  go_region
  all_goals (try go_wp2)
  all_goals (go_end0; exact ⟨rfl, by rw [unhide HV]⟩)
theorem add_any (b m s : Nat) (S : Nat → Bool) (w : World) (hm : m ≤ 1000) (hs : s < 64 * m) (h : SetAt w b m S) :
    Calls Tryd.prog 38 #[.slice (some ⟨b, 0, none⟩) m m, .int .i64 s] w fun e w' => e = .returned (.tuple #[]) ∧ SetAt w' b m (upd S s true) ∧ Fr (· = b) w w' := by
  have hc := h (s / 64) (by omega)
  refine (add_core b m s _ _ w hm hs hc.1 hc.2 (set_or S s)).mono ?_
  rintro e w' ⟨rfl, rfl⟩
  exact ⟨rfl, (h.upd s true hs).same rfl, ((Fr.refl (· = b) w).setCell (p := ⟨b, s / 64, none⟩) rfl _).drew⟩
set_option maxHeartbeats 1000000 in
theorem remove_core (b m s v : Nat) (v' : Int) (w : World) (hm : m ≤ 1000) (hs : s < 64 * m) (hc : w.cell? ⟨b, s / 64, none⟩ = some (.int .u64 v)) (hf : w.frozen? ⟨b, s / 64, none⟩ = false)
    (hv : bits .andNot .u64 (v : Int) (IntKind.u64.wrap (2 ^ (s % 64))) = v') :
    Calls Tryd.prog 62 #[.slice (some ⟨b, 0, none⟩) m m, .int .i64 s] w fun e w' => e = .returned (.tuple #[]) ∧ w' = (w.setCell ⟨b, s / 64, none⟩ (.int .u64 v')).drew := by
  have HV := hide hv
  clear hv
  go_enter Tryd.func62, Tryd.ntmps62
  go_wp2
  go_region
  all_goals (try go_wp2)
  all_goals (go_end0; exact ⟨rfl, by rw [unhide HV]⟩)
theorem remove_any (b m s : Nat) (S : Nat → Bool) (w : World) (hm : m ≤ 1000) (hs : s < 64 * m) (h : SetAt w b m S) :
    Calls Tryd.prog 62 #[.slice (some ⟨b, 0, none⟩) m m, .int .i64 s] w fun e w' => e = .returned (.tuple #[]) ∧ SetAt w' b m (upd S s false) ∧ Fr (· = b) w w' := by
  have hc := h (s / 64) (by omega)
  refine (remove_core b m s _ _ w hm hs hc.1 hc.2 (set_andNot S s)).mono ?_
  rintro e w' ⟨rfl, rfl⟩
  exact ⟨rfl, (h.upd s false hs).same rfl, ((Fr.refl (· = b) w).setCell (p := ⟨b, s / 64, none⟩) rfl _).drew⟩
theorem set_has (S : Nat → Bool) (s : Nat) : (bits BinOp.and IntKind.u64 (((wordN (fun j => S (64 * (s / 64) + j)) 64 : Nat) : Int) / 2 ^ (s % 64)) 1 == 1) = S s := by
  have e : (((wordN (fun j => S (64 * (s / 64) + j)) 64 : Nat) : Int) / 2 ^ (s % 64)) = ((wordN (fun j => S (64 * (s / 64) + j)) 64 / 2 ^ (s % 64) : Nat) : Int) := by simp
  have hl := wordN_lt (fun j => S (64 * (s / 64) + j)) 64
  have hs := wordN_shr (fun j => S (64 * (s / 64) + j)) 64 (s % 64) (by omega)
  simp only [show 64 * (s / 64) + s % 64 = s by omega] at hs
  rw [e, show (1 : Int) = ((1 : Nat) : Int) from rfl, u64_and_nat _ _ (Nat.lt_of_le_of_lt (Nat.div_le_self _ _) hl) (by decide), nat_mask1, hs]
  cases S s <;> rfl
set_option maxHeartbeats 1000000 in
theorem has_core (b m s v : Nat) (r : Bool) (w : World) (hm : m ≤ 1000) (hs : s < 64 * m) (hc : w.cell? ⟨b, s / 64, none⟩ = some (.int .u64 v))
    (hr : (bits BinOp.and IntKind.u64 ((v : Int) / 2 ^ (s % 64)) 1 == 1) = r) :
    Calls Tryd.prog 63 #[.slice (some ⟨b, 0, none⟩) m m, .int .i64 s] w fun e w' => e = .returned (.bool r) ∧ w' = w := by
  have HR := hide hr
  clear hr
  go_enter Tryd.func63, Tryd.ntmps63
  go_wp2
  go_ret
  exact ⟨ret_bool (unhide HR), rfl⟩
theorem has_any (b m s : Nat) (S : Nat → Bool) (w : World) (hm : m ≤ 1000) (hs : s < 64 * m) (h : SetAt w b m S) :
    Calls Tryd.prog 63 #[.slice (some ⟨b, 0, none⟩) m m, .int .i64 s] w fun e w' => e = .returned (.bool (S s)) ∧ w' = w :=
  has_core b m s _ _ w hm hs (h (s / 64) (by omega)).1 (set_has S s)
theorem ret_two {a b c d : Value} (h1 : a = c) (h2 : b = d) : Ending.returned (.tuple #[a, b]) = .returned (.tuple #[c, d]) := by rw [h1, h2]
theorem val_int {k : IntKind} {a b : Int} (h : a = b) : Value.int k a = .int k b := by rw [h]
set_option maxHeartbeats 1000000 in
theorem least_any (b m : Nat) (S : Nat → Bool) (w : World) (hm : m ≤ 1000) (h : SetAt w b m S) (hV : Vars w) :
    Calls Tryd.prog 58 #[.slice (some ⟨b, 0, none⟩) m m] w fun e w' => w' = w ∧ ((∃ s : Nat, s < 64 * m ∧ S s = true ∧ (∀ t, t < s → S t = false) ∧ e = .returned (.tuple #[.int .i64 s, .bool true])) ∨ ((∀ t, t < 64 * m → S t = false) ∧ e = .returned (.tuple #[.int .i64 0, .bool false]))) := by
  have H := hide h
  have HV := hide hV
  clear h hV
  go_enter Tryd.func58, Tryd.ntmps58
  go_wp2
  go_loop [8] (fun t => ∃ i : Nat, i ≤ m ∧ t = .int .i64 i ∧ Hid (∀ s, s < 64 * i → S s = false)) (fun t => m - (intOf t).toNat)
  case atStart => exact ⟨0, Nat.zero_le _, rfl, hide fun s hs => by omega⟩
  case round =>
    obtain ⟨i, hi, rfl, hr⟩ := hrel
    by_cases hlt : i < m
    · obtain ⟨v, hv⟩ : ∃ v, v = wordN (fun j => S (64 * i + j)) 64 := ⟨_, rfl⟩
      have hc : w.cell? ⟨b, i, none⟩ = some (.int .u64 v) := by rw [hv]; exact (unhide H i hlt).1
      by_cases h0 : v = 0
      · have HV0 := hide (hv.symm.trans h0)
        subst h0
        clear hv
        go_wp2
        go_round
        case rel =>
          refine ⟨i + 1, by omega, by go_num, hide fun s hs => ?_⟩
          by_cases h1 : s < 64 * i
          · exact unhide hr s h1
          · have := wordN_zero.1 (unhide HV0) (s - 64 * i) (by omega)
            rw [show 64 * i + (s - 64 * i) = s by omega] at this
            exact this
        case measure => simp [intOf]; omega
      · have hl : v < 2 ^ 64 := by rw [hv]; exact wordN_lt _ _
        have hcl := ctz_lt h0 hl
        have hcs := ctz_spec h0 hl
        have HW := hide hv
        have h0' : ((v : Int) == 0) = false := by simp; omega
        have HC : Hid (Calls Tryd.prog 65 #[.int .u64 v] w fun e w' => e = .returned (.int .i64 (Lib.ctz 64 v)) ∧ w' = w) := hide (tz64_any v hl h0 w (unhide HV))
        have HS := hide hcs
        generalize Lib.ctz 64 v = k at hcl hcs HC HS
        clear hv hcs
        go_wp2_with (go_at_call 65; refine (unhide HC).mono ?_; rintro e w' ⟨rfl, rfl⟩)
        go_ret2
        refine ⟨rfl, .inl ⟨64 * i + k, by omega, ?_, fun t ht => ?_, ret_two (val_int (by omega)) rfl⟩⟩
        · have := (unhide HS).1
          rw [unhide HW, wordN_bit, decide_eq_true hcl] at this
          exact this
        · by_cases h1 : t < 64 * i
          · exact unhide hr t h1
          · have := (unhide HS).2 (t - 64 * i) (by omega)
            rw [unhide HW, wordN_bit, decide_eq_true (by omega)] at this
            rw [show 64 * i + (t - 64 * i) = t by omega] at this
            exact this
    · go_wp2
      go_ret2
      exact ⟨rfl, .inr ⟨fun t ht => unhide hr t (by omega), rfl⟩⟩
end Go.Proofs.YtogjblikljggbaaDoor
