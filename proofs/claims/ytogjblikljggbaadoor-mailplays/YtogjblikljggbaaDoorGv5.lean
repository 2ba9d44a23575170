/- placeInRow, place. -/
import Derived.Test.YtogjblikljggbaaDoorAb
namespace Go.Proofs.YtogjblikljggbaaDoor
open Go.RowKit Go.Proofs.YtogjblikljggbaaDoor.Hp
/-- The state of the search for k free spans in a row: those from a to s are free, ahead of a none is. -/
def Look (F : Nat → Bool) (k a s : Nat) : Prop := a ≤ s ∧ s < a + k ∧ (∀ t, a ≤ t → t < s → F t = true) ∧ (a = 0 ∨ F (a - 1) = false) ∧ ∀ g, g + k ≤ s → ∃ t, g ≤ t ∧ t < g + k ∧ F t = false
theorem Look.start (F : Nat → Bool) (k : Nat) (hk : 2 ≤ k) : Look F k 0 0 := ⟨Nat.le_refl _, by omega, fun t h1 h2 => by omega, .inl rfl, fun g hg => by omega⟩
theorem Look.miss {F : Nat → Bool} {k a s : Nat} (h : Look F k a s) (hk : 2 ≤ k) (hs : F s = false) : Look F k (s + 1) (s + 1) := by
  obtain ⟨h1, h2, h3, h4, h5⟩ := h
  refine ⟨Nat.le_refl _, by omega, fun t a b => by omega, .inr (by simpa using hs), fun g hg => ?_⟩
  by_cases e : g + k ≤ s
  · exact h5 g e
  · exact ⟨s, by omega, by omega, hs⟩
theorem Look.more {F : Nat → Bool} {k a s : Nat} (h : Look F k a s) (hs : F s = true) (hk : s + 1 < a + k) : Look F k a (s + 1) := by
  obtain ⟨h1, h2, h3, h4, h5⟩ := h
  refine ⟨by omega, hk, fun t b c => ?_, h4, fun g hg => ?_⟩
  · by_cases e : t = s
    · rw [e]; exact hs
    · exact h3 t b (by omega)
  · by_cases e : g + k ≤ s
    · exact h5 g e
    · rcases h4 with h4 | h4
      · omega
      · exact ⟨a - 1, by omega, by omega, h4⟩
theorem Look.found {F : Nat → Bool} {k a s : Nat} (h : Look F k a s) (hs : F s = true) (hk : s + 1 = a + k) : (∀ t, a ≤ t → t < a + k → F t = true) ∧ ∀ g, g < a → ∃ t, g ≤ t ∧ t < g + k ∧ F t = false := by
  obtain ⟨h1, h2, h3, h4, h5⟩ := h
  refine ⟨fun t b c => ?_, fun g hg => ?_⟩
  · by_cases e : t = s
    · rw [e]; exact hs
    · exact h3 t b (by omega)
  · by_cases e : g + k ≤ s
    · exact h5 g e
    · rcases h4 with h4 | h4
      · omega
      · exact ⟨a - 1, by omega, by omega, h4⟩
set_option maxHeartbeats 2000000 in
theorem placeR_any (B : HB) (n : Nat) (R : HR) (k : Nat) (w : World) (h : At w B n R) (hk : 2 ≤ k) (hk2 : k ≤ 1000) :
    Calls Tryd.prog 51 #[B.ptr, .int .i64 k] w fun e w' => Fr B.mem w w' ∧ ((∃ f : Nat, f + k ≤ n ∧ (∀ t, f ≤ t → t < f + k → R.fr t = true) ∧ (∀ g, g < f → ∃ t, g ≤ t ∧ t < g + k ∧ R.fr t = false) ∧ e = .returned (.tuple #[.int .i64 ((f * 64 : Nat) : Int), .bool true]) ∧ At w' B n { R with rm := upd R.rm f (k * 64), fr := cutF R.fr f (f + k) false, us := upd R.us f 1 }) ∨ ((∀ g, g + k ≤ n → ∃ t, g ≤ t ∧ t < g + k ∧ R.fr t = false) ∧ e = .returned (.tuple #[.int .i64 0, .bool false]) ∧ At w' B n R)) := by
  have c1 := h.c1
  have c2 := h.c2
  have hh := h.hi
  have HA := hide h
  clear h
  unfold HB.ptr at *
  go_enter Tryd.func51, Tryd.ntmps51
  go_wp2
  go_loop [14, 6] (fun i r => ∃ s a : Nat, s ≤ n ∧ i = .int .i64 s ∧ a ≤ s ∧ s < a + k ∧ r = .int .i64 ((s - a : Nat) : Int) ∧ Hid (Look R.fr k a s)) (fun i _ => n - (intOf i).toNat)
  case atStart => exact ⟨0, 0, by omega, rfl, by omega, by omega, rfl, hide (Look.start R.fr k hk)⟩
  case round =>
    obtain ⟨s, a, hs, rfl, ha1, ha2, rfl, hL⟩ := hrel
    by_cases hlt : s < n
    · have HC := hide (has_any B.bf (setM n) s R.fr w (setM_le hh) (setM_lt hlt) (unhide HA).fr)
      cases hF : R.fr s with
      | false =>
        rw [hF] at HC
        have HF := hide hF
        clear hF
        go_wp2_with (first | (go_at_call 63; refine (unhide HC).mono ?_; rintro e w' ⟨rfl, rfl⟩))
        go_round
        case rel => exact ⟨s + 1, s + 1, by omega, by go_num, by omega, by omega, by simp, hide ((unhide hL).miss hk (unhide HF))⟩
        case measure => simp [intOf]; omega
      | true =>
        rw [hF] at HC
        have HF := hide hF
        clear hF
        by_cases he : s + 1 = a + k
        · have hak : a + k ≤ n := by omega
          have hsa : s - a + 1 = k := by omega
          have HG := hide (give_any B n R a k (k * 64) w (unhide HA) hak (by omega))
          have hz : ((s - a : Nat) : Int) + 1 = (k : Int) := by omega
          have hy : (s : Int) + 1 - (k : Int) = (a : Int) := by omega
          have HFd := hide ((unhide hL).found (unhide HF) he)
          go_wp2_with fail
          refine (unhide HC).mono ?_; rintro e w' ⟨rfl, rfl⟩
          go_wp2_with fail
          refine (unhide HG).mono ?_; rintro e w1 ⟨rfl, hF1, hA1⟩
          have c11 := hA1.c1
          have cu1 := hA1.cu a (by omega)
          have fz1 := hA1.fz (a * 2 + 1) (by omega)
          have HA1 := hide hA1
          have HF1 := hide hF1
          clear hA1 hF1
          go_wp2_with fail
          go_ret2
          exact ⟨(unhide HF1).setCell (.inr (.inr (.inl rfl))) _, .inl ⟨a, hak, (unhide HFd).1, (unhide HFd).2, ret_two (val_int (by push_cast; omega)) rfl, (unhide HA1).storeU a 1 (by omega)⟩⟩
        · have hne : ((s - a : Nat) : Int) + 1 ≠ (k : Int) := by omega
          have hnb : (((s - a : Nat) : Int) + 1 == (k : Int)) = false := by simpa using hne
          go_wp2_with (first | (go_at_call 63; refine (unhide HC).mono ?_; rintro e w' ⟨rfl, rfl⟩))
          go_round
          case rel => exact ⟨s + 1, a, by omega, by go_num, by omega, by omega, by go_num, hide ((unhide hL).more (unhide HF) (by omega))⟩
          case measure => simp [intOf]; omega
    · go_wp2
      go_ret2
      refine ⟨Fr.refl _ _, .inr ⟨fun g hg => (unhide hL).2.2.2.2 g (by omega), rfl, unhide HA⟩⟩
end Go.Proofs.YtogjblikljggbaaDoor
