/- release, placeInClass. -/
import Derived.Test.YtogjblikljggbaaDoorGv2
import Derived.Deep.RegionWith
import Derived.Deep.RegionLaw
import Derived.Deep.RegionHeld2
namespace Go.Proofs.YtogjblikljggbaaDoor
open Go.RowKit Go.Proofs.YtogjblikljggbaaDoor.Hp
def relS (R : HR) (f : Nat) : HR := { R with rm := upd R.rm f 0, us := upd R.us f 0, fr := cutF R.fr f (f + 1) true, op := upd R.op (clOf (R.rm f)) (upd (R.op (clOf (R.rm f))) f false) }
def relB (R : HR) (f : Nat) : HR := { R with rm := upd R.rm f 0, us := upd R.us f 0, fr := cutF R.fr f (f + R.rm f / 64) true }
theorem cutF_one (f : Nat → Bool) (a : Nat) (v : Bool) : cutF f a (a + 1) v = upd f a v := by
  rw [← cutF_step _ _ _ _ (Nat.le_refl a), cutF_none]
set_option maxHeartbeats 1000000 in
theorem release_small (B : HB) (n : Nat) (R : HR) (f : Nat) (w : World) (h : At w B n R) (hf : f < n) (hr : R.rm f ≤ 64) :
    Calls Tryd.prog 56 #[B.ptr, .int .i64 f] w fun e w' => e = .returned (.tuple #[]) ∧ Fr B.mem w w' ∧ At w' B n (relS R f) := by
  have c1 := h.c1
  have c2 := h.c2
  have hh := h.hi
  have cr := h.cr f hf
  have cu := h.cu f hf
  have fz := h.fz (f * 2) (by omega)
  have fz1 := h.fz (f * 2 + 1) (by omega)
  have hcl := clOf_lt (R.rm f)
  have h1 := (h.storeR f 0 hf).storeU f 0 hf
  have HA := hide h1
  have hps := h.ok.ps
  have HC := hide (add_any B.bf (setM n) f R.fr _ (setM_le hh) (setM_lt hf) h1.fr)
  have HK := hide (fun w' => classOf_any (R.rm f) w' hr)
  clear h h1
  unfold HB.ptr at *
  unfold relS
  rw [cutF_one]
  generalize R.rm f = r at *
  generalize clOf r = c at *
  go_enter Tryd.func56, Tryd.ntmps56
  go_wp2_with (first | (go_at_call 38; refine (unhide HC).mono ?_; rintro e w' ⟨rfl, hs', hw'⟩))
  have hA2 := (unhide HA).setF hw' hs'
  have HF : Hid (Fr B.mem w w') := hide ((((Fr.refl B.mem w).setCell (p := ⟨B.bs, f * 2, none⟩) (.inr (.inr (.inl rfl))) _).setCell (p := ⟨B.bs, f * 2 + 1, none⟩) (.inr (.inr (.inl rfl))) _).trans hw'.fMem)
  have cc := hA2.c3 c hcl
  have HR := hide (fun w'' (q : Fr (fun _ => False) w' w'') => remove_any (B.bo c) (setM n) f (R.op c) w'' (setM_le hh) (setM_lt hf) ((hA2.quiet q).op c hcl))
  have HA2 := hide hA2
  clear hA2 hs' hw' HA HC c1 c2 cr cu fz fz1
  refine wp_loop_rounds 1 ?_
  rw [rounds_succ]
  go_wp2
  go_region_with (first | (go_at_call 50; refine (unhide HK _).mono ?_; rintro e w'' ⟨rfl, rfl⟩) | (go_at_call 62; refine (unhide HR _ (by first | exact (Fr.refl _ _).drew | exact Fr.refl _ _)).mono ?_; rintro e w'' ⟨rfl, hs2, hw2⟩))
  all_goals (try go_wp2)
  all_goals (go_end0; refine ⟨rfl, (unhide HF).trans ((Fr.drew (Fr.refl _ _)).trans (hw2.oMem hcl)), ((unhide HA2).quiet (Fr.drew (Fr.refl _ _))).setO hcl hw2 hs2⟩)
set_option maxHeartbeats 1000000 in
theorem release_big (B : HB) (n : Nat) (R : HR) (f : Nat) (w : World) (h : At w B n R) (hf : f < n) (hr : 64 < R.rm f) (hr2 : f + R.rm f / 64 ≤ n) :
    Calls Tryd.prog 56 #[B.ptr, .int .i64 f] w fun e w' => e = .returned (.tuple #[]) ∧ Fr B.mem w w' ∧ At w' B n (relB R f) := by
  have c1 := h.c1
  have c2 := h.c2
  have hh := h.hi
  have cr := h.cr f hf
  have cu := h.cu f hf
  have fz := h.fz (f * 2) (by omega)
  have fz1 := h.fz (f * 2 + 1) (by omega)
  have h1 := (h.storeR f 0 hf).storeU f 0 hf
  have HA := hide h1
  have hps := h.ok.ps
  have HC := hide (add_any B.bf (setM n) f R.fr _ (setM_le hh) (setM_lt hf) h1.fr)
  clear h h1
  unfold HB.ptr at *
  unfold relB
  generalize R.rm f = r at *
  go_enter Tryd.func56, Tryd.ntmps56
  go_wp2_with (first | (go_at_call 38; refine (unhide HC).mono ?_; rintro e w' ⟨rfl, hs', hw'⟩))
  have hA2 := (unhide HA).setF hw' hs'
  rw [← cutF_one] at hA2
  have HF : Hid (Fr B.mem w w') := hide ((((Fr.refl B.mem w).setCell (p := ⟨B.bs, f * 2, none⟩) (.inr (.inr (.inl rfl))) _).setCell (p := ⟨B.bs, f * 2 + 1, none⟩) (.inr (.inr (.inl rfl))) _).trans hw'.fMem)
  have HA2 := hide hA2
  clear hA2 hs' hw' HA HC c1 c2 cr cu fz fz1
  go_loopw [5] (fun i wr => ∃ s : Nat, f + 1 ≤ s ∧ s ≤ f + r / 64 ∧ i = .int .i64 s ∧ Fr B.mem w wr ∧ At wr B n { R with rm := upd R.rm f 0, us := upd R.us f 0, fr := cutF R.fr f s true }) (fun i _ => f + r / 64 - (intOf i).toNat)
  case atStart => exact ⟨f + 1, Nat.le_refl _, by omega, by go_num, unhide HF, unhide HA2⟩
  case round =>
    obtain ⟨s, hs1, hs2, rfl, hF, hA⟩ := hrel
    by_cases hlt : s < f + r / 64
    · have c2 := hA.c2
      have HC := hide (add_any B.bf (setM n) s _ wr (setM_le hh) (setM_lt (by omega)) hA.fr)
      have HA3 := hide hA
      have HF2 := hide hF
      clear hA hF
      go_wp2_with (first | (go_at_call 38; refine (unhide HC).mono ?_; rintro e w' ⟨rfl, hs', hw'⟩))
      go_roundw
      case rel =>
        refine ⟨s + 1, by omega, by omega, by go_num, (unhide HF2).trans hw'.fMem, ?_⟩
        have := (unhide HA3).setF hw' hs'
        rw [cutF_step _ _ _ _ (by omega)] at this
        exact this
      case measure => simp [intOf]; omega
    · have e : s = f + r / 64 := by omega
      subst e
      have HA3 := hide hA
      have HF2 := hide hF
      clear hA hF
      go_wp2
      go_end0
      exact ⟨rfl, unhide HF2, unhide HA3⟩
theorem least_some (b m : Nat) (S : Nat → Bool) (s : Nat) (w : World) (hm : m ≤ 1000) (h : SetAt w b m S) (hV : Vars w) (hs : s < 64 * m) (h1 : S s = true) (h2 : ∀ t, t < s → S t = false) :
    Calls Tryd.prog 58 #[.slice (some ⟨b, 0, none⟩) m m] w fun e w' => e = .returned (.tuple #[.int .i64 s, .bool true]) ∧ w' = w := by
  refine (least_any b m S w hm h hV).mono ?_
  rintro e w' ⟨rfl, ⟨t, ht, ht1, ht2, rfl⟩ | ⟨hn, rfl⟩⟩
  · have : t = s := by
      rcases Nat.lt_trichotomy t s with h | h | h
      · rw [h2 t h] at ht1; cases ht1
      · exact h
      · rw [ht2 s h] at h1; cases h1
    rw [this]; exact ⟨rfl, rfl⟩
  · rw [hn s hs] at h1; cases h1
theorem least_none (b m : Nat) (S : Nat → Bool) (w : World) (hm : m ≤ 1000) (h : SetAt w b m S) (hV : Vars w) (h1 : ∀ t, S t = false) :
    Calls Tryd.prog 58 #[.slice (some ⟨b, 0, none⟩) m m] w fun e w' => e = .returned (.tuple #[.int .i64 0, .bool false]) ∧ w' = w := by
  refine (least_any b m S w hm h hV).mono ?_
  rintro e w' ⟨rfl, ⟨t, ht, ht1, ht2, rfl⟩ | ⟨hn, rfl⟩⟩
  · rw [h1 t] at ht1; cases ht1
  · exact ⟨rfl, rfl⟩
set_option maxHeartbeats 1000000 in
theorem placeC_none (B : HB) (n : Nat) (R : HR) (c : Nat) (w : World) (h : At w B n R) (hV : Vars w) (hc : c < 6) (h1 : ∀ s, R.op c s = false) (h2 : ∀ s, R.fr s = false) :
    Calls Tryd.prog 49 #[B.ptr, .int .i64 c] w fun e w' => e = .returned (.tuple #[.int .i64 0, .bool false]) ∧ w' = w := by
  have c2 := h.c2
  have cc := h.c3 c hc
  have HL := hide (least_none (B.bo c) (setM n) (R.op c) w (setM_le h.hi) (h.op c hc) hV h1)
  have HM := hide (least_none B.bf (setM n) R.fr w (setM_le h.hi) h.fr hV h2)
  clear h hV h1 h2
  unfold HB.ptr at *
  go_enter Tryd.func49, Tryd.ntmps49
  go_wp2_with fail
  refine (unhide HL).mono ?_; rintro e w' ⟨rfl, rfl⟩
  go_wp2_with fail
  refine (unhide HM).mono ?_; rintro e w' ⟨rfl, rfl⟩
  go_wp2_with fail
  go_ret2
  exact ⟨rfl, rfl⟩
theorem Vars.fr {w w' : World} {K : Nat → Prop} (h : Vars w) (k : Fr K w w') (h0 : ¬ K 0) (h1 : ¬ K 1) : Vars w' := by
  constructor
  · intro j hj
    have := h.t32 j hj
    exact (World.cell?_of_block (w := w) (a := ⟨0, j, none⟩) (k.block 0 (World.block_lt_of_cell? w ⟨0, j, none⟩ this) h0)).trans this
  · intro j hj
    have := h.t64 j hj
    exact (World.cell?_of_block (w := w) (a := ⟨1, j, none⟩) (k.block 1 (World.block_lt_of_cell? w ⟨1, j, none⟩ this) h1)).trans this
/-- The set of a class, behind a block more. -/
def opAft (S : Nat → Bool) (s v r : Nat) : Nat → Bool := if pop v 32 = 64 / r then upd S s false else S
theorem opAft_pos {S : Nat → Bool} {s v r : Nat} (h : decide (pop v 32 = 64 / r) = true) : opAft S s v r = upd S s false := if_pos (of_decide_eq_true h)
theorem opAft_neg {S : Nat → Bool} {s v r : Nat} (h : decide (pop v 32 = 64 / r) = false) : opAft S s v r = S := if_neg (of_decide_eq_false h)
end Go.Proofs.YtogjblikljggbaaDoor
