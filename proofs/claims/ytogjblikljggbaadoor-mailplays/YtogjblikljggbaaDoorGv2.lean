/- within, Load, Store, give, release. -/
import Derived.Test.YtogjblikljggbaaDoorGv
namespace Go.Proofs.YtogjblikljggbaaDoor
open Go.RowKit Go.Proofs.YtogjblikljggbaaDoor.Hp
def inB (n : Nat) (R : HR) (a k : Int) : Bool := decide (0 ≤ k) && decide (k < roomR n R a)
theorem roomS_le (r u o : Nat) : roomS r u o ≤ r := by unfold roomS; (repeat' split) <;> omega
theorem roomR_le {n : Nat} {R : HR} (hf : Fine n R) (a : Int) : roomR n R a ≤ 20000 := by
  unfold roomR
  split
  · have := roomS_le (R.rm (a.toNat / 64)) (R.us (a.toNat / 64)) (a.toNat % 64)
    have := (hf (a.toNat / 64) (by omega)).2.1
    omega
  · omega
set_option maxHeartbeats 1000000 in
theorem within_any (B : HB) (n : Nat) (R : HR) (a k : Int) (w : World) (h : At w B n R) (hf : Fine n R) :
    Calls Tryd.prog 40 #[B.ptr, .int .i64 a, .int .i64 k] w fun e w' => e = .returned (.bool (inB n R a k)) ∧ Fr (fun _ => False) w w' := by
  have HC := hide (Room_any B n R a w h hf)
  have hl := roomR_le hf a
  have HI : Hid (inB n R a k = (decide (0 ≤ k) && decide (k < roomR n R a))) := hide rfl
  clear h hf
  unfold HB.ptr at *
  generalize roomR n R a = r at *
  by_cases h0 : 0 ≤ k
  · go_enter Tryd.func40, Tryd.ntmps40
    go_wp2_with (first | (go_at_call 42; refine (unhide HC).mono ?_; rintro e w' ⟨rfl, hw'⟩))
    all_goals (go_ret; exact ⟨ret_bool (by rw [unhide HI]; simp [h0]), hw'⟩)
  · go_enter Tryd.func40, Tryd.ntmps40
    go_wp2
    all_goals (go_ret; exact ⟨ret_bool (by rw [unhide HI, decide_eq_false (by omega)]; rfl), Fr.refl _ _⟩)
/-- Blocks lie within the words. -/
def Fits (n : Nat) (R : HR) : Prop := ∀ a : Int, roomR n R a ≠ 0 → 0 ≤ a ∧ a + roomR n R a ≤ 64 * n
def loadV (n : Nat) (R : HR) (a k : Int) : Value := if inB n R a k then .tuple #[.int .i64 (R.wd (a + k).toNat), .bool true] else .tuple #[.int .i64 0, .bool false]
theorem loadV_pos {n : Nat} {R : HR} {a k : Int} (h : inB n R a k = true) : loadV n R a k = .tuple #[.int .i64 (R.wd (a + k).toNat), .bool true] := if_pos h
theorem loadV_neg {n : Nat} {R : HR} {a k : Int} (h : inB n R a k = false) : loadV n R a k = .tuple #[.int .i64 0, .bool false] := if_neg (by rw [h]; decide)
def storeH (n : Nat) (R : HR) (a k v : Int) : HR := if inB n R a k then { R with wd := upd R.wd (a + k).toNat v } else R
theorem storeH_pos {n : Nat} {R : HR} {a k : Int} (v : Int) (h : inB n R a k = true) : storeH n R a k v = { R with wd := upd R.wd (a + k).toNat v } := if_pos h
theorem storeH_neg {n : Nat} {R : HR} {a k : Int} (v : Int) (h : inB n R a k = false) : storeH n R a k v = R := if_neg (by rw [h]; decide)
set_option maxHeartbeats 1000000 in
theorem Load_any (B : HB) (n : Nat) (R : HR) (a k : Int) (w : World) (h : At w B n R) (hf : Fine n R) (hb : Fits n R) :
    Calls Tryd.prog 29 #[B.ptr, .int .i64 a, .int .i64 k] w fun e w' => e = .returned (loadV n R a k) ∧ Fr (fun _ => False) w w' := by
  have HC := hide (within_any B n R a k w h hf)
  have HA := hide h
  have hh := h.hi
  by_cases h0 : inB n R a k = true
  · have hr : 0 ≤ k ∧ k < roomR n R a := by simpa [inB] using h0
    obtain ⟨ha, hab⟩ := hb a (by omega)
    obtain ⟨x, rfl⟩ : ∃ x : Nat, a = (x : Int) := ⟨a.toNat, by omega⟩
    obtain ⟨y, rfl⟩ : ∃ y : Nat, k = (y : Int) := ⟨k.toNat, by omega⟩
    have hxy : x + y < 64 * n := by omega
    rw [h0] at HC
    have HE : Hid (((x : Int) + (y : Int)).toNat = x + y) := hide (by omega)
    have HI := hide h0
    clear h hf hb hr hab h0
    unfold HB.ptr at *
    go_enter Tryd.func29, Tryd.ntmps29
    go_wp2_with (first | (go_at_call 40; refine (unhide HC).mono ?_; rintro e w' ⟨rfl, hw'⟩; have hA := (unhide HA).quiet hw'; have c0 := hA.c0; have cw := hA.cw (x + y) hxy; clear hA))
    all_goals (go_ret2; exact ⟨by rw [loadV_pos (unhide HI), unhide HE]; rfl, hw'⟩)
  · have h1 : inB n R a k = false := by simpa using h0
    rw [h1] at HC
    have HI := hide h1
    clear h hf hb h0 h1
    unfold HB.ptr at *
    go_enter Tryd.func29, Tryd.ntmps29
    go_wp2_with (first | (go_at_call 40; refine (unhide HC).mono ?_; rintro e w' ⟨rfl, hw'⟩))
    all_goals (go_ret2; exact ⟨by rw [loadV_neg (unhide HI)]; rfl, hw'⟩)
set_option maxHeartbeats 1000000 in
theorem Store_any (B : HB) (n : Nat) (R : HR) (a k v : Int) (w : World) (h : At w B n R) (hf : Fine n R) (hb : Fits n R) :
    Calls Tryd.prog 32 #[B.ptr, .int .i64 a, .int .i64 k, .int .i64 v] w fun e w' => e = .returned (.bool (inB n R a k)) ∧ Fr B.mem w w' ∧ At w' B n (storeH n R a k v) := by
  have HC := hide (within_any B n R a k w h hf)
  have HA := hide h
  have hh := h.hi
  by_cases h0 : inB n R a k = true
  · have hr : 0 ≤ k ∧ k < roomR n R a := by simpa [inB] using h0
    obtain ⟨ha, hab⟩ := hb a (by omega)
    obtain ⟨x, rfl⟩ : ∃ x : Nat, a = (x : Int) := ⟨a.toNat, by omega⟩
    obtain ⟨y, rfl⟩ : ∃ y : Nat, k = (y : Int) := ⟨k.toNat, by omega⟩
    have hxy : x + y < 64 * n := by omega
    rw [h0] at HC
    have HE : Hid (((x : Int) + (y : Int)).toNat = x + y) := hide (by omega)
    have HI := hide h0
    clear h hf hb hr hab h0
    unfold HB.ptr at *
    go_enter Tryd.func32, Tryd.ntmps32
    go_wp2_with (first | (go_at_call 40; refine (unhide HC).mono ?_; rintro e w' ⟨rfl, hw'⟩; have hA := (unhide HA).quiet hw'; have HA2 := hide hA; have c0 := hA.c0; have cw := hA.cw (x + y) hxy; have fw := hA.fw (x + y) hxy; clear hA))
    all_goals (go_ret; refine ⟨ret_bool (unhide HI).symm, (hw'.toMem).setCell (.inr (.inl rfl)) _, ?_⟩; rw [storeH_pos _ (unhide HI), unhide HE]; exact (unhide HA2).storeW _ _ hxy)
  · have h1 : inB n R a k = false := by simpa using h0
    rw [h1] at HC
    have HI := hide h1
    clear h hf hb h0 h1
    unfold HB.ptr at *
    go_enter Tryd.func32, Tryd.ntmps32
    go_wp2_with (first | (go_at_call 40; refine (unhide HC).mono ?_; rintro e w' ⟨rfl, hw'⟩))
    all_goals (go_ret; refine ⟨ret_bool (unhide HI).symm, hw'.toMem, ?_⟩; rw [storeH_neg _ (unhide HI)]; exact (unhide HA).quiet hw')
def cutF (f : Nat → Bool) (a b : Nat) (v : Bool) : Nat → Bool := fun s => if a ≤ s ∧ s < b then v else f s
theorem cutF_step (f : Nat → Bool) (a b : Nat) (v : Bool) (h : a ≤ b) : upd (cutF f a b v) b v = cutF f a (b + 1) v := by
  funext s
  unfold upd cutF
  by_cases e : s = b
  · rw [if_pos e, if_pos (by omega)]
  · rw [if_neg e]
    by_cases e2 : a ≤ s ∧ s < b
    · rw [if_pos e2, if_pos (by omega)]
    · rw [if_neg e2, if_neg (by omega)]
theorem cutF_none (f : Nat → Bool) (a : Nat) (v : Bool) : cutF f a a v = f := by
  funext s
  unfold cutF
  rw [if_neg (by omega)]
set_option maxHeartbeats 1000000 in
theorem give_any (B : HB) (n : Nat) (R : HR) (a c r : Nat) (w : World) (h : At w B n R) (hc : a + c ≤ n) (hc1 : 1 ≤ c) :
    Calls Tryd.prog 59 #[B.ptr, .int .i64 a, .int .i64 c, .int .i64 r] w fun e w' => e = .returned (.tuple #[]) ∧ Fr B.mem w w' ∧ At w' B n { R with rm := upd R.rm a r, fr := cutF R.fr a (a + c) false } := by
  have c1 := h.c1
  have hh := h.hi
  have cr := h.cr a (by omega)
  have fz := h.fz (a * 2) (by omega)
  have HA := hide (h.storeR a r (by omega))
  clear h
  unfold HB.ptr at *
  go_enter Tryd.func59, Tryd.ntmps59
  go_wp2
  go_loopw [8] (fun i wr => ∃ s : Nat, a ≤ s ∧ s ≤ a + c ∧ i = .int .i64 s ∧ Fr B.mem w wr ∧ At wr B n { R with rm := upd R.rm a r, fr := cutF R.fr a s false }) (fun i _ => a + c - (intOf i).toNat)
  case atStart => exact ⟨a, Nat.le_refl _, by omega, rfl, (Fr.refl _ w).setCell (.inr (.inr (.inl rfl))) _, by rw [cutF_none]; exact unhide HA⟩
  case round =>
    obtain ⟨s, hs1, hs2, rfl, hF, hA⟩ := hrel
    by_cases hlt : s < a + c
    · have c2 := hA.c2
      have HC := hide (remove_any B.bf (setM n) s _ wr (setM_le hh) (setM_lt (by omega)) hA.fr)
      have HA2 := hide hA
      have HF2 := hide hF
      clear hA hF
      go_wp2_with (first | (go_at_call 62; refine (unhide HC).mono ?_; rintro e w' ⟨rfl, hs', hw'⟩))
      go_roundw
      case rel =>
        refine ⟨s + 1, by omega, by omega, by go_num, (unhide HF2).trans hw'.fMem, ?_⟩
        have := (unhide HA2).setF hw' hs'
        rw [cutF_step _ _ _ _ hs1] at this
        exact this
      case measure => simp [intOf]; omega
    · have e : s = a + c := by omega
      subst e
      have HA2 := hide hA
      have HF2 := hide hF
      clear hA hF
      go_wp2
      go_end0
      exact ⟨rfl, unhide HF2, unhide HA2⟩
end Go.Proofs.YtogjblikljggbaaDoor
