/- Gv Gv2 Gv3 Gv4 Ab Ab2 Mk0 Oc, in one text. -/
import Derived.Test.YtjblmincldaklaaDoorMa
import Derived.Deep.RegionWith
import Derived.Deep.RegionLaw
import Derived.Deep.RegionHeld2
namespace Go.Proofs.YtjblmincldaklaaDoor
open Go.RowKit Go.Proofs.YtjblmincldaklaaDoor.Hp
/-- The room of the block at an address. -/
def roomR (n : Nat) (R : HR) (at_ : Int) : Nat := if 0 ≤ at_ ∧ at_ < 64 * n then roomS (R.rm (at_.toNat / 64)) (R.us (at_.toNat / 64)) (at_.toNat % 64) else 0
/-- Rooms and used places are what a span may have. -/
def Fine (n : Nat) (R : HR) : Prop := ∀ s, s < n → R.rm s ≠ 1 ∧ R.rm s ≤ 20000 ∧ R.us s < 4294967296
set_option maxHeartbeats 1000000 in
theorem Room_any (B : HB) (n : Nat) (R : HR) (a : Int) (w : World) (h : At w B n R) (hf : Fine n R) :
    Calls Tryd.prog 44 #[B.ptr, .int .i64 a] w fun e w' => e = .returned (.int .i64 (roomR n R a)) ∧ Fr (fun _ => False) w w' := by
  have hl := h.lo
  have hh := h.hi
  have c0 := h.c0
  have c1 := h.c1
  unfold HB.ptr
  by_cases hr : 0 ≤ a ∧ a < 64 * n
  · obtain ⟨x, rfl⟩ : ∃ x : Nat, a = (x : Int) := ⟨a.toNat, by omega⟩
    have hx : x < 64 * n := by omega
    have hs : x / 64 < n := by omega
    have HE : Hid (roomR n R x = roomS (R.rm (x / 64)) (R.us (x / 64)) (x % 64)) := hide (by unfold roomR; rw [if_pos hr]; simp)
    obtain ⟨f1, f2, f3⟩ := hf _ hs
    have cr := h.cr _ hs
    have cu := h.cu _ hs
    have HC := hide (fun w' => roomAt_any (R.rm (x / 64)) (R.us (x / 64)) (x % 64) w' f1 (by omega) f3 (by omega))
    clear hr f1 f2 f3 h hf
    go_enter Tryd.func44, Tryd.ntmps44
    go_wp2_with (first | (go_at_call 58; refine (unhide HC _).mono ?_; rintro e w' ⟨rfl, hw'⟩))
    all_goals (go_ret; exact ⟨ret_int (by rw [unhide HE]), hw'⟩)
  · have HE : Hid (roomR n R a = 0) := hide (by unfold roomR; rw [if_neg hr])
    clear h hf
    rcases (show a < 0 ∨ 64 * (n : Int) ≤ a by omega) with h1 | h1
    · go_enter Tryd.func44, Tryd.ntmps44
      go_wp2
      all_goals (go_ret; exact ⟨ret_int (by rw [unhide HE]; rfl), Fr.refl _ _⟩)
    · go_enter Tryd.func44, Tryd.ntmps44
      go_wp2
      all_goals (go_ret; exact ⟨ret_int (by rw [unhide HE]; rfl), Fr.refl _ _⟩)
end Go.Proofs.YtjblmincldaklaaDoor
namespace Go.Proofs.YtjblmincldaklaaDoor
open Go.RowKit Go.Proofs.YtjblmincldaklaaDoor.Hp
def inB (n : Nat) (R : HR) (a k : Int) : Bool := decide (0 ≤ k) && decide (k < roomR n R a)
theorem roomS_le (r u o : Nat) : roomS r u o ≤ r := by unfold roomS; (repeat' split) <;> omega
theorem roomR_le {n : Nat} {R : HR} (hf : Fine n R) (a : Int) : roomR n R a ≤ 20000 := by
  unfold roomR
  split
  · have := roomS_le (R.rm (a.toNat / 64)) (R.us (a.toNat / 64)) (a.toNat % 64)
    have := (hf (a.toNat / 64) (by omega)).2.1
    omega
  · omega
set_option maxHeartbeats 1000000 in
theorem within_any (B : HB) (n : Nat) (R : HR) (a k : Int) (w : World) (h : At w B n R) (hf : Fine n R) :
    Calls Tryd.prog 45 #[B.ptr, .int .i64 a, .int .i64 k] w fun e w' => e = .returned (.bool (inB n R a k)) ∧ Fr (fun _ => False) w w' := by
  have HC := hide (Room_any B n R a w h hf)
  have hl := roomR_le hf a
  have HI : Hid (inB n R a k = (decide (0 ≤ k) && decide (k < roomR n R a))) := hide rfl
  clear h hf
  unfold HB.ptr at *
  generalize roomR n R a = r at *
  by_cases h0 : 0 ≤ k
  · go_enter Tryd.func45, Tryd.ntmps45
    go_wp2_with (first | (go_at_call 44; refine (unhide HC).mono ?_; rintro e w' ⟨rfl, hw'⟩))
    all_goals (go_ret; exact ⟨ret_bool (by rw [unhide HI]; simp [h0]), hw'⟩)
  · go_enter Tryd.func45, Tryd.ntmps45
    go_wp2
    all_goals (go_ret; exact ⟨ret_bool (by rw [unhide HI, decide_eq_false (by omega)]; rfl), Fr.refl _ _⟩)
/-- Blocks lie within the words. -/
def Fits (n : Nat) (R : HR) : Prop := ∀ a : Int, roomR n R a ≠ 0 → 0 ≤ a ∧ a + roomR n R a ≤ 64 * n
def loadV (n : Nat) (R : HR) (a k : Int) : Value := if inB n R a k then .tuple #[.int .i64 (R.wd (a + k).toNat), .bool true] else .tuple #[.int .i64 0, .bool false]
theorem loadV_pos {n : Nat} {R : HR} {a k : Int} (h : inB n R a k = true) : loadV n R a k = .tuple #[.int .i64 (R.wd (a + k).toNat), .bool true] := if_pos h
theorem loadV_neg {n : Nat} {R : HR} {a k : Int} (h : inB n R a k = false) : loadV n R a k = .tuple #[.int .i64 0, .bool false] := if_neg (by rw [h]; decide)
def storeH (n : Nat) (R : HR) (a k v : Int) : HR := if inB n R a k then { R with wd := upd R.wd (a + k).toNat v } else R
theorem storeH_pos {n : Nat} {R : HR} {a k : Int} (v : Int) (h : inB n R a k = true) : storeH n R a k v = { R with wd := upd R.wd (a + k).toNat v } := if_pos h
theorem storeH_neg {n : Nat} {R : HR} {a k : Int} (v : Int) (h : inB n R a k = false) : storeH n R a k v = R := if_neg (by rw [h]; decide)
set_option maxHeartbeats 1000000 in
theorem Load_any (B : HB) (n : Nat) (R : HR) (a k : Int) (w : World) (h : At w B n R) (hf : Fine n R) (hb : Fits n R) :
    Calls Tryd.prog 30 #[B.ptr, .int .i64 a, .int .i64 k] w fun e w' => e = .returned (loadV n R a k) ∧ Fr (fun _ => False) w w' := by
  have HC := hide (within_any B n R a k w h hf)
  have HA := hide h
  have hh := h.hi
  by_cases h0 : inB n R a k = true
  · have hr : 0 ≤ k ∧ k < roomR n R a := by simpa [inB] using h0
    obtain ⟨ha, hab⟩ := hb a (by omega)
    obtain ⟨x, rfl⟩ : ∃ x : Nat, a = (x : Int) := ⟨a.toNat, by omega⟩
    obtain ⟨y, rfl⟩ : ∃ y : Nat, k = (y : Int) := ⟨k.toNat, by omega⟩
    have hxy : x + y < 64 * n := by omega
    rw [h0] at HC
    have HE : Hid (((x : Int) + (y : Int)).toNat = x + y) := hide (by omega)
    have HI := hide h0
    clear h hf hb hr hab h0
    unfold HB.ptr at *
    go_enter Tryd.func30, Tryd.ntmps30
    go_wp2_with (first | (go_at_call 45; refine (unhide HC).mono ?_; rintro e w' ⟨rfl, hw'⟩; have hA := (unhide HA).quiet hw'; have c0 := hA.c0; have cw := hA.cw (x + y) hxy; clear hA))
    all_goals (go_ret2; exact ⟨by rw [loadV_pos (unhide HI), unhide HE]; rfl, hw'⟩)
  · have h1 : inB n R a k = false := by simpa using h0
    rw [h1] at HC
    have HI := hide h1
    clear h hf hb h0 h1
    unfold HB.ptr at *
    go_enter Tryd.func30, Tryd.ntmps30
    go_wp2_with (first | (go_at_call 45; refine (unhide HC).mono ?_; rintro e w' ⟨rfl, hw'⟩))
    all_goals (go_ret2; exact ⟨by rw [loadV_neg (unhide HI)]; rfl, hw'⟩)
set_option maxHeartbeats 1000000 in
theorem Store_any (B : HB) (n : Nat) (R : HR) (a k v : Int) (w : World) (h : At w B n R) (hf : Fine n R) (hb : Fits n R) :
    Calls Tryd.prog 28 #[B.ptr, .int .i64 a, .int .i64 k, .int .i64 v] w fun e w' => e = .returned (.bool (inB n R a k)) ∧ Fr B.mem w w' ∧ At w' B n (storeH n R a k v) := by
  have HC := hide (within_any B n R a k w h hf)
  have HA := hide h
  have hh := h.hi
  by_cases h0 : inB n R a k = true
  · have hr : 0 ≤ k ∧ k < roomR n R a := by simpa [inB] using h0
    obtain ⟨ha, hab⟩ := hb a (by omega)
    obtain ⟨x, rfl⟩ : ∃ x : Nat, a = (x : Int) := ⟨a.toNat, by omega⟩
    obtain ⟨y, rfl⟩ : ∃ y : Nat, k = (y : Int) := ⟨k.toNat, by omega⟩
    have hxy : x + y < 64 * n := by omega
    rw [h0] at HC
    have HE : Hid (((x : Int) + (y : Int)).toNat = x + y) := hide (by omega)
    have HI := hide h0
    clear h hf hb hr hab h0
    unfold HB.ptr at *
    go_enter Tryd.func28, Tryd.ntmps28
    go_wp2_with (first | (go_at_call 45; refine (unhide HC).mono ?_; rintro e w' ⟨rfl, hw'⟩; have hA := (unhide HA).quiet hw'; have HA2 := hide hA; have c0 := hA.c0; have cw := hA.cw (x + y) hxy; have fw := hA.fw (x + y) hxy; clear hA))
    all_goals (go_ret; refine ⟨ret_bool (unhide HI).symm, (hw'.toMem).setCell (.inr (.inl rfl)) _, ?_⟩; rw [storeH_pos _ (unhide HI), unhide HE]; exact (unhide HA2).storeW _ _ hxy)
  · have h1 : inB n R a k = false := by simpa using h0
    rw [h1] at HC
    have HI := hide h1
    clear h hf hb h0 h1
    unfold HB.ptr at *
    go_enter Tryd.func28, Tryd.ntmps28
    go_wp2_with (first | (go_at_call 45; refine (unhide HC).mono ?_; rintro e w' ⟨rfl, hw'⟩))
    all_goals (go_ret; refine ⟨ret_bool (unhide HI).symm, hw'.toMem, ?_⟩; rw [storeH_neg _ (unhide HI)]; exact (unhide HA).quiet hw')
def cutF (f : Nat → Bool) (a b : Nat) (v : Bool) : Nat → Bool := fun s => if a ≤ s ∧ s < b then v else f s
theorem cutF_step (f : Nat → Bool) (a b : Nat) (v : Bool) (h : a ≤ b) : upd (cutF f a b v) b v = cutF f a (b + 1) v := by
  funext s
  unfold upd cutF
  by_cases e : s = b
  · rw [if_pos e, if_pos (by omega)]
  · rw [if_neg e]
    by_cases e2 : a ≤ s ∧ s < b
    · rw [if_pos e2, if_pos (by omega)]
    · rw [if_neg e2, if_neg (by omega)]
theorem cutF_none (f : Nat → Bool) (a : Nat) (v : Bool) : cutF f a a v = f := by
  funext s
  unfold cutF
  rw [if_neg (by omega)]
set_option maxHeartbeats 1000000 in
theorem give_any (B : HB) (n : Nat) (R : HR) (a c r : Nat) (w : World) (h : At w B n R) (hc : a + c ≤ n) (hc1 : 1 ≤ c) :
    Calls Tryd.prog 67 #[B.ptr, .int .i64 a, .int .i64 c, .int .i64 r] w fun e w' => e = .returned (.tuple #[]) ∧ Fr B.mem w w' ∧ At w' B n { R with rm := upd R.rm a r, fr := cutF R.fr a (a + c) false } := by
  have c1 := h.c1
  have hh := h.hi
  have cr := h.cr a (by omega)
  have fz := h.fz (a * 2) (by omega)
  have HA := hide (h.storeR a r (by omega))
  clear h
  unfold HB.ptr at *
  go_enter Tryd.func67, Tryd.ntmps67
  go_wp2
  go_loopw [8] (fun i wr => ∃ s : Nat, a ≤ s ∧ s ≤ a + c ∧ i = .int .i64 s ∧ Fr B.mem w wr ∧ At wr B n { R with rm := upd R.rm a r, fr := cutF R.fr a s false }) (fun i _ => a + c - (intOf i).toNat)
  case atStart => exact ⟨a, Nat.le_refl _, by omega, rfl, (Fr.refl _ w).setCell (.inr (.inr (.inl rfl))) _, by rw [cutF_none]; exact unhide HA⟩
  case round =>
    obtain ⟨s, hs1, hs2, rfl, hF, hA⟩ := hrel
    by_cases hlt : s < a + c
    · have c2 := hA.c2
      have HC := hide (remove_any B.bf (setM n) s _ wr (setM_le hh) (setM_lt (by omega)) hA.fr)
      have HA2 := hide hA
      have HF2 := hide hF
      clear hA hF
      go_wp2_with (first | (go_at_call 70; refine (unhide HC).mono ?_; rintro e w' ⟨rfl, hs', hw'⟩))
      go_roundw
      case rel =>
        refine ⟨s + 1, by omega, by omega, by go_num, (unhide HF2).trans hw'.fMem, ?_⟩
        have := (unhide HA2).setF hw' hs'
        rw [cutF_step _ _ _ _ hs1] at this
        exact this
      case measure => simp [intOf]; omega
    · have e : s = a + c := by omega
      subst e
      have HA2 := hide hA
      have HF2 := hide hF
      clear hA hF
      go_wp2
      go_end0
      exact ⟨rfl, unhide HF2, unhide HA2⟩
end Go.Proofs.YtjblmincldaklaaDoor
namespace Go.Proofs.YtjblmincldaklaaDoor
open Go.RowKit Go.Proofs.YtjblmincldaklaaDoor.Hp
def relS (R : HR) (f : Nat) : HR := { R with rm := upd R.rm f 0, us := upd R.us f 0, fr := cutF R.fr f (f + 1) true, op := upd R.op (clOf (R.rm f)) (upd (R.op (clOf (R.rm f))) f false) }
def relB (R : HR) (f : Nat) : HR := { R with rm := upd R.rm f 0, us := upd R.us f 0, fr := cutF R.fr f (f + R.rm f / 64) true }
theorem cutF_one (f : Nat → Bool) (a : Nat) (v : Bool) : cutF f a (a + 1) v = upd f a v := by
  rw [← cutF_step _ _ _ _ (Nat.le_refl a), cutF_none]
set_option maxHeartbeats 1000000 in
theorem release_small (B : HB) (n : Nat) (R : HR) (f : Nat) (w : World) (h : At w B n R) (hf : f < n) (hr : R.rm f ≤ 64) :
    Calls Tryd.prog 62 #[B.ptr, .int .i64 f] w fun e w' => e = .returned (.tuple #[]) ∧ Fr B.mem w w' ∧ At w' B n (relS R f) := by
  have c1 := h.c1
  have c2 := h.c2
  have hh := h.hi
  have cr := h.cr f hf
  have cu := h.cu f hf
  have fz := h.fz (f * 2) (by omega)
  have fz1 := h.fz (f * 2 + 1) (by omega)
  have hcl := clOf_lt (R.rm f)
  have h1 := (h.storeR f 0 hf).storeU f 0 hf
  have HA := hide h1
  have hps := h.ok.ps
  have HC := hide (add_any B.bf (setM n) f R.fr _ (setM_le hh) (setM_lt hf) h1.fr)
  have HK := hide (fun w' => classOf_any (R.rm f) w' hr)
  clear h h1
  unfold HB.ptr at *
  unfold relS
  rw [cutF_one]
  generalize R.rm f = r at *
  generalize clOf r = c at *
  go_enter Tryd.func62, Tryd.ntmps62
  go_wp2_with (first | (go_at_call 37; refine (unhide HC).mono ?_; rintro e w' ⟨rfl, hs', hw'⟩))
  have hA2 := (unhide HA).setF hw' hs'
  have HF : Hid (Fr B.mem w w') := hide ((((Fr.refl B.mem w).setCell (p := ⟨B.bs, f * 2, none⟩) (.inr (.inr (.inl rfl))) _).setCell (p := ⟨B.bs, f * 2 + 1, none⟩) (.inr (.inr (.inl rfl))) _).trans hw'.fMem)
  have cc := hA2.c3 c hcl
  have HR := hide (fun w'' (q : Fr (fun _ => False) w' w'') => remove_any (B.bo c) (setM n) f (R.op c) w'' (setM_le hh) (setM_lt hf) ((hA2.quiet q).op c hcl))
  have HA2 := hide hA2
  clear hA2 hs' hw' HA HC c1 c2 cr cu fz fz1
  refine wp_loop_rounds 1 ?_
  rw [rounds_succ]
  go_wp2
  go_region_with (first | (go_at_call 56; refine (unhide HK _).mono ?_; rintro e w'' ⟨rfl, rfl⟩) | (go_at_call 70; refine (unhide HR _ (by first | exact (Fr.refl _ _).drew | exact Fr.refl _ _)).mono ?_; rintro e w'' ⟨rfl, hs2, hw2⟩))
  all_goals (try go_wp2)
  all_goals (go_end0; refine ⟨rfl, (unhide HF).trans ((Fr.drew (Fr.refl _ _)).trans (hw2.oMem hcl)), ((unhide HA2).quiet (Fr.drew (Fr.refl _ _))).setO hcl hw2 hs2⟩)
set_option maxHeartbeats 1000000 in
theorem release_big (B : HB) (n : Nat) (R : HR) (f : Nat) (w : World) (h : At w B n R) (hf : f < n) (hr : 64 < R.rm f) (hr2 : f + R.rm f / 64 ≤ n) :
    Calls Tryd.prog 62 #[B.ptr, .int .i64 f] w fun e w' => e = .returned (.tuple #[]) ∧ Fr B.mem w w' ∧ At w' B n (relB R f) := by
  have c1 := h.c1
  have c2 := h.c2
  have hh := h.hi
  have cr := h.cr f hf
  have cu := h.cu f hf
  have fz := h.fz (f * 2) (by omega)
  have fz1 := h.fz (f * 2 + 1) (by omega)
  have h1 := (h.storeR f 0 hf).storeU f 0 hf
  have HA := hide h1
  have hps := h.ok.ps
  have HC := hide (add_any B.bf (setM n) f R.fr _ (setM_le hh) (setM_lt hf) h1.fr)
  clear h h1
  unfold HB.ptr at *
  unfold relB
  generalize R.rm f = r at *
  go_enter Tryd.func62, Tryd.ntmps62
  go_wp2_with (first | (go_at_call 37; refine (unhide HC).mono ?_; rintro e w' ⟨rfl, hs', hw'⟩))
  have hA2 := (unhide HA).setF hw' hs'
  rw [← cutF_one] at hA2
  have HF : Hid (Fr B.mem w w') := hide ((((Fr.refl B.mem w).setCell (p := ⟨B.bs, f * 2, none⟩) (.inr (.inr (.inl rfl))) _).setCell (p := ⟨B.bs, f * 2 + 1, none⟩) (.inr (.inr (.inl rfl))) _).trans hw'.fMem)
  have HA2 := hide hA2
  clear hA2 hs' hw' HA HC c1 c2 cr cu fz fz1
  go_loopw [5] (fun i wr => ∃ s : Nat, f + 1 ≤ s ∧ s ≤ f + r / 64 ∧ i = .int .i64 s ∧ Fr B.mem w wr ∧ At wr B n { R with rm := upd R.rm f 0, us := upd R.us f 0, fr := cutF R.fr f s true }) (fun i _ => f + r / 64 - (intOf i).toNat)
  case atStart => exact ⟨f + 1, Nat.le_refl _, by omega, by go_num, unhide HF, unhide HA2⟩
  case round =>
    obtain ⟨s, hs1, hs2, rfl, hF, hA⟩ := hrel
    by_cases hlt : s < f + r / 64
    · have c2 := hA.c2
      have HC := hide (add_any B.bf (setM n) s _ wr (setM_le hh) (setM_lt (by omega)) hA.fr)
      have HA3 := hide hA
      have HF2 := hide hF
      clear hA hF
      go_wp2_with (first | (go_at_call 37; refine (unhide HC).mono ?_; rintro e w' ⟨rfl, hs', hw'⟩))
      go_roundw
      case rel =>
        refine ⟨s + 1, by omega, by omega, by go_num, (unhide HF2).trans hw'.fMem, ?_⟩
        have := (unhide HA3).setF hw' hs'
        rw [cutF_step _ _ _ _ (by omega)] at this
        exact this
      case measure => simp [intOf]; omega
    · have e : s = f + r / 64 := by omega
      subst e
      have HA3 := hide hA
      have HF2 := hide hF
      clear hA hF
      go_wp2
      go_end0
      exact ⟨rfl, unhide HF2, unhide HA3⟩
theorem least_some (b m : Nat) (S : Nat → Bool) (s : Nat) (w : World) (hm : m ≤ 1000) (h : SetAt w b m S) (hV : Vars w) (hs : s < 64 * m) (h1 : S s = true) (h2 : ∀ t, t < s → S t = false) :
    Calls Tryd.prog 66 #[.slice (some ⟨b, 0, none⟩) m m] w fun e w' => e = .returned (.tuple #[.int .i64 s, .bool true]) ∧ w' = w := by
  refine (least_any b m S w hm h hV).mono ?_
  rintro e w' ⟨rfl, ⟨t, ht, ht1, ht2, rfl⟩ | ⟨hn, rfl⟩⟩
  · have : t = s := by
      rcases Nat.lt_trichotomy t s with h | h | h
      · rw [h2 t h] at ht1; cases ht1
      · exact h
      · rw [ht2 s h] at h1; cases h1
    rw [this]; exact ⟨rfl, rfl⟩
  · rw [hn s hs] at h1; cases h1
theorem least_none (b m : Nat) (S : Nat → Bool) (w : World) (hm : m ≤ 1000) (h : SetAt w b m S) (hV : Vars w) (h1 : ∀ t, S t = false) :
    Calls Tryd.prog 66 #[.slice (some ⟨b, 0, none⟩) m m] w fun e w' => e = .returned (.tuple #[.int .i64 0, .bool false]) ∧ w' = w := by
  refine (least_any b m S w hm h hV).mono ?_
  rintro e w' ⟨rfl, ⟨t, ht, ht1, ht2, rfl⟩ | ⟨hn, rfl⟩⟩
  · rw [h1 t] at ht1; cases ht1
  · exact ⟨rfl, rfl⟩
set_option maxHeartbeats 1000000 in
theorem placeC_none (B : HB) (n : Nat) (R : HR) (c : Nat) (w : World) (h : At w B n R) (hV : Vars w) (hc : c < 6) (h1 : ∀ s, R.op c s = false) (h2 : ∀ s, R.fr s = false) :
    Calls Tryd.prog 55 #[B.ptr, .int .i64 c] w fun e w' => e = .returned (.tuple #[.int .i64 0, .bool false]) ∧ w' = w := by
  have c2 := h.c2
  have cc := h.c3 c hc
  have HL := hide (least_none (B.bo c) (setM n) (R.op c) w (setM_le h.hi) (h.op c hc) hV h1)
  have HM := hide (least_none B.bf (setM n) R.fr w (setM_le h.hi) h.fr hV h2)
  clear h hV h1 h2
  unfold HB.ptr at *
  go_enter Tryd.func55, Tryd.ntmps55
  go_wp2_with fail
  refine (unhide HL).mono ?_; rintro e w' ⟨rfl, rfl⟩
  go_wp2_with fail
  refine (unhide HM).mono ?_; rintro e w' ⟨rfl, rfl⟩
  go_wp2_with fail
  go_ret2
  exact ⟨rfl, rfl⟩
theorem Vars.fr {w w' : World} {K : Nat → Prop} (h : Vars w) (k : Fr K w w') (h0 : ¬ K 0) (h1 : ¬ K 1) : Vars w' := by
  constructor
  · intro j hj
    have := h.t32 j hj
    exact (World.cell?_of_block (w := w) (a := ⟨0, j, none⟩) (k.block 0 (World.block_lt_of_cell? w ⟨0, j, none⟩ this) h0)).trans this
  · intro j hj
    have := h.t64 j hj
    exact (World.cell?_of_block (w := w) (a := ⟨1, j, none⟩) (k.block 1 (World.block_lt_of_cell? w ⟨1, j, none⟩ this) h1)).trans this
/-- The set of a class, behind a block more. -/
def opAft (S : Nat → Bool) (s v r : Nat) : Nat → Bool := if pop v 32 = 64 / r then upd S s false else S
theorem opAft_pos {S : Nat → Bool} {s v r : Nat} (h : decide (pop v 32 = 64 / r) = true) : opAft S s v r = upd S s false := if_pos (of_decide_eq_true h)
theorem opAft_neg {S : Nat → Bool} {s v r : Nat} (h : decide (pop v 32 = 64 / r) = false) : opAft S s v r = S := if_neg (of_decide_eq_false h)
end Go.Proofs.YtjblmincldaklaaDoor
namespace Go.Proofs.YtjblmincldaklaaDoor
open Go.RowKit Go.Proofs.YtjblmincldaklaaDoor.Hp
theorem not32 (u : Nat) (hu : u < 4294967296) : bits .xor .u32 IntKind.u32.max (u : Int) = ((4294967295 - u : Nat) : Int) := by
  rw [show IntKind.u32.max = ((4294967295 : Nat) : Int) from rfl, u32_xor_nat _ _ (by decide) hu]
  congr 1
  apply Nat.eq_of_testBit_eq
  intro j
  rw [Nat.testBit_xor, show 4294967295 - u = 2 ^ 32 - (u + 1) by omega, Nat.testBit_two_pow_sub_succ hu, show 4294967295 = 2 ^ 32 - 1 from rfl, Nat.testBit_two_pow_sub_one]
  by_cases h : j < 32
  · simp [h]
  · rw [Nat.testBit_lt_two_pow (Nat.lt_of_lt_of_le hu (show 4294967296 ≤ 2 ^ j from Nat.pow_le_pow_right (n := 2) (i := 32) (by decide) (by omega)))]
    simp [h]
set_option maxHeartbeats 2000000 in
theorem placeC_open (B : HB) (n : Nat) (R : HR) (c s u r pl v : Nat) (w : World) (h : At w B n R) (hV : Vars w) (hc : c < 6) (hs : s < n) (h1 : R.op c s = true) (h2 : ∀ t, t < s → R.op c t = false)
    (hr : R.rm s = r) (hr0 : 0 < r) (hr1 : r ≤ 64) (hu : R.us s = u) (hu1 : u < 4294967295) (hp : Lib.ctz 32 (4294967295 - u) = pl) (hv : u ||| 2 ^ pl = v) :
    Calls Tryd.prog 55 #[B.ptr, .int .i64 c] w fun e w' => e = .returned (.tuple #[.int .i64 ((s * 64 + pl * r : Nat) : Int), .bool true]) ∧ Fr B.mem w w' ∧ At w' B n { R with us := upd R.us s v, op := upd R.op c (opAft (R.op c) s v r) } := by
  have hpl : pl < 32 := by rw [← hp]; exact ctz_lt (by omega) (by omega)
  have hvl : v < 4294967296 := by rw [← hv]; exact Nat.or_lt_two_pow (n := 32) (by omega) (Nat.pow_lt_pow_right (by decide) hpl)
  have hh := h.hi
  have HL := hide (least_some (B.bo c) (setM n) (R.op c) s w (setM_le h.hi) (h.op c hc) hV (setM_lt hs) h1 h2)
  have HT := hide (tz32_any (4294967295 - u) (by omega) (by omega) w hV)
  rw [hp] at HT
  have c1 := h.c1
  have cc := h.c3 c hc
  have cr := h.cr s hs
  have cu := h.cu s hs
  have fz := h.fz (s * 2 + 1) (by omega)
  rw [hr] at cr
  rw [hu] at cu
  have HA := hide (h.storeU s v hs)
  have hps := h.ok.ps
  have HFl := hide (fun w' => full_any r v w' hr0 (by omega) hvl)
  have hsg : IntKind.u32.signed = false := rfl
  have hxo := not32 u (by omega)
  have hprl : pl * r ≤ 2048 := Nat.mul_le_mul (show pl ≤ 32 by omega) (show r ≤ 64 by omega)
  have hor : bits .or .u32 (u : Int) (2 ^ pl % 4294967296) = (v : Int) := by
    have hwr : (2 : Int) ^ pl % 4294967296 = ((2 ^ pl : Nat) : Int) := by
      have : 2 ^ pl < 2 ^ 32 := Nat.pow_lt_pow_right (by decide) hpl
      rw [show (2 : Int) ^ pl = ((2 ^ pl : Nat) : Int) by simp]
      generalize 2 ^ pl = z at *
      omega
    rw [hwr, u32_or_nat _ _ (by omega) (Nat.pow_lt_pow_right (by decide) hpl), hv]
  have HRM := hide hr
  clear h hV h1 h2 hr hu hp hv
  unfold HB.ptr at *
  go_enter Tryd.func55, Tryd.ntmps55
  go_wp2_with fail
  refine (unhide HL).mono ?_; rintro e w' ⟨rfl, rfl⟩
  go_wp2_with fail
  refine (unhide HT).mono ?_; rintro e w5 ⟨rfl, hw5⟩
  obtain rfl := hw5.symm
  clear hw5
  go_wp2
  go_region
  all_goals (try go_wp2_with fail)
  try rw [hor]
  refine (unhide HFl _).mono ?_; rintro e w2 ⟨rfl, hq⟩
  have hA2 := ((unhide HA).quiet ((Fr.refl _ _).drew)).quiet hq
  have HF2 : Hid (Fr B.mem w' w2) := hide ((((Fr.refl B.mem w').setCell (p := ⟨B.bs, s * 2 + 1, none⟩) (.inr (.inr (.inl rfl))) _).drew.trans hq.toMem))
  have cc2 := hA2.c3 c hc
  have cr2 := hA2.cr s hs
  simp only [unhide HRM] at cr2
  have HR := hide (remove_any (B.bo c) (setM n) s (R.op c) w2 (setM_le hh) (setM_lt hs) ( hA2.op c hc))
  have HA2 := hide hA2
  clear hA2 hq HA HFl HT HL cc cu fz c1 cr
  by_cases hfd : decide (pop v 32 = 64 / r) = true
  · have HFD := hide hfd
    rw [hfd]
    clear hfd
    go_wp2_with fail
    refine (unhide HR).mono ?_; rintro e w3 ⟨rfl, hs3, hw3⟩
    have cr3 : w3.cell? ⟨B.bs, s * 2, none⟩ = some (.int .i64 r) := by
      have := ((unhide HA2).setO hc hw3 hs3).cr s hs
      simp only [unhide HRM] at this
      exact this
    go_wp2_with fail
    go_ret2
    refine ⟨ret_two (val_int (by push_cast; omega)) rfl, (unhide HF2).trans (hw3.oMem hc), ?_⟩
    rw [opAft_pos (unhide HFD)]; exact (unhide HA2).setO hc hw3 hs3
  · have hfd' : decide (pop v 32 = 64 / r) = false := by simpa using hfd
    have HFD := hide hfd'
    rw [hfd']
    clear hfd hfd'
    go_wp2_with fail
    go_ret2
    refine ⟨ret_two (val_int (by push_cast; omega)) rfl, unhide HF2, ?_⟩
    rw [opAft_neg (unhide HFD)]; exact (unhide HA2).congr (fun _ _ => rfl) (fun _ _ => rfl) (fun _ => rfl) (fun d _ t => by by_cases e : d = c <;> simp [upd, e]) (fun _ _ => rfl)

set_option maxHeartbeats 2000000 in
theorem placeC_free (B : HB) (n : Nat) (R : HR) (c s u r pl v : Nat) (w : World) (h : At w B n R) (hV : Vars w) (hc : c < 6) (hs : s < n) (h1 : ∀ t, R.op c t = false) (h3 : R.fr s = true) (h2 : ∀ t, t < s → R.fr t = false)
    (hr : 2 ^ (c + 1) = r) (hr0 : 0 < r) (hr1 : r ≤ 64) (hu : R.us s = u) (hu1 : u < 4294967295) (hp : Lib.ctz 32 (4294967295 - u) = pl) (hv : u ||| 2 ^ pl = v) (h0 : ¬ B.mem 0) (h00 : ¬ B.mem 1) :
    Calls Tryd.prog 55 #[B.ptr, .int .i64 c] w fun e w' => e = .returned (.tuple #[.int .i64 ((s * 64 + pl * r : Nat) : Int), .bool true]) ∧ Fr B.mem w w' ∧ At w' B n { R with rm := upd R.rm s r, fr := upd R.fr s false, us := upd R.us s v, op := upd R.op c (opAft (upd (R.op c) s true) s v r) } := by
  have hpl : pl < 32 := by rw [← hp]; exact ctz_lt (by omega) (by omega)
  have hvl : v < 4294967296 := by rw [← hv]; exact Nat.or_lt_two_pow (n := 32) (by omega) (Nat.pow_lt_pow_right (by decide) hpl)
  have hh := h.hi
  have HL := hide (least_none (B.bo c) (setM n) (R.op c) w (setM_le h.hi) (h.op c hc) hV h1)
  have HM := hide (least_some B.bf (setM n) R.fr s w (setM_le h.hi) h.fr hV (setM_lt hs) h3 h2)
  have HTv := hide (fun w' => tz32_any (4294967295 - u) (by omega) (by omega) w')
  rw [hp] at HTv
  have HRo := hide (roomOf_any c w hc)
  rw [hr] at HRo
  have HG := hide (give_any B n R s 1 r w h (by omega) (by omega))
  have c2 := h.c2
  have cc := h.c3 c hc
  have hps := h.ok.ps
  have HFl := hide (fun w' => full_any r v w' hr0 (by omega) hvl)
  have hsg : IntKind.u32.signed = false := rfl
  have hxo := not32 u (by omega)
  have hprl : pl * r ≤ 2048 := Nat.mul_le_mul (show pl ≤ 32 by omega) (show r ≤ 64 by omega)
  have hor : bits .or .u32 (u : Int) (2 ^ pl % 4294967296) = (v : Int) := by
    have hwr : (2 : Int) ^ pl % 4294967296 = ((2 ^ pl : Nat) : Int) := by
      have : 2 ^ pl < 2 ^ 32 := Nat.pow_lt_pow_right (by decide) hpl
      rw [show (2 : Int) ^ pl = ((2 ^ pl : Nat) : Int) by simp]
      generalize 2 ^ pl = z at *
      omega
    rw [hwr, u32_or_nat _ _ (by omega) (Nat.pow_lt_pow_right (by decide) hpl), hv]
  have HU := hide hu
  have HVs := hide hV
  clear h hV h1 h2 h3 hr hu hp hv
  unfold HB.ptr at *
  go_enter Tryd.func55, Tryd.ntmps55
  go_wp2_with fail
  refine (unhide HL).mono ?_; rintro e w' ⟨rfl, rfl⟩
  go_wp2_with fail
  refine (unhide HM).mono ?_; rintro e w' ⟨rfl, rfl⟩
  go_wp2_with fail
  refine (unhide HRo).mono ?_; rintro e w' ⟨rfl, rfl⟩
  go_wp2_with fail
  refine (unhide HG).mono ?_; rintro e w1 ⟨rfl, hF1, hA1⟩
  rw [cutF_one] at hA1
  have cc1 := hA1.c3 c hc
  have HAd := hide (add_any (B.bo c) (setM n) s (R.op c) w1 (setM_le hh) (setM_lt hs) (hA1.op c hc))
  have HA1 := hide hA1
  have HF1 := hide hF1
  clear hA1 hF1 HG HM cc c2
  go_wp2_with fail
  refine (unhide HAd).mono ?_; rintro e w4 ⟨rfl, hs4, hw4⟩
  have hA4 := (unhide HA1).setO hc hw4 hs4
  have hF4 := (unhide HF1).trans (hw4.oMem hc)
  have HT := hide (unhide HTv w4 ((unhide HVs).fr hF4 h0 h00))
  have c1 := hA4.c1
  have cc := hA4.c3 c hc
  have cr := hA4.cr s hs
  have cu := hA4.cu s hs
  have fz := hA4.fz (s * 2 + 1) (by omega)
  simp only [upd_same] at cr
  simp only [unhide HU] at cu
  have HA := hide (hA4.storeU s v hs)
  have HF4 := hide hF4
  clear hA4 hF4 hs4 hw4 HAd HA1 HF1 HTv HVs cc1
  go_wp2_with fail
  refine (unhide HT).mono ?_; rintro e w5 ⟨rfl, hw5⟩
  obtain rfl := hw5.symm
  clear hw5
  go_wp2
  go_region
  all_goals (try go_wp2_with fail)
  try rw [hor]
  refine (unhide HFl _).mono ?_; rintro e w2 ⟨rfl, hq⟩
  have hA2 := ((unhide HA).quiet ((Fr.refl _ _).drew)).quiet hq
  have HF2 : Hid (Fr B.mem w' w2) := hide (((unhide HF4).trans (((Fr.refl B.mem w4).setCell (p := ⟨B.bs, s * 2 + 1, none⟩) (.inr (.inr (.inl rfl))) _).drew.trans hq.toMem)))
  have cc2 := hA2.c3 c hc
  have cr2 := hA2.cr s hs
  simp only [upd_same] at cr2
  have HR := hide (remove_any (B.bo c) (setM n) s (upd (R.op c) s true) w2 (setM_le hh) (setM_lt hs) (by have := hA2.op c hc; simp only [upd_same] at this; exact this))
  have HA2 := hide hA2
  clear hA2 hq HA HFl HT HL cc cu fz c1 cr
  by_cases hfd : decide (pop v 32 = 64 / r) = true
  · have HFD := hide hfd
    rw [hfd]
    clear hfd
    go_wp2_with fail
    refine (unhide HR).mono ?_; rintro e w3 ⟨rfl, hs3, hw3⟩
    have cr3 : w3.cell? ⟨B.bs, s * 2, none⟩ = some (.int .i64 r) := by
      have := ((unhide HA2).setO hc hw3 hs3).cr s hs
      simp only [upd_same] at this
      exact this
    go_wp2_with fail
    go_ret2
    refine ⟨ret_two (val_int (by push_cast; omega)) rfl, (unhide HF2).trans (hw3.oMem hc), ?_⟩
    rw [opAft_pos (unhide HFD)]; exact ((unhide HA2).setO hc hw3 hs3).congr (fun _ _ => rfl) (fun _ _ => rfl) (fun _ => rfl) (fun d _ t => by by_cases e : d = c <;> simp [upd, e]) (fun _ _ => rfl)
  · have hfd' : decide (pop v 32 = 64 / r) = false := by simpa using hfd
    have HFD := hide hfd'
    rw [hfd']
    clear hfd hfd'
    go_wp2_with fail
    go_ret2
    refine ⟨ret_two (val_int (by push_cast; omega)) rfl, unhide HF2, ?_⟩
    rw [opAft_neg (unhide HFD)]; exact (unhide HA2).congr (fun _ _ => rfl) (fun _ _ => rfl) (fun _ => rfl) (fun d _ t => by by_cases e : d = c <;> simp [upd, e]) (fun _ _ => rfl)

end Go.Proofs.YtjblmincldaklaaDoor
namespace Go.Proofs.YtjblmincldaklaaDoor
open Go.RowKit Go.Proofs.YtjblmincldaklaaDoor.Hp
/-- A span: free; part of a block that begins further ahead (or none of the heap's); with places of a class, those of u taken; the first of k that are one block. -/
inductive Kd where
  | free
  | tail
  | cls (c u : Nat)
  | head (k : Nat)
def rmK : Kd → Nat | .cls c _ => 2 ^ (c + 1) | .head k => 64 * k | _ => 0
def usK : Kd → Nat | .cls _ u => u | .head _ => 1 | _ => 0
def frK : Kd → Bool | .free => true | _ => false
def fullC (c : Nat) : Nat := 2 ^ 2 ^ (5 - c) - 1
def opK (c : Nat) : Kd → Bool | .cls d u => decide (d = c) && decide (u ≠ fullC d) | _ => false
def hrOf (A : Nat → Kd) (wd : Nat → Int) : HR := ⟨fun s => rmK (A s), fun s => usK (A s), fun s => frK (A s), fun c s => opK c (A s), wd⟩
structure Inv (n : Nat) (A : Nat → Kd) : Prop where
  zero : A 0 = .tail
  past : ∀ s, n ≤ s → A s = .tail
  cls : ∀ s c u, A s = .cls c u → c < 6 ∧ 0 < u ∧ u ≤ fullC c
  head : ∀ s k, A s = .head k → 2 ≤ k ∧ k ≤ 257 ∧ s + k ≤ n ∧ ∀ t, s < t → t < s + k → A t = .tail
  tail : ∀ s, 1 ≤ s → s < n → A s = .tail → ∃ h k, A h = .head k ∧ h < s ∧ s < h + k
theorem c6 {c : Nat} (h : c < 6) : c = 0 ∨ c = 1 ∨ c = 2 ∨ c = 3 ∨ c = 4 ∨ c = 5 := by omega
theorem fullC_lt {c : Nat} (h : c < 6) : fullC c < 4294967296 := by rcases c6 h with rfl | rfl | rfl | rfl | rfl | rfl <;> decide
theorem places {c : Nat} (h : c < 6) : 64 / 2 ^ (c + 1) = 2 ^ (5 - c) := by rcases c6 h with rfl | rfl | rfl | rfl | rfl | rfl <;> rfl
theorem places_le {c : Nat} (h : c < 6) : 2 ^ (5 - c) ≤ 32 := by rcases c6 h with rfl | rfl | rfl | rfl | rfl | rfl <;> decide
theorem room_le {c : Nat} (h : c < 6) : 2 ^ (c + 1) ≤ 64 := by rcases c6 h with rfl | rfl | rfl | rfl | rfl | rfl <;> decide
theorem ones_iff {q v : Nat} (h : v < 2 ^ q) : v = 2 ^ q - 1 ↔ ∀ j, j < q → v.testBit j = true := by
  constructor
  · rintro rfl j hj
    rw [Nat.testBit_two_pow_sub_one, decide_eq_true hj]
  · intro hb
    apply Nat.eq_of_testBit_eq
    intro j
    rw [Nat.testBit_two_pow_sub_one]
    by_cases hj : j < q
    · rw [hb j hj, decide_eq_true hj]
    · rw [Nat.testBit_lt_two_pow (Nat.lt_of_lt_of_le h (Nat.pow_le_pow_right (by decide) (by omega))), decide_eq_false hj]
theorem full_iff {c v : Nat} (hc : c < 6) (hv : v ≤ fullC c) : pop v 32 = 64 / 2 ^ (c + 1) ↔ v = fullC c := by
  have hl : v < 2 ^ 2 ^ (5 - c) := by
    have : 0 < 2 ^ 2 ^ (5 - c) := Nat.pow_pos (by decide)
    unfold fullC at hv; omega
  have hq := places_le hc
  rw [places hc, fullC, ones_iff hl, show 32 = 2 ^ (5 - c) + (32 - 2 ^ (5 - c)) by omega, pop_small _ _ _ hl]
  exact cntN_full _
/-- The lowest place that is free. -/
def lowP (u : Nat) : Nat := Lib.ctz 32 (4294967295 - u)
theorem lowP_spec {u : Nat} (hu : u < 4294967295) : u.testBit (lowP u) = false ∧ (∀ j, j < lowP u → u.testBit j = true) ∧ lowP u < 32 := by
  have h0 : 4294967295 - u ≠ 0 := by omega
  have hl : 4294967295 - u < 2 ^ 32 := by omega
  have hs := ctz_spec h0 hl
  have hlt := ctz_lt h0 hl
  have hb : ∀ j, (4294967295 - u).testBit j = (decide (j < 32) && !u.testBit j) := fun j => by
    rw [show 4294967295 - u = 2 ^ 32 - (u + 1) by omega, Nat.testBit_two_pow_sub_succ (by omega)]
  unfold lowP
  refine ⟨?_, fun j hj => ?_, hlt⟩
  · have := hs.1
    rw [hb, decide_eq_true hlt] at this
    simpa using this
  · have := hs.2 j hj
    rw [hb, decide_eq_true (by omega)] at this
    simpa using this
theorem lowP_lt {c u : Nat} (hc : c < 6) (hu : u ≤ fullC c) (hn : u ≠ fullC c) : u < 4294967295 ∧ lowP u < 2 ^ (5 - c) := by
  have h1 := fullC_lt hc
  have hu1 : u < 4294967295 := by omega
  refine ⟨hu1, Nat.lt_of_not_le fun hle => hn ?_⟩
  have hl : u < 2 ^ 2 ^ (5 - c) := by
    have : 0 < 2 ^ 2 ^ (5 - c) := Nat.pow_pos (by decide)
    unfold fullC at hu; omega
  exact (ones_iff hl).2 fun j hj => (lowP_spec hu1).2.1 j (by omega)
theorem or_le {c u : Nat} (hu : u ≤ fullC c) (hp : lowP u < 2 ^ (5 - c)) : u ||| 2 ^ lowP u ≤ fullC c ∧ 0 < u ||| 2 ^ lowP u := by
  have h0 : 0 < 2 ^ 2 ^ (5 - c) := Nat.pow_pos (by decide)
  have : u ||| 2 ^ lowP u < 2 ^ 2 ^ (5 - c) := Nat.or_lt_two_pow (by unfold fullC at hu; omega) (Nat.pow_lt_pow_right (by decide) hp)
  refine ⟨by unfold fullC; omega, Nat.pos_of_ne_zero fun h => ?_⟩
  have h1 : (u ||| 2 ^ lowP u).testBit (lowP u) = true := by rw [Nat.testBit_or, Nat.testBit_two_pow]; simp
  rw [h] at h1; simp at h1
/-- The room of the block that begins at offset o of a span. -/
def roomK : Kd → Nat → Nat
  | .cls c u, o => if o % 2 ^ (c + 1) = 0 ∧ u.testBit (o / 2 ^ (c + 1)) = true then 2 ^ (c + 1) else 0
  | .head k, o => if o = 0 then 64 * k else 0
  | _, _ => 0
/-- The room of the block at an address. -/
def roomN (A : Nat → Kd) (x : Nat) : Nat := roomK (A (x / 64)) (x % 64)
def roomI (A : Nat → Kd) (a : Int) : Nat := if 0 ≤ a then roomN A a.toNat else 0
theorem roomS_K {n : Nat} {A : Nat → Kd} (h : Inv n A) (s o : Nat) (ho : o < 64) : roomS (rmK (A s)) (usK (A s)) o = roomK (A s) o := by
  cases e : A s with
  | free => rfl
  | tail => rfl
  | cls c u =>
    have : 2 ^ (c + 1) ≠ 0 := Nat.pos_iff_ne_zero.1 (Nat.pow_pos (by decide))
    show roomS (2 ^ (c + 1)) u o = (if o % 2 ^ (c + 1) = 0 ∧ u.testBit (o / 2 ^ (c + 1)) = true then 2 ^ (c + 1) else 0)
    unfold roomS
    rw [if_neg this]
  | head k =>
    have := (h.head s k e).1
    show roomS (64 * k) 1 o = (if o = 0 then 64 * k else 0)
    unfold roomS
    rw [if_neg (by omega)]
    by_cases h0 : o = 0
    · subst h0; simp
    · rw [if_neg (fun x => h0 (by rw [Nat.mod_eq_of_lt (by omega)] at x; exact x.1)), if_neg h0]
theorem roomR_I {n : Nat} {A : Nat → Kd} (wd : Nat → Int) (h : Inv n A) (a : Int) : roomR n (hrOf A wd) a = roomI A a := by
  unfold roomR roomI
  by_cases h0 : 0 ≤ a
  · rw [if_pos h0]
    by_cases h1 : a < 64 * n
    · rw [if_pos ⟨h0, h1⟩]
      exact roomS_K h _ _ (by omega)
    · rw [if_neg (fun x => h1 x.2)]
      unfold roomN
      rw [h.past _ (by omega)]
      rfl
  · rw [if_neg h0, if_neg (fun x => h0 x.1)]
theorem fine_of {n : Nat} {A : Nat → Kd} (wd : Nat → Int) (h : Inv n A) : Fine n (hrOf A wd) := by
  intro s _
  show rmK (A s) ≠ 1 ∧ rmK (A s) ≤ 20000 ∧ usK (A s) < 4294967296
  cases e : A s with
  | free => simp [rmK, usK]
  | tail => simp [rmK, usK]
  | cls c u =>
    obtain ⟨h1, h2, h3⟩ := h.cls s c u e
    have := room_le h1
    have := fullC_lt h1
    have : 2 ^ (c + 1) = 2 * 2 ^ c := by rw [Nat.pow_succ, Nat.mul_comm]
    simp only [rmK, usK]
    omega
  | head k =>
    have := h.head s k e
    simp only [rmK, usK]
    omega
theorem cls_off {c u o : Nat} (hc : c < 6) (ho : o < 64) (h : roomK (.cls c u) o ≠ 0) : o % 2 ^ (c + 1) = 0 ∧ u.testBit (o / 2 ^ (c + 1)) = true ∧ roomK (.cls c u) o = 2 ^ (c + 1) ∧ o + 2 ^ (c + 1) ≤ 64 := by
  simp only [roomK] at h ⊢
  by_cases h1 : o % 2 ^ (c + 1) = 0 ∧ u.testBit (o / 2 ^ (c + 1)) = true
  · rw [if_pos h1]
    refine ⟨h1.1, h1.2, rfl, ?_⟩
    have := h1.1
    clear h h1
    rcases c6 hc with rfl | rfl | rfl | rfl | rfl | rfl <;> simp at this ⊢ <;> omega
  · rw [if_neg h1] at h; exact absurd rfl h
/-- A block's room lies within the heap, behind span 0; even addresses. -/
theorem room_in {n : Nat} {A : Nat → Kd} (h : Inv n A) {x : Nat} (hx : roomN A x ≠ 0) : 64 ≤ x ∧ x + roomN A x ≤ 64 * n ∧ x % 2 = 0 := by
  unfold roomN at *
  have hs : 1 ≤ x / 64 := by
    apply Nat.pos_of_ne_zero
    intro e
    rw [e, h.zero] at hx
    exact hx rfl
  have hn : x / 64 < n := by
    apply Nat.lt_of_not_le
    intro e
    rw [h.past _ e] at hx
    exact hx rfl
  cases e : A (x / 64) with
  | free => rw [e] at hx; exact absurd rfl hx
  | tail => rw [e] at hx; exact absurd rfl hx
  | cls c u =>
    rw [e] at hx
    obtain ⟨h1, _, _⟩ := h.cls _ c u e
    obtain ⟨h2, _, h4, h5⟩ := cls_off h1 (by omega) hx
    rw [h4]
    have h6 : x % 64 % 2 = 0 := by
      rw [Nat.pow_succ] at h2
      have := Nat.mod_mul_left_mod (x % 64) (2 ^ c) 2
      omega
    omega
  | head k =>
    rw [e] at hx
    have h1 := h.head _ k e
    simp only [roomK] at hx ⊢
    by_cases h0 : x % 64 = 0
    · rw [if_pos h0]; omega
    · rw [if_neg h0] at hx; exact absurd rfl hx
theorem fits_of {n : Nat} {A : Nat → Kd} (wd : Nat → Int) (h : Inv n A) : Fits n (hrOf A wd) := by
  intro a ha
  rw [roomR_I wd h] at ha ⊢
  unfold roomI at *
  by_cases h0 : 0 ≤ a
  · rw [if_pos h0] at ha ⊢
    have := room_in h ha
    omega
  · rw [if_neg h0] at ha; exact absurd rfl ha
/-- Two blocks don't overlap. -/
theorem apart {n : Nat} {A : Nat → Kd} (h : Inv n A) {x y : Nat} (hxy : x < y) (hx : roomN A x ≠ 0) (hy : roomN A y ≠ 0) : x + roomN A x ≤ y := by
  unfold roomN at *
  cases e : A (x / 64) with
  | free => rw [e] at hx; exact absurd rfl hx
  | tail => rw [e] at hx; exact absurd rfl hx
  | cls c u =>
    rw [e] at hx
    obtain ⟨h1, _, _⟩ := h.cls _ c u e
    obtain ⟨h2, _, h4, h5⟩ := cls_off h1 (by omega) hx
    rw [h4]
    by_cases hs : y / 64 = x / 64
    · rw [hs, e] at hy
      obtain ⟨g2, _, _, _⟩ := cls_off h1 (by omega) hy
      clear hx hy h4 h5
      rcases c6 h1 with rfl | rfl | rfl | rfl | rfl | rfl <;> simp at h2 g2 ⊢ <;> omega
    · omega
  | head k =>
    rw [e] at hx
    have h1 := h.head _ k e
    simp only [roomK] at hx ⊢
    by_cases h0 : x % 64 = 0
    · rw [if_pos h0]
      by_cases hs : y / 64 = x / 64
      · rw [hs, e] at hy
        simp only [roomK] at hy
        by_cases g0 : y % 64 = 0
        · omega
        · rw [if_neg g0] at hy; exact absurd rfl hy
      · by_cases ht : y / 64 < x / 64 + k
        · rw [h1.2.2.2 _ (by omega) ht] at hy; exact absurd rfl hy
        · omega
    · rw [if_neg h0] at hx; exact absurd rfl hx
/-- Where a block goes. -/
inductive Goes (n : Nat) (A : Nat → Kd) (m : Nat) : Nat → (Nat → Kd) → Prop
  | op (s u : Nat) (hm : m ≤ 64) (hs : s < n) (e : A s = .cls (clOf m) u) (hn : u ≠ fullC (clOf m)) (hl : ∀ t, t < s → opK (clOf m) (A t) = false) : Goes n A m (s * 64 + lowP u * 2 ^ (clOf m + 1)) (upd A s (.cls (clOf m) (u ||| 2 ^ lowP u)))
  | free (s : Nat) (hm : m ≤ 64) (hs : s < n) (e : A s = .free) (hl : ∀ t, t < s → A t ≠ .free) (hn : ∀ t, opK (clOf m) (A t) = false) : Goes n A m (s * 64) (upd A s (.cls (clOf m) 1))
  | row (f k : Nat) (hm : 64 < m) (hk : k = (m + 63) / 64) (hf : f + k ≤ n) (e : ∀ t, f ≤ t → t < f + k → A t = .free) (hl : ∀ g, g < f → ∃ t, g ≤ t ∧ t < g + k ∧ A t ≠ .free) : Goes n A m (f * 64) (fun s => if s = f then .head k else if f < s ∧ s < f + k then .tail else A s)
/-- There is no place. -/
def NoPlace (n : Nat) (A : Nat → Kd) (m : Nat) : Prop :=
  (m ≤ 64 ∧ (∀ t, opK (clOf m) (A t) = false) ∧ ∀ t, A t ≠ .free) ∨ (64 < m ∧ ∀ g, g + (m + 63) / 64 ≤ n → ∃ t, g ≤ t ∧ t < g + (m + 63) / 64 ∧ A t ≠ .free)
def roomOfM (m : Nat) : Nat := if m ≤ 64 then 2 ^ (clOf m + 1) else 64 * ((m + 63) / 64)
theorem roomOfM_ge (m : Nat) : m ≤ roomOfM m := by
  unfold roomOfM
  split
  · rename_i h
    exact Nat.le_of_not_lt fun hh => absurd ((clOf_iff m _ h (clOf_lt m)).1 hh) (by omega)
  · omega
theorem free_pos {n : Nat} {A : Nat → Kd} (h : Inv n A) {s : Nat} (e : A s = .free) : 1 ≤ s ∧ s < n := by
  constructor
  · apply Nat.pos_of_ne_zero
    rintro rfl
    rw [h.zero] at e; cases e
  · apply Nat.lt_of_not_le
    intro hle
    rw [h.past _ hle] at e; cases e
theorem one_le_full {c : Nat} (hc : c < 6) : 1 ≤ fullC c := by rcases c6 hc with rfl | rfl | rfl | rfl | rfl | rfl <;> decide
theorem Inv.cls_upd {n : Nat} {A : Nat → Kd} (h : Inv n A) {s c u : Nat} (e : A s = .free ∨ ∃ d v, A s = .cls d v) (hc : c < 6) (hu : 0 < u) (hu2 : u ≤ fullC c) : Inv n (upd A s (.cls c u)) := by
  have hne : A s ≠ .tail := by rcases e with e | ⟨d, v, e⟩ <;> rw [e] <;> simp
  refine ⟨?_, fun t ht => ?_, fun t d v hd => ?_, fun t k hd => ?_, fun t h1 h2 ht => ?_⟩
  · rw [upd_ne _ _ (fun e0 : 0 = s => hne (e0 ▸ h.zero))]; exact h.zero
  · rw [upd_ne _ _ (fun e0 : t = s => hne (e0 ▸ h.past t ht))]; exact h.past t ht
  · by_cases e0 : t = s
    · subst e0; rw [upd_same] at hd; cases hd; exact ⟨hc, hu, hu2⟩
    · rw [upd_ne _ _ e0] at hd; exact h.cls t d v hd
  · by_cases e0 : t = s
    · subst e0; rw [upd_same] at hd; cases hd
    · rw [upd_ne _ _ e0] at hd
      obtain ⟨a1, a2, a3, a4⟩ := h.head t k hd
      refine ⟨a1, a2, a3, fun x hx1 hx2 => ?_⟩
      rw [upd_ne _ _ (fun e1 : x = s => hne (e1 ▸ a4 x hx1 hx2))]
      exact a4 x hx1 hx2
  · by_cases e0 : t = s
    · subst e0; rw [upd_same] at ht; cases ht
    · rw [upd_ne _ _ e0] at ht
      obtain ⟨x, k, b1, b2, b3⟩ := h.tail t h1 h2 ht
      refine ⟨x, k, ?_, b2, b3⟩
      rw [upd_ne _ _ ?_]
      · exact b1
      · rintro rfl
        rcases e with e | ⟨d, v, e⟩ <;> rw [e] at b1 <;> cases b1
theorem Goes.inv {n : Nat} {A A' : Nat → Kd} {m a : Nat} (h : Inv n A) (hm : m ≤ 16448) (g : Goes n A m a A') : Inv n A' := by
  cases g with
  | op s u hm hs e hn hl =>
    obtain ⟨h1, h2, h3⟩ := h.cls _ _ _ e
    have := or_le h3 (lowP_lt h1 h3 hn).2
    exact h.cls_upd (.inr ⟨_, _, e⟩) h1 this.2 this.1
  | free s hm hs e hl hn => exact h.cls_upd (.inl e) (clOf_lt m) (by omega) (one_le_full (clOf_lt m))
  | row f k hm hk hf e hl =>
    have hf1 := (free_pos h (e f (Nat.le_refl _) (by omega))).1
    refine ⟨?_, fun t ht => ?_, fun t d v hd => ?_, fun t j hd => ?_, fun t h1 h2 ht => ?_⟩
    · rw [if_neg (by omega), if_neg (by omega)]; exact h.zero
    · rw [if_neg (by omega), if_neg (by omega)]; exact h.past t ht
    · by_cases e0 : t = f
      · rw [if_pos e0] at hd; cases hd
      · rw [if_neg e0] at hd
        by_cases e1 : f < t ∧ t < f + k
        · rw [if_pos e1] at hd; cases hd
        · rw [if_neg e1] at hd; exact h.cls t d v hd
    · by_cases e0 : t = f
      · rw [if_pos e0] at hd; cases hd; subst e0
        refine ⟨by omega, by omega, hf, fun x hx1 hx2 => ?_⟩
        rw [if_neg (by omega), if_pos ⟨hx1, hx2⟩]
      · rw [if_neg e0] at hd
        by_cases e1 : f < t ∧ t < f + k
        · rw [if_pos e1] at hd; cases hd
        · rw [if_neg e1] at hd
          obtain ⟨a1, a2, a3, a4⟩ := h.head t j hd
          refine ⟨a1, a2, a3, fun x hx1 hx2 => ?_⟩
          have hxt := a4 x hx1 hx2
          have : ¬ (f ≤ x ∧ x < f + k) := fun y => by rw [e x y.1 y.2] at hxt; cases hxt
          rw [if_neg (by omega), if_neg (by omega)]; exact hxt
    · by_cases e0 : t = f
      · rw [if_pos e0] at ht; cases ht
      · rw [if_neg e0] at ht
        by_cases e1 : f < t ∧ t < f + k
        · exact ⟨f, k, if_pos rfl, e1.1, e1.2⟩
        · rw [if_neg e1] at ht
          obtain ⟨x, j, b1, b2, b3⟩ := h.tail t h1 h2 ht
          have : ¬ (f ≤ x ∧ x < f + k) := fun y => by rw [e x y.1 y.2] at b1; cases b1
          refine ⟨x, j, ?_, b2, b3⟩
          show (if x = f then Kd.head k else if f < x ∧ x < f + k then Kd.tail else A x) = _
          rw [if_neg (by omega), if_neg (by omega)]; exact b1
end Go.Proofs.YtjblmincldaklaaDoor
namespace Go.Proofs.YtjblmincldaklaaDoor
open Go.RowKit Go.Proofs.YtjblmincldaklaaDoor.Hp
/-- The places of a span without the one at offset o. -/
def cutU (c u o : Nat) : Nat := u &&& (4294967295 - 2 ^ (o / 2 ^ (c + 1)))
/-- The heap without the block at x. -/
def freeA (A : Nat → Kd) (x : Nat) : Nat → Kd :=
  match A (x / 64) with
  | .cls c u => if cutU c u (x % 64) = 0 then upd A (x / 64) .free else upd A (x / 64) (.cls c (cutU c u (x % 64)))
  | .head k => fun t => if x / 64 ≤ t ∧ t < x / 64 + k then .free else A t
  | _ => A
theorem freeA_cls {A : Nat → Kd} {x c u : Nat} (e : A (x / 64) = .cls c u) : freeA A x = if cutU c u (x % 64) = 0 then upd A (x / 64) .free else upd A (x / 64) (.cls c (cutU c u (x % 64))) := by
  unfold freeA; rw [e]
theorem freeA_head {A : Nat → Kd} {x k : Nat} (e : A (x / 64) = .head k) : freeA A x = fun t => if x / 64 ≤ t ∧ t < x / 64 + k then .free else A t := by
  unfold freeA; rw [e]
theorem cutU_bit {c u o : Nat} (hc : c < 6) (ho : o < 64) (hu : u ≤ fullC c) (j : Nat) : (cutU c u o).testBit j = (u.testBit j && decide (j ≠ o / 2 ^ (c + 1))) := by
  have hl : o / 2 ^ (c + 1) < 32 := by
    rcases c6 hc with rfl | rfl | rfl | rfl | rfl | rfl <;> simp <;> omega
  have hp : 2 ^ (o / 2 ^ (c + 1)) < 2 ^ 32 := Nat.pow_lt_pow_right (by decide) hl
  have hf := fullC_lt hc
  unfold cutU
  rw [Nat.testBit_and, show 4294967295 - 2 ^ (o / 2 ^ (c + 1)) = 2 ^ 32 - (2 ^ (o / 2 ^ (c + 1)) + 1) by omega, Nat.testBit_two_pow_sub_succ hp, Nat.testBit_two_pow]
  by_cases hj : j < 32
  · by_cases e : j = o / 2 ^ (c + 1)
    · subst e; simp
    · simp [hj, e, Ne.symm e]
  · rw [Nat.testBit_lt_two_pow (Nat.lt_of_lt_of_le (show u < 2 ^ 32 by omega) (Nat.pow_le_pow_right (by decide) (by omega)))]
    simp
theorem cutU_le {c u o : Nat} : cutU c u o ≤ u := Nat.and_le_left
theorem cutU_ne {c u o : Nat} (hc : c < 6) (ho : o < 64) (hu : u ≤ fullC c) : cutU c u o ≠ fullC c := by
  intro e
  have h1 := cutU_bit hc ho hu (o / 2 ^ (c + 1))
  have hl : o / 2 ^ (c + 1) < 2 ^ (5 - c) := by
    rcases c6 hc with rfl | rfl | rfl | rfl | rfl | rfl <;> simp <;> omega
  rw [e, fullC, Nat.testBit_two_pow_sub_one, decide_eq_true hl] at h1
  simp at h1
theorem Inv.free_upd {n : Nat} {A : Nat → Kd} (h : Inv n A) {s c u : Nat} (e : A s = .cls c u) : Inv n (upd A s .free) := by
  have hne : A s ≠ .tail := by rw [e]; simp
  refine ⟨?_, fun t ht => ?_, fun t d v hd => ?_, fun t k hd => ?_, fun t h1 h2 ht => ?_⟩
  · rw [upd_ne _ _ (fun e0 : 0 = s => hne (e0 ▸ h.zero))]; exact h.zero
  · rw [upd_ne _ _ (fun e0 : t = s => hne (e0 ▸ h.past t ht))]; exact h.past t ht
  · by_cases e0 : t = s
    · subst e0; rw [upd_same] at hd; cases hd
    · rw [upd_ne _ _ e0] at hd; exact h.cls t d v hd
  · by_cases e0 : t = s
    · subst e0; rw [upd_same] at hd; cases hd
    · rw [upd_ne _ _ e0] at hd
      obtain ⟨a1, a2, a3, a4⟩ := h.head t k hd
      refine ⟨a1, a2, a3, fun x hx1 hx2 => ?_⟩
      rw [upd_ne _ _ (fun e1 : x = s => hne (e1 ▸ a4 x hx1 hx2))]
      exact a4 x hx1 hx2
  · by_cases e0 : t = s
    · subst e0; rw [upd_same] at ht; cases ht
    · rw [upd_ne _ _ e0] at ht
      obtain ⟨x, k, b1, b2, b3⟩ := h.tail t h1 h2 ht
      refine ⟨x, k, ?_, b2, b3⟩
      rw [upd_ne _ _ ?_]
      · exact b1
      · rintro rfl
        rw [e] at b1; cases b1
theorem Inv.freed {n : Nat} {A : Nat → Kd} (h : Inv n A) {x : Nat} (hx : roomN A x ≠ 0) : Inv n (freeA A x) := by
  unfold roomN at hx
  cases e : A (x / 64) with
  | free => rw [e] at hx; exact absurd rfl hx
  | tail => rw [e] at hx; exact absurd rfl hx
  | cls c u =>
    obtain ⟨h1, h2, h3⟩ := h.cls _ _ _ e
    rw [freeA_cls e]
    split
    · exact h.free_upd e
    · exact h.cls_upd (.inr ⟨_, _, e⟩) h1 (by omega) (Nat.le_trans cutU_le h3)
  | head k =>
    obtain ⟨k1, k2, k3, k4⟩ := h.head _ _ e
    rw [freeA_head e]
    have h0 : 1 ≤ x / 64 := by
      apply Nat.pos_of_ne_zero
      intro e0
      rw [e0, h.zero] at e; cases e
    refine ⟨?_, fun t ht => ?_, fun t d v hd => ?_, fun t j hd => ?_, fun t h1 h2 ht => ?_⟩
    · rw [if_neg (by omega)]; exact h.zero
    · rw [if_neg (by omega)]; exact h.past t ht
    · by_cases e0 : x / 64 ≤ t ∧ t < x / 64 + k
      · rw [if_pos e0] at hd; cases hd
      · rw [if_neg e0] at hd; exact h.cls t d v hd
    · by_cases e0 : x / 64 ≤ t ∧ t < x / 64 + k
      · rw [if_pos e0] at hd; cases hd
      · rw [if_neg e0] at hd
        obtain ⟨a1, a2, a3, a4⟩ := h.head t j hd
        refine ⟨a1, a2, a3, fun y hy1 hy2 => ?_⟩
        rw [if_neg ?_]
        · exact a4 y hy1 hy2
        · intro e1
          by_cases e2 : t < x / 64
          · have := a4 (x / 64) e2 (by omega)
            rw [e] at this; cases this
          · omega
    · by_cases e0 : x / 64 ≤ t ∧ t < x / 64 + k
      · rw [if_pos e0] at ht; cases ht
      · rw [if_neg e0] at ht
        obtain ⟨y, j, b1, b2, b3⟩ := h.tail t h1 h2 ht
        refine ⟨y, j, ?_, b2, b3⟩
        show (if x / 64 ≤ y ∧ y < x / 64 + k then Kd.free else A y) = _
        rw [if_neg ?_]
        · exact b1
        · intro e1
          by_cases e2 : y = x / 64
          · subst e2; rw [e] at b1; cases b1; omega
          · have := k4 y (by omega) e1.2
            rw [this] at b1; cases b1
theorem roomN_off {A B : Nat → Kd} {y : Nat} (e : A (y / 64) = B (y / 64)) : roomN A y = roomN B y := by unfold roomN; rw [e]
/-- Of the rooms only that of the freed block turns. -/
theorem room_freed {n : Nat} {A : Nat → Kd} (h : Inv n A) {x : Nat} (hx : roomN A x ≠ 0) (y : Nat) : roomN (freeA A x) y = if y = x then 0 else roomN A y := by
  have hx' := hx
  unfold roomN at hx'
  cases e : A (x / 64) with
  | free => rw [e] at hx'; exact absurd rfl hx'
  | tail => rw [e] at hx'; exact absurd rfl hx'
  | cls c u =>
    obtain ⟨h1, h2, h3⟩ := h.cls _ _ _ e
    rw [e] at hx'
    obtain ⟨o1, o2, o3, o4⟩ := cls_off h1 (by omega) hx'
    have key : ∀ o, o < 64 → roomK (.cls c (cutU c u (x % 64))) o = if o = x % 64 then 0 else roomK (.cls c u) o := by
      intro o ho
      simp only [roomK]
      rw [cutU_bit h1 (by omega) h3]
      by_cases eo : o = x % 64
      · subst eo; simp
      · rw [if_neg eo]
        by_cases hz : o % 2 ^ (c + 1) = 0
        · have : o / 2 ^ (c + 1) ≠ x % 64 / 2 ^ (c + 1) := by
            intro e1
            apply eo
            have e2 := Nat.div_add_mod o (2 ^ (c + 1))
            have e3 := Nat.div_add_mod (x % 64) (2 ^ (c + 1))
            rw [e1] at e2
            omega
          simp [this]
        · rw [if_neg (fun q => hz q.1), if_neg (fun q => hz q.1)]
    rw [freeA_cls e]
    by_cases hs : y / 64 = x / 64
    · have hyx : (y = x) ↔ (y % 64 = x % 64) := by omega
      by_cases hz : cutU c u (x % 64) = 0
      · rw [if_pos hz]
        have k2 := key (y % 64) (by omega)
        rw [hz] at k2
        unfold roomN
        rw [hs, upd_same, e]
        simp only [hyx]
        rw [← k2]
        simp [roomK]
      · rw [if_neg hz]
        unfold roomN
        rw [hs, upd_same, e]
        simp only [hyx]
        exact key (y % 64) (by omega)
    · rw [if_neg (show y ≠ x by rintro rfl; exact hs rfl)]
      split <;> exact roomN_off (upd_ne _ _ hs)
  | head k =>
    obtain ⟨k1, k2, k3, k4⟩ := h.head _ _ e
    rw [e] at hx'
    have hx0 : x % 64 = 0 := by
      simp only [roomK] at hx'
      by_cases h0 : x % 64 = 0
      · exact h0
      · rw [if_neg h0] at hx'; exact absurd rfl hx'
    rw [freeA_head e]
    by_cases e0 : x / 64 ≤ y / 64 ∧ y / 64 < x / 64 + k
    · have : roomN (fun t => if x / 64 ≤ t ∧ t < x / 64 + k then Kd.free else A t) y = 0 := by
        unfold roomN; dsimp only; rw [if_pos e0]; rfl
      rw [this]
      by_cases hs : y / 64 = x / 64
      · by_cases hyx : y = x
        · rw [if_pos hyx]
        · rw [if_neg hyx]
          unfold roomN
          rw [hs, e]
          simp only [roomK]
          rw [if_neg (by omega)]
      · rw [if_neg (by omega)]
        unfold roomN
        rw [k4 _ (by omega) e0.2]
        rfl
    · rw [if_neg (by omega)]
      unfold roomN
      simp only [if_neg e0]
/-- Of the rooms only that of the new block turns: it was none. -/
theorem room_goes {n : Nat} {A A' : Nat → Kd} {m a : Nat} (h : Inv n A) (g : Goes n A m a A') : roomN A a = 0 ∧ ∀ y, roomN A' y = if y = a then roomOfM m else roomN A y := by
  cases g with
  | op s u hm hs e hn hl =>
    obtain ⟨h1, h2, h3⟩ := h.cls _ _ _ e
    obtain ⟨l1, l2⟩ := lowP_lt h1 h3 hn
    have lb := lowP_spec l1
    have hR : roomOfM m = 2 ^ (clOf m + 1) := by unfold roomOfM; rw [if_pos hm]
    rw [hR]
    generalize clOf m = c at *
    have ho : lowP u * 2 ^ (c + 1) < 64 := by
      rcases c6 h1 with rfl | rfl | rfl | rfl | rfl | rfl <;> simp at l2 ⊢ <;> omega
    have hp : 0 < 2 ^ (c + 1) := Nat.pow_pos (by decide)
    have da : (s * 64 + lowP u * 2 ^ (c + 1)) / 64 = s := by omega
    have ma : (s * 64 + lowP u * 2 ^ (c + 1)) % 64 = lowP u * 2 ^ (c + 1) := by omega
    constructor
    · unfold roomN
      rw [da, ma, e]
      simp only [roomK]
      rw [Nat.mul_mod_left, Nat.mul_div_cancel _ hp, lb.1]
      simp
    · intro y
      by_cases hs2 : y / 64 = s
      · have hyx : (y = s * 64 + lowP u * 2 ^ (c + 1)) ↔ (y % 64 = lowP u * 2 ^ (c + 1)) := by omega
        simp only [hyx]
        unfold roomN
        rw [hs2, upd_same, e]
        simp only [roomK]
        by_cases eo : y % 64 = lowP u * 2 ^ (c + 1)
        · rw [if_pos eo, if_pos]
          rw [eo, Nat.mul_mod_left, Nat.mul_div_cancel _ hp, Nat.testBit_or, Nat.testBit_two_pow]
          simp
        · rw [if_neg eo, Nat.testBit_or, Nat.testBit_two_pow]
          by_cases hz : y % 64 % 2 ^ (c + 1) = 0
          · have : ¬ (lowP u = y % 64 / 2 ^ (c + 1)) := by
              intro e1
              apply eo
              have e2 := Nat.div_add_mod (y % 64) (2 ^ (c + 1))
              rw [← e1, Nat.mul_comm] at e2
              omega
            simp [this]
          · rw [if_neg (fun q => hz q.1), if_neg (fun q => hz q.1)]
      · rw [if_neg (by omega)]
        exact roomN_off (upd_ne _ _ hs2)
  | free s hm hs e hl hn =>
    have hR : roomOfM m = 2 ^ (clOf m + 1) := by unfold roomOfM; rw [if_pos hm]
    rw [hR]
    have h1 := clOf_lt m
    generalize clOf m = c at *
    have hp : 0 < 2 ^ (c + 1) := Nat.pow_pos (by decide)
    have da : (s * 64) / 64 = s := by omega
    constructor
    · unfold roomN; rw [da, e]; rfl
    · intro y
      by_cases hs2 : y / 64 = s
      · have hyx : (y = s * 64) ↔ (y % 64 = 0) := by omega
        simp only [hyx]
        unfold roomN
        rw [hs2, upd_same, e]
        simp only [roomK]
        by_cases eo : y % 64 = 0
        · rw [if_pos eo, if_pos]
          rw [eo]; simp
        · rw [if_neg eo, if_neg]
          intro q
          have e2 := Nat.div_add_mod (y % 64) (2 ^ (c + 1))
          have e3 : y % 64 / 2 ^ (c + 1) ≠ 0 := by
            intro e4; rw [e4, q.1] at e2; omega
          have q2 := q.2
          rw [Nat.testBit_one_eq_true_iff_self_eq_zero] at q2
          exact e3 q2
      · rw [if_neg (by omega)]
        exact roomN_off (upd_ne _ _ hs2)
  | row f k hm hk hf e hl =>
    have hR : roomOfM m = 64 * k := by unfold roomOfM; rw [if_neg (by omega), hk]
    rw [hR]
    have da : (f * 64) / 64 = f := by omega
    constructor
    · unfold roomN; rw [da, e f (Nat.le_refl _) (by omega)]; rfl
    · intro y
      by_cases hs2 : y / 64 = f
      · have hyx : (y = f * 64) ↔ (y % 64 = 0) := by omega
        simp only [hyx]
        unfold roomN
        rw [hs2]
        dsimp only
        rw [if_pos rfl, e f (Nat.le_refl _) (by omega)]
        rfl
      · rw [if_neg (show y ≠ f * 64 by omega)]
        unfold roomN
        dsimp only
        rw [if_neg hs2]
        by_cases e1 : f < y / 64 ∧ y / 64 < f + k
        · rw [if_pos e1, e _ (by omega) e1.2]; rfl
        · rw [if_neg e1]
end Go.Proofs.YtjblmincldaklaaDoor
namespace Go.Proofs.YtjblmincldaklaaDoor
open Go.RowKit Go.Proofs.YtjblmincldaklaaDoor.Hp

def stepM (R : Int → Bool) (s : List Int × List Int) (z : Int) : List Int × List Int := if s.1.contains z || !R z then s else (s.1 ++ [z], s.2 ++ [z])
def meetM (R : Int → Bool) (s : List Int × List Int) (zs : List Int) : List Int × List Int := zs.foldl (stepM R) s
theorem meetM_nil (R : Int → Bool) (s : List Int × List Int) : meetM R s [] = s := rfl
theorem meetM_snoc (R : Int → Bool) (s : List Int × List Int) (zs : List Int) (z : Int) : meetM R s (zs ++ [z]) = stepM R (meetM R s zs) z := by simp [meetM, List.foldl_append]
/-- What meeting words does. -/
structure Met (R : Int → Bool) (s : List Int × List Int) (zs : List Int) (t : List Int × List Int) : Prop where
  mem : ∀ x, x ∈ t.1 ↔ x ∈ s.1 ∨ (x ∈ zs ∧ R x = true)
  nd : s.1.Nodup → t.1.Nodup
  len : t.1.length + s.2.length = s.1.length + t.2.length
  le : s.1.length ≤ t.1.length
  old : ∀ x, x ∈ s.2 → x ∈ t.2
  new : ∀ x, x ∈ t.1 → x ∈ s.1 ∨ x ∈ t.2
  sub : ∀ x, x ∈ t.2 → x ∈ s.2 ∨ x ∈ t.1
theorem meetM_met (R : Int → Bool) (s : List Int × List Int) : ∀ zs : List Int, ∀ t, Met R s zs t → ∀ z, Met R s (zs ++ [z]) (stepM R t z) := by
  intro zs t h z
  unfold stepM
  by_cases e : (t.1.contains z || !R z) = true
  · rw [if_pos e]
    refine ⟨fun x => ?_, h.nd, h.len, h.le, h.old, h.new, h.sub⟩
    rw [h.mem x]
    constructor
    · rintro (a | ⟨a, b⟩)
      · exact .inl a
      · exact .inr ⟨by simp [a], b⟩
    · rintro (a | ⟨a, b⟩)
      · exact .inl a
      · rcases List.mem_append.1 a with a | a
        · exact .inr ⟨a, b⟩
        · obtain rfl : x = z := by simpa using a
          rw [b] at e
          have : x ∈ t.1 := by simpa using e
          exact (h.mem x).1 this
  · rw [if_neg e]
    have hz : z ∉ t.1 ∧ R z = true := by
      cases hr : R z <;> simp [hr] at e
      exact ⟨e, rfl⟩
    refine ⟨fun x => ?_, fun hs => ?_, ?_, ?_, fun x hx => ?_, fun x hx => ?_, fun x hx => ?_⟩
    · show x ∈ t.1 ++ [z] ↔ _
      rw [List.mem_append, h.mem x]
      constructor
      · rintro ((a | ⟨a, b⟩) | a)
        · exact .inl a
        · exact .inr ⟨by simp [a], b⟩
        · obtain rfl : x = z := by simpa using a
          exact .inr ⟨by simp, hz.2⟩
      · rintro (a | ⟨a, b⟩)
        · exact .inl (.inl a)
        · rcases List.mem_append.1 a with a | a
          · exact .inl (.inr ⟨a, b⟩)
          · exact .inr a
    · show (t.1 ++ [z]).Nodup
      rw [List.nodup_append]
      refine ⟨h.nd hs, by simp, fun a ha b hb => ?_⟩
      rintro rfl
      obtain rfl : a = z := by simpa using hb
      exact hz.1 ha
    · show (t.1 ++ [z]).length + s.2.length = s.1.length + (t.2 ++ [z]).length
      have := h.len
      simp; omega
    · show s.1.length ≤ (t.1 ++ [z]).length
      have := h.le
      simp; omega
    · show x ∈ t.2 ++ [z]
      exact List.mem_append.2 (.inl (h.old x hx))
    · rcases List.mem_append.1 hx with a | a
      · rcases h.new x a with b | b
        · exact .inl b
        · exact .inr (List.mem_append.2 (.inl b))
      · exact .inr (List.mem_append.2 (.inr a))
    · rcases List.mem_append.1 hx with a | a
      · rcases h.sub x a with b | b
        · exact .inl b
        · exact .inr (List.mem_append.2 (.inl b))
      · exact .inr (List.mem_append.2 (.inr a))
theorem met_all (R : Int → Bool) (s : List Int × List Int) : ∀ (k : Nat) (zs : List Int), k ≤ zs.length → Met R s (zs.take k) (meetM R s (zs.take k))
  | 0, zs, _ => by
    rw [List.take_zero, meetM_nil]
    exact ⟨fun x => by simp, id, rfl |> fun _ => by omega, Nat.le_refl _, fun _ h => h, fun _ h => .inl h, fun _ h => .inl h⟩
  | k + 1, zs, hk => by
    have ih := met_all R s k zs (by omega)
    rw [List.take_succ_eq_append_getElem (by omega), meetM_snoc]
    exact meetM_met R s _ _ ih _
theorem met_full (R : Int → Bool) (s : List Int × List Int) (zs : List Int) : Met R s zs (meetM R s zs) := by
  have := met_all R s zs.length zs (Nat.le_refl _)
  rwa [List.take_length] at this
theorem meetM_len (R : Int → Bool) (s : List Int × List Int) (zs : List Int) : (meetM R s zs).1.length ≤ s.1.length + zs.length ∧ (meetM R s zs).2.length ≤ s.2.length + zs.length := by
  induction zs generalizing s with
  | nil => simp [meetM]
  | cons z zs ih =>
    have := ih (stepM R s z)
    have e : meetM R s (z :: zs) = meetM R (stepM R s z) zs := rfl
    rw [e]
    have h1 : (stepM R s z).1.length ≤ s.1.length + 1 ∧ (stepM R s z).2.length ≤ s.2.length + 1 := by
      unfold stepM
      split
      · omega
      · simp
    simp only [List.length_cons]
    omega
theorem meet_take {R : Int → Bool} {s : List Int × List Int} {zs : List Int} {k : Nat} (hk : k < zs.length) : meetM R s (zs.take (k + 1)) = stepM R (meetM R s (zs.take k)) (zs.getD k 0) := by
  rw [List.take_succ_eq_append_getElem hk, meetM_snoc]
  simp [List.getD, List.getElem?_eq_getElem hk]

/-- What is reached from words. -/
inductive Reach (R : Int → Bool) (K : Int → List Int) (roots : List Int) : Int → Prop
  | root (x : Int) : x ∈ roots → R x = true → Reach R K roots x
  | kid (x y : Int) : Reach R K roots x → y ∈ K x → R y = true → Reach R K roots y
theorem Reach.ref {R : Int → Bool} {K : Int → List Int} {roots : List Int} {x : Int} (h : Reach R K roots x) : R x = true := by cases h <;> assumption
theorem Reach.mono {R : Int → Bool} {K : Int → List Int} {r1 r2 : List Int} (hs : ∀ x ∈ r1, x ∈ r2) {x : Int} (h : Reach R K r1 x) : Reach R K r2 x := by
  induction h with
  | root x h1 h2 => exact .root x (hs x h1) h2
  | kid x y _ h2 h3 ih => exact .kid x y ih h2 h3
structure MkI (R : Int → Bool) (K : Int → List Int) (roots ks wt : List Int) : Prop where
  nd : ks.Nodup
  sound : ∀ x ∈ ks, Reach R K roots x
  rts : ∀ x ∈ roots, R x = true → x ∈ ks
  sub : ∀ x ∈ wt, x ∈ ks
  cl : ∀ x ∈ ks, x ∈ wt ∨ ∀ y ∈ K x, R y = true → y ∈ ks
theorem MkI.start (R : Int → Bool) (K : Int → List Int) (roots : List Int) : MkI R K roots (meetM R ([], []) roots).1 (meetM R ([], []) roots).2 := by
  have h := met_full R ([], []) roots
  generalize meetM R ([], []) roots = t at h
  refine ⟨h.nd List.Pairwise.nil, fun x hx => ?_, fun x hx hr => (h.mem x).2 (.inr ⟨hx, hr⟩), fun x hx => ?_, fun x hx => ?_⟩
  · rcases (h.mem x).1 hx with a | ⟨a, b⟩
    · simp at a
    · exact .root x a b
  · rcases h.sub x hx with a | a
    · simp at a
    · exact a
  · rcases h.new x hx with a | a
    · simp at a
    · exact .inl a
theorem MkI.step {R : Int → Bool} {K : Int → List Int} {roots ks wt : List Int} {a : Int} (h : MkI R K roots ks (wt ++ [a])) : MkI R K roots (meetM R (ks, wt) (K a)).1 (meetM R (ks, wt) (K a)).2 ∧ (meetM R (ks, wt) (K a)).1.length + wt.length = ks.length + (meetM R (ks, wt) (K a)).2.length := by
  have m := met_full R (ks, wt) (K a)
  generalize meetM R (ks, wt) (K a) = t at m
  have ha : a ∈ ks := h.sub a (by simp)
  refine ⟨⟨m.nd h.nd, fun x hx => ?_, fun x hx hr => (m.mem x).2 (.inl (h.rts x hx hr)), fun x hx => ?_, fun x hx => ?_⟩, m.len⟩
  · rcases (m.mem x).1 hx with b | ⟨b, c⟩
    · exact h.sound x b
    · exact .kid a x (h.sound a ha) b c
  · rcases m.sub x hx with b | b
    · exact (m.mem x).2 (.inl (h.sub x (List.mem_append.2 (.inl b))))
    · exact b
  · rcases m.new x hx with b | b
    · rcases h.cl x b with c | c
      · rcases List.mem_append.1 c with d | d
        · exact .inl (m.old x d)
        · obtain rfl : x = a := by simpa using d
          exact .inr fun y hy hr => (m.mem y).2 (.inr ⟨hy, hr⟩)
      · exact .inr fun y hy hr => (m.mem y).2 (.inl (c y hy hr))
    · exact .inl b
theorem MkI.done {R : Int → Bool} {K : Int → List Int} {roots ks : List Int} (h : MkI R K roots ks []) (x : Int) : x ∈ ks ↔ Reach R K roots x := by
  constructor
  · exact h.sound x
  · intro hr
    induction hr with
    | root x h1 h2 => exact h.rts x h1 h2
    | kid x y _ h2 h3 ih =>
      rcases h.cl x ih with c | c
      · simp at c
      · exact c y h2 h3
theorem nd_le : ∀ (N : Nat) (l : List Int), l.Nodup → (∀ x ∈ l, 0 ≤ x ∧ x < N) → l.length ≤ N
  | 0, l, _, h => by
    cases l with
    | nil => simp
    | cons a l => have := h a (by simp); omega
  | N + 1, l, hn, h => by
    have h1 := nd_le N (l.erase (N : Int)) (hn.erase _) fun x hx => by
      have hx' := (hn.mem_erase_iff).1 hx
      have := h x hx'.2
      have := hx'.1
      omega
    have h2 := List.length_erase (a := (N : Int)) (l := l)
    split at h2 <;> omega
/-- Whether a word is a reference. -/
def refB (A : Nat → Kd) (x : Int) : Bool := decide (roomI A x ≠ 0)
theorem refB_iff {A : Nat → Kd} {x : Int} : refB A x = true ↔ roomI A x ≠ 0 := by simp [refB]
theorem ref_nat {n : Nat} {A : Nat → Kd} (hI : Inv n A) {x : Int} (h : refB A x = true) : ∃ y : Nat, x = y ∧ roomN A y ≠ 0 ∧ 64 ≤ y ∧ y + roomN A y ≤ 64 * n ∧ y % 2 = 0 := by
  rw [refB_iff] at h
  unfold roomI at h
  by_cases h0 : 0 ≤ x
  · rw [if_pos h0] at h
    obtain ⟨y, rfl⟩ := Int.eq_ofNat_of_zero_le h0
    rw [Int.toNat_natCast] at h
    have := room_in hI h
    exact ⟨y, rfl, h, this.1, this.2.1, this.2.2⟩
  · rw [if_neg h0] at h; exact absurd rfl h
theorem ref_cast {A : Nat → Kd} {x : Nat} : refB A (x : Int) = true ↔ roomN A x ≠ 0 := by
  rw [refB_iff]; unfold roomI; rw [if_pos (by omega), Int.toNat_natCast]
/-- The references among the first k words behind the header of the block at x. -/
def kidsTo (A : Nat → Kd) (wd : Nat → Int) (x : Nat) : Nat → List Int
  | 0 => []
  | k + 1 => kidsTo A wd x k ++ (if tellsB (hK (wd x)) (hM (wd x)) k && refB A (wd (x + (k + 1))) then [wd (x + (k + 1))] else [])
def kids (A : Nat → Kd) (wd : Nat → Int) (z : Int) : List Int :=
  if roomI A z ≠ 0 ∧ IsH (wd z.toNat) then kidsTo A wd z.toNat (min (hS (wd z.toNat)).toNat (roomI A z - 1)) else []
theorem kidsTo_ref {A : Nat → Kd} {wd : Nat → Int} {x : Nat} {y : Int} : ∀ {k : Nat}, y ∈ kidsTo A wd x k → refB A y = true
  | 0, h => by simp [kidsTo] at h
  | k + 1, h => by
    rcases List.mem_append.1 h with h | h
    · exact kidsTo_ref h
    · split at h
      · rename_i hc
        simp only [Bool.and_eq_true] at hc
        obtain rfl : y = _ := by simpa using h
        exact hc.2
      · simp at h
theorem kids_ref {A : Nat → Kd} {wd : Nat → Int} {z y : Int} (h : y ∈ kids A wd z) : refB A y = true := by
  unfold kids at h
  split at h
  · exact kidsTo_ref h
  · simp at h
theorem kidsTo_len (A : Nat → Kd) (wd : Nat → Int) (x : Nat) : ∀ k, (kidsTo A wd x k).length ≤ k
  | 0 => by simp [kidsTo]
  | k + 1 => by
    have := kidsTo_len A wd x k
    unfold kidsTo
    rw [List.length_append]
    split <;> simp <;> omega
end Go.Proofs.YtjblmincldaklaaDoor
namespace Go.Proofs.YtjblmincldaklaaDoor
open Go.RowKit Go.Proofs.YtjblmincldaklaaDoor.Hp
theorem and_split (a b c d : Nat) (ha : a < 256) (hc : c < 256) : (a + 256 * b) &&& (c + 256 * d) = (a &&& c) + 256 * (b &&& d) := by
  have e : ∀ x y : Nat, x < 256 → x + 256 * y = y * 2 ^ 8 + x := fun x y _ => by omega
  have hac : a &&& c < 2 ^ 8 := Nat.and_lt_two_pow _ hc
  rw [e a b ha, e c d hc, e _ _ hac]
  apply Nat.eq_of_testBit_eq
  intro i
  rw [Nat.testBit_and, Nat.mul_comm b, Nat.mul_comm d, Nat.mul_comm (b &&& d), Nat.testBit_two_pow_mul_add _ ha, Nat.testBit_two_pow_mul_add _ hc, Nat.testBit_two_pow_mul_add _ hac]
  split
  · rw [Nat.testBit_and]
  · rw [Nat.testBit_and]
def p1 (m x : Nat) : Nat := (x / 2 &&& m) + (x &&& m)
def p2 (m x : Nat) : Nat := (x / 4 &&& m) + (x &&& m)
def p3 (m x : Nat) : Nat := (x / 16 + x) &&& m
theorem b1 : ∀ a : Fin 256, ∀ r : Fin 2, ((a.val / 2 + 128 * r.val) &&& 85) = (a.val / 2 &&& 85) := by decide +kernel
theorem b2 : ∀ a : Fin 256, ∀ r : Fin 4, ((a.val / 4 + 64 * r.val) &&& 51) = (a.val / 4 &&& 51) := by decide +kernel
theorem p1_lt : ∀ a : Fin 256, p1 85 a.val < 256 := by decide +kernel
theorem p2_lt : ∀ a : Fin 256, p2 51 (p1 85 a.val) < 256 ∧ p2 51 (p1 85 a.val) % 16 ≤ 4 ∧ p2 51 (p1 85 a.val) / 16 ≤ 4 := by decide +kernel
theorem b3 : ∀ a : Fin 256, ∀ r : Fin 7, ((p2 51 (p1 85 a.val) / 16 + 16 * r.val + p2 51 (p1 85 a.val)) &&& 15) = Lib.onesCount a.val := by decide +kernel
theorem p1_step (a b m : Nat) (ha : a < 256) : p1 (85 + 256 * m) (a + 256 * b) = p1 85 a + 256 * p1 m b := by
  unfold p1
  have e : (a + 256 * b) / 2 = (a / 2 + 128 * (b % 2)) + 256 * (b / 2) := by omega
  have := b1 ⟨a, ha⟩ ⟨b % 2, by omega⟩
  simp only at this
  rw [e, and_split _ _ _ _ (by omega) (by decide), and_split _ _ _ _ ha (by decide), this]
  omega
theorem p2_step (a b m : Nat) (ha : a < 256) : p2 (51 + 256 * m) (a + 256 * b) = p2 51 a + 256 * p2 m b := by
  unfold p2
  have e : (a + 256 * b) / 4 = (a / 4 + 64 * (b % 4)) + 256 * (b / 4) := by omega
  have := b2 ⟨a, ha⟩ ⟨b % 4, by omega⟩
  simp only at this
  rw [e, and_split _ _ _ _ (by omega) (by decide), and_split _ _ _ _ ha (by decide), this]
  omega
/-- The first three steps, over a number whose lowest byte is a. -/
theorem p3_step (a b m0 m1 m2 : Nat) (ha : a < 256) (hb : p2 m1 (p1 m0 b) % 16 ≤ 6) : p3 (15 + 256 * m2) (p2 (51 + 256 * m1) (p1 (85 + 256 * m0) (a + 256 * b))) = Lib.onesCount a + 256 * p3 m2 (p2 m1 (p1 m0 b)) := by
  rw [p1_step _ _ _ ha, p2_step _ _ _ (p1_lt ⟨a, ha⟩)]
  obtain ⟨l1, l2, l3⟩ := p2_lt ⟨a, ha⟩
  simp only at l1 l2 l3
  have h3 := b3 ⟨a, ha⟩ ⟨p2 m1 (p1 m0 b) % 16, by omega⟩
  simp only at h3
  generalize p2 51 (p1 85 a) = x at *
  generalize p2 m1 (p1 m0 b) = y at *
  unfold p3
  have e : (x + 256 * y) / 16 + (x + 256 * y) = (x / 16 + 16 * (y % 16) + x) + 256 * (y / 16 + y) := by omega
  rw [e, and_split _ _ _ _ (by omega) (by decide), h3]
theorem nib (u m : Nat) (h : m % 16 = 0 ∨ m % 16 = 3) : (u &&& m) % 16 ≤ 3 := by
  have e : (u &&& m) % 2 ^ 4 = (u % 2 ^ 4) &&& (m % 2 ^ 4) := Nat.and_mod_two_pow ..
  rw [show (2 : Nat) ^ 4 = 16 from rfl] at e
  rw [e]
  have := Nat.and_le_right (n := u % 16) (m := m % 16)
  omega
theorem nib2 (x m : Nat) (h : m % 16 = 0 ∨ m % 16 = 3) : p2 m x % 16 ≤ 6 := by
  unfold p2
  have h1 := nib (x / 4) m h
  have h2 := nib x m h
  omega
theorem oc_le (a : Nat) (h : a < 256) : Lib.onesCount a ≤ 8 := Lib.onesCount_le8 ⟨a, h⟩
/-- A row of bytes, the lowest first. -/
def bytesN : List Nat → Nat
  | [] => 0
  | a :: l => a + 256 * bytesN l
theorem y3_eq (x : Nat) (hx : x < 18446744073709551616) : p3 1085102592571150095 (p2 3689348814741910323 (p1 6148914691236517205 x)) = bytesN ((List.range 8).map fun i => Lib.onesCount (x / 256 ^ i % 256)) := by
  have e : ∀ z : Nat, z = z % 256 + 256 * (z / 256) := fun z => by omega
  have st : ∀ (z m0 m1 m2 : Nat), (m1 % 16 = 0 ∨ m1 % 16 = 3) → p3 (15 + 256 * m2) (p2 (51 + 256 * m1) (p1 (85 + 256 * m0) z)) = Lib.onesCount (z % 256) + 256 * p3 m2 (p2 m1 (p1 m0 (z / 256))) := fun z m0 m1 m2 h => by
    have := p3_step (z % 256) (z / 256) m0 m1 m2 (by omega) (nib2 _ _ h)
    rw [← e z] at this
    exact this
  have s0 := st x 24019198012642645 14411518807585587 4238682002231055 (by decide)
  have s1 := st (x / 256) 93824992236885 56294995342131 16557351571215 (by decide)
  have s2 := st (x / 256 / 256) 366503875925 219902325555 64677154575 (by decide)
  have s3 := st (x / 256 / 256 / 256) 1431655765 858993459 252645135 (by decide)
  have s4 := st (x / 256 / 256 / 256 / 256) 5592405 3355443 986895 (by decide)
  have s5 := st (x / 256 / 256 / 256 / 256 / 256) 21845 13107 3855 (by decide)
  have s6 := st (x / 256 / 256 / 256 / 256 / 256 / 256) 85 51 15 (by decide)
  have s7 := st (x / 256 / 256 / 256 / 256 / 256 / 256 / 256) 0 0 0 (by decide)
  have z8 : x / 256 / 256 / 256 / 256 / 256 / 256 / 256 / 256 = 0 := by omega
  rw [z8] at s7
  have z0 : p3 0 (p2 0 (p1 0 0)) = 0 := by decide
  rw [z0] at s7
  simp only [Nat.reduceAdd, Nat.reduceMul] at s0 s1 s2 s3 s4 s5 s6 s7
  rw [s0, s1, s2, s3, s4, s5, s6, s7]
  simp [bytesN, List.range, List.range.loop, Nat.div_div_eq_div_mul]
theorem pop64_eq (x : Nat) : pop x 64 = ((List.range 8).map fun i => Lib.onesCount (x / 256 ^ i % 256)).sum := by
  have st : ∀ (z k : Nat), pop z (8 + k) = Lib.onesCount (z % 256) + pop (z / 256) k := fun z k => by
    rw [pop_split z 8 k, onesCount8 (z % 256) (by omega)]
  rw [show 64 = 8 + (8 + (8 + (8 + (8 + (8 + (8 + (8 + 0))))))) from rfl, st, st, st, st, st, st, st, st]
  have : pop (x / 256 / 256 / 256 / 256 / 256 / 256 / 256 / 256) 0 = 0 := rfl
  rw [this]
  simp [List.range, List.range.loop, Nat.div_div_eq_div_mul]
theorem last3 (p0 p1 p2 p3 p4 p5 p6 p7 t1 t2 t3 t4 t5 t6 y : Nat) (h0 : p0 ≤ 8) (h1 : p1 ≤ 8) (h2 : p2 ≤ 8) (h3 : p3 ≤ 8) (h4 : p4 ≤ 8) (h5 : p5 ≤ 8) (h6 : p6 ≤ 8) (h7 : p7 ≤ 8)
    (hy : y = p0 + 256 * t1) (e1 : t1 = p1 + 256 * t2) (e2 : t2 = p2 + 256 * t3) (e3 : t3 = p3 + 256 * t4) (e4 : t4 = p4 + 256 * t5) (e5 : t5 = p5 + 256 * t6) (e6 : t6 = p6 + 256 * p7) :
    ∃ y4 y5, y4 = y + y / 256 ∧ y5 = y4 + y4 / 65536 ∧ (y5 + y5 / 4294967296) % 128 = p0 + (p1 + (p2 + (p3 + (p4 + (p5 + (p6 + p7)))))) ∧ y5 + y5 / 4294967296 < 9223372036854775808 ∧ y4 < 9223372036854775808 ∧ y5 < 9223372036854775808 := by
  have d1 : y / 256 = t1 := by omega
  obtain ⟨y4, hy4⟩ : ∃ y4, y4 = y + t1 := ⟨_, rfl⟩
  have d2 : y4 / 65536 = t2 + t3 := by omega
  obtain ⟨y5, hy5⟩ : ∃ y5, y5 = y4 + (t2 + t3) := ⟨_, rfl⟩
  have d3 : y5 / 4294967296 = t4 + t5 + t6 + p7 := by omega
  refine ⟨y4, y5, by rw [d1]; exact hy4, by rw [d2]; exact hy5, ?_, ?_, by omega, by omega⟩
  · rw [d3]; omega
  · rw [d3]; omega
set_option maxHeartbeats 1000000 in
theorem ones64_core (x y1 y2 y3 y4 y5 y6 k : Nat) (w : World)
    (h1 : IntKind.u64.wrap (bits .and .u64 ((x : Int) / 2) 6148914691236517205 + bits .and .u64 (x : Int) 6148914691236517205) = (y1 : Int))
    (h2 : IntKind.u64.wrap (bits .and .u64 ((y1 : Int) / 4) 3689348814741910323 + bits .and .u64 (y1 : Int) 3689348814741910323) = (y2 : Int))
    (h3 : bits .and .u64 (IntKind.u64.wrap ((y2 : Int) / 16 + (y2 : Int))) 1085102592571150095 = (y3 : Int))
    (h4 : IntKind.u64.wrap ((y3 : Int) + (y3 : Int) / 256) = (y4 : Int)) (h5 : IntKind.u64.wrap ((y4 : Int) + (y4 : Int) / 65536) = (y5 : Int)) (h6 : IntKind.u64.wrap ((y5 : Int) + (y5 : Int) / 4294967296) = (y6 : Int))
    (h7 : IntKind.i64.wrap (y6 : Int) = (y6 : Int)) (h8 : bits .and .i64 (y6 : Int) 127 = (k : Int)) :
    Calls Tryd.prog 63 #[.int .u64 x] w fun e w' => e = .returned (.int .i64 k) ∧ w' = w := by
  have H8 := hide h8
  clear h8
  go_enter Tryd.func63, Tryd.ntmps63
  go_wp2
  go_ret
  exact ⟨ret_int (unhide H8), rfl⟩
theorem and_nat (x m : Nat) (hx : x < 18446744073709551616) (hm : m < 18446744073709551616) : bits .and .u64 (x : Int) (m : Int) = ((x &&& m : Nat) : Int) := u64_and_nat x m hx hm
set_option maxHeartbeats 1000000 in
theorem ones64 (x : Nat) (hx : x < 18446744073709551616) (w : World) :
    Calls Tryd.prog 63 #[.int .u64 x] w fun e w' => e = .returned (.int .i64 (pop x 64)) ∧ w' = w := by
  obtain ⟨y1, hy1⟩ : ∃ y1, y1 = p1 6148914691236517205 x := ⟨_, rfl⟩
  obtain ⟨y2, hy2⟩ : ∃ y2, y2 = p2 3689348814741910323 y1 := ⟨_, rfl⟩
  obtain ⟨y3, hy3⟩ : ∃ y3, y3 = p3 1085102592571150095 y2 := ⟨_, rfl⟩
  have q1 : y1 ≤ 12297829382473034410 := by
    rw [hy1]; unfold p1
    have a := Nat.and_le_right (n := x / 2) (m := 6148914691236517205)
    have b := Nat.and_le_right (n := x) (m := 6148914691236517205)
    omega
  have q2 : y2 ≤ 7378697629483820646 := by
    rw [hy2]; unfold p2
    have a := Nat.and_le_right (n := y1 / 4) (m := 3689348814741910323)
    have b := Nat.and_le_right (n := y1) (m := 3689348814741910323)
    omega
  have hb := y3_eq x hx
  rw [← hy1, ← hy2, ← hy3] at hb
  have hp := pop64_eq x
  simp only [List.range, List.range.loop, List.map, bytesN, List.sum_cons, List.sum_nil] at hb hp
  have g : ∀ i, Lib.onesCount (x / 256 ^ i % 256) ≤ 8 := fun i => oc_le _ (by omega)
  have g0 := g 0
  have g1 := g 1
  have g2 := g 2
  have g3 := g 3
  have g4 := g 4
  have g5 := g 5
  have g6 := g 6
  have g7 := g 7
  generalize Lib.onesCount (x / 256 ^ 0 % 256) = r0 at *
  generalize Lib.onesCount (x / 256 ^ 1 % 256) = r1 at *
  generalize Lib.onesCount (x / 256 ^ 2 % 256) = r2 at *
  generalize Lib.onesCount (x / 256 ^ 3 % 256) = r3 at *
  generalize Lib.onesCount (x / 256 ^ 4 % 256) = r4 at *
  generalize Lib.onesCount (x / 256 ^ 5 % 256) = r5 at *
  generalize Lib.onesCount (x / 256 ^ 6 % 256) = r6 at *
  generalize Lib.onesCount (x / 256 ^ 7 % 256) = r7 at *
  obtain ⟨y4, y5, e4, e5, e6, l6, l4, l5⟩ := last3 r0 r1 r2 r3 r4 r5 r6 r7 _ _ _ _ _ _ y3 g0 g1 g2 g3 g4 g5 g6 g7 (by rw [hb]) rfl rfl rfl rfl rfl (by omega)
  clear hb g g0 g1 g2 g3 g4 g5 g6 g7
  have hx2 : x / 2 < 18446744073709551616 := by omega
  refine ones64_core x y1 y2 y3 y4 y5 (y5 + y5 / 4294967296) _ w ?_ ?_ ?_ ?_ ?_ ?_ ?_ ?_
  · have a := and_nat (x / 2) 6148914691236517205 hx2 (by decide)
    have b := and_nat x 6148914691236517205 hx (by decide)
    rw [show ((x / 2 : Nat) : Int) = (x : Int) / 2 by omega] at a
    rw [show (6148914691236517205 : Int) = ((6148914691236517205 : Nat) : Int) from rfl, a, b, IntKind.wrap_u64, hy1]
    unfold p1 at hy1 ⊢
    omega
  · have a := and_nat (y1 / 4) 3689348814741910323 (by omega) (by decide)
    have b := and_nat y1 3689348814741910323 (by omega) (by decide)
    rw [show ((y1 / 4 : Nat) : Int) = (y1 : Int) / 4 by omega] at a
    rw [show (3689348814741910323 : Int) = ((3689348814741910323 : Nat) : Int) from rfl, a, b, IntKind.wrap_u64, hy2]
    unfold p2 at hy2 ⊢
    omega
  · rw [show IntKind.u64.wrap ((y2 : Int) / 16 + (y2 : Int)) = ((y2 / 16 + y2 : Nat) : Int) by rw [IntKind.wrap_u64]; omega, show (1085102592571150095 : Int) = ((1085102592571150095 : Nat) : Int) from rfl, and_nat _ _ (by omega) (by decide), hy3]
    rfl
  · rw [IntKind.wrap_u64]; clear hp e5 e6 l5 l6 q1 q2 hy1 hy2 hy3; omega
  · rw [IntKind.wrap_u64]; clear hp e4 e6 l4 l6 q1 q2 hy1 hy2 hy3; omega
  · rw [IntKind.wrap_u64]; clear hp e4 e5 e6 l4 l5 q1 q2 hy1 hy2 hy3; omega
  · rw [Go.IntKind.wrap_i64]; clear hp e4 e5 e6 l4 l5 q1 q2 hy1 hy2 hy3; omega
  · rw [i64_and127, hp]; clear e4 e5 l4 l5 q1 q2 hy1 hy2 hy3; omega
set_option maxHeartbeats 1000000 in
theorem count_any (b m : Nat) (S : Nat → Bool) (w : World) (hm : m ≤ 1000) (h : SetAt w b m S) :
    Calls Tryd.prog 50 #[.slice (some ⟨b, 0, none⟩) m m] w fun e w' => e = .returned (.int .i64 (cntN S (64 * m))) ∧ w' = w := by
  have H := hide h
  clear h
  go_enter Tryd.func50, Tryd.ntmps50
  go_wp2
  go_loop [8, 3] (fun t s => ∃ i : Nat, i ≤ m ∧ t = .int .i64 i ∧ s = .int .i64 (cntN S (64 * i))) (fun t _ => m - (intOf t).toNat)
  case atStart => exact ⟨0, by omega, rfl, rfl⟩
  case round =>
    obtain ⟨i, hi, rfl, rfl⟩ := hrel
    have hc1 := cntN_le S (64 * i)
    by_cases hlt : i < m
    · obtain ⟨v, hv⟩ : ∃ v, v = wordN (fun j => S (64 * i + j)) 64 := ⟨_, rfl⟩
      have hc : w.cell? ⟨b, i, none⟩ = some (.int .u64 v) := by rw [hv]; exact (unhide H i hlt).1
      have hl : v < 2 ^ 64 := by rw [hv]; exact wordN_lt _ _
      have HC := hide (ones64 v hl w)
      have hp := pop_le v 64
      have HE : Hid (cntN S (64 * (i + 1)) = cntN S (64 * i) + pop v 64) := hide (by rw [hv, pop_word, show 64 * (i + 1) = 64 * i + 64 by omega, cntN_add])
      clear hv
      generalize pop v 64 = k at *
      generalize cntN S (64 * i) = c at *
      go_wp2_with (first | (go_at_call 63; refine (unhide HC).mono ?_; rintro e w' ⟨rfl, rfl⟩))
      go_round
      case rel => exact ⟨i + 1, by omega, by go_num, val_int (by rw [unhide HE]; omega)⟩
      case measure => simp [intOf]; omega
    · have e : i = m := by omega
      subst e
      go_wp2
      go_ret
      exact ⟨rfl, rfl⟩
end Go.Proofs.YtjblmincldaklaaDoor
