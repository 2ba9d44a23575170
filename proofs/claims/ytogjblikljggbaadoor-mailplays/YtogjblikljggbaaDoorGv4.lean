/- placeInClass. -/
import Derived.Test.YtogjblikljggbaaDoorGv3
namespace Go.Proofs.YtogjblikljggbaaDoor
open Go.RowKit Go.Proofs.YtogjblikljggbaaDoor.Hp
theorem not32 (u : Nat) (hu : u < 4294967296) : bits .xor .u32 IntKind.u32.max (u : Int) = ((4294967295 - u : Nat) : Int) := by
  rw [show IntKind.u32.max = ((4294967295 : Nat) : Int) from rfl, u32_xor_nat _ _ (by decide) hu]
  congr 1
  apply Nat.eq_of_testBit_eq
  intro j
  rw [Nat.testBit_xor, show 4294967295 - u = 2 ^ 32 - (u + 1) by omega, Nat.testBit_two_pow_sub_succ hu, show 4294967295 = 2 ^ 32 - 1 from rfl, Nat.testBit_two_pow_sub_one]
  by_cases h : j < 32
  · simp [h]
  · rw [Nat.testBit_lt_two_pow (Nat.lt_of_lt_of_le hu (show 4294967296 ≤ 2 ^ j from Nat.pow_le_pow_right (n := 2) (i := 32) (by decide) (by omega)))]
    simp [h]
set_option maxHeartbeats 2000000 in
theorem placeC_open (B : HB) (n : Nat) (R : HR) (c s u r pl v : Nat) (w : World) (h : At w B n R) (hV : Vars w) (hc : c < 6) (hs : s < n) (h1 : R.op c s = true) (h2 : ∀ t, t < s → R.op c t = false)
    (hr : R.rm s = r) (hr0 : 0 < r) (hr1 : r ≤ 64) (hu : R.us s = u) (hu1 : u < 4294967295) (hp : Lib.ctz 32 (4294967295 - u) = pl) (hv : u ||| 2 ^ pl = v) :
    Calls Tryd.prog 49 #[B.ptr, .int .i64 c] w fun e w' => e = .returned (.tuple #[.int .i64 ((s * 64 + pl * r : Nat) : Int), .bool true]) ∧ Fr B.mem w w' ∧ At w' B n { R with us := upd R.us s v, op := upd R.op c (opAft (R.op c) s v r) } := by
  have hpl : pl < 32 := by rw [← hp]; exact ctz_lt (by omega) (by omega)
  have hvl : v < 4294967296 := by rw [← hv]; exact Nat.or_lt_two_pow (n := 32) (by omega) (Nat.pow_lt_pow_right (by decide) hpl)
  have hh := h.hi
  have HL := hide (least_some (B.bo c) (setM n) (R.op c) s w (setM_le h.hi) (h.op c hc) hV (setM_lt hs) h1 h2)
  have HT := hide (tz32_any (4294967295 - u) (by omega) (by omega) w hV)
  rw [hp] at HT
  have c1 := h.c1
  have cc := h.c3 c hc
  have cr := h.cr s hs
  have cu := h.cu s hs
  have fz := h.fz (s * 2 + 1) (by omega)
  rw [hr] at cr
  rw [hu] at cu
  have HA := hide (h.storeU s v hs)
  have hps := h.ok.ps
  have HFl := hide (fun w' => full_any r v w' hr0 (by omega) hvl)
  have hsg : IntKind.u32.signed = false := rfl
  have hxo := not32 u (by omega)
  have hprl : pl * r ≤ 2048 := Nat.mul_le_mul (show pl ≤ 32 by omega) (show r ≤ 64 by omega)
  have hor : bits .or .u32 (u : Int) (2 ^ pl % 4294967296) = (v : Int) := by
    have hwr : (2 : Int) ^ pl % 4294967296 = ((2 ^ pl : Nat) : Int) := by
      have : 2 ^ pl < 2 ^ 32 := Nat.pow_lt_pow_right (by decide) hpl
      rw [show (2 : Int) ^ pl = ((2 ^ pl : Nat) : Int) by simp]
      generalize 2 ^ pl = z at *
      omega
    rw [hwr, u32_or_nat _ _ (by omega) (Nat.pow_lt_pow_right (by decide) hpl), hv]
  have HRM := hide hr
  clear h hV h1 h2 hr hu hp hv
  unfold HB.ptr at *
  go_enter Tryd.func49, Tryd.ntmps49
  go_wp2_with fail
  refine (unhide HL).mono ?_; rintro e w' ⟨rfl, rfl⟩
  go_wp2_with fail
  refine (unhide HT).mono ?_; rintro e w5 ⟨rfl, hw5⟩
  obtain rfl := hw5.symm
  clear hw5
  go_wp2
  go_region
  all_goals (try go_wp2_with fail)
  try rw [hor]
  refine (unhide HFl _).mono ?_; rintro e w2 ⟨rfl, hq⟩
  have hA2 := ((unhide HA).quiet ((Fr.refl _ _).drew)).quiet hq
  have HF2 : Hid (Fr B.mem w' w2) := hide ((((Fr.refl B.mem w').setCell (p := ⟨B.bs, s * 2 + 1, none⟩) (.inr (.inr (.inl rfl))) _).drew.trans hq.toMem))
  have cc2 := hA2.c3 c hc
  have cr2 := hA2.cr s hs
  simp only [unhide HRM] at cr2
  have HR := hide (remove_any (B.bo c) (setM n) s (R.op c) w2 (setM_le hh) (setM_lt hs) ( hA2.op c hc))
  have HA2 := hide hA2
  clear hA2 hq HA HFl HT HL cc cu fz c1 cr
  by_cases hfd : decide (pop v 32 = 64 / r) = true
  · have HFD := hide hfd
    rw [hfd]
    clear hfd
    go_wp2_with fail
    refine (unhide HR).mono ?_; rintro e w3 ⟨rfl, hs3, hw3⟩
    have cr3 : w3.cell? ⟨B.bs, s * 2, none⟩ = some (.int .i64 r) := by
      have := ((unhide HA2).setO hc hw3 hs3).cr s hs
      simp only [unhide HRM] at this
      exact this
    go_wp2_with fail
    go_ret2
    refine ⟨ret_two (val_int (by push_cast; omega)) rfl, (unhide HF2).trans (hw3.oMem hc), ?_⟩
    rw [opAft_pos (unhide HFD)]; exact (unhide HA2).setO hc hw3 hs3
  · have hfd' : decide (pop v 32 = 64 / r) = false := by simpa using hfd
    have HFD := hide hfd'
    rw [hfd']
    clear hfd hfd'
    go_wp2_with fail
    go_ret2
    refine ⟨ret_two (val_int (by push_cast; omega)) rfl, unhide HF2, ?_⟩
    rw [opAft_neg (unhide HFD)]; exact (unhide HA2).congr (fun _ _ => rfl) (fun _ _ => rfl) (fun _ => rfl) (fun d _ t => by by_cases e : d = c <;> simp [upd, e]) (fun _ _ => rfl)

set_option maxHeartbeats 2000000 in
theorem placeC_free (B : HB) (n : Nat) (R : HR) (c s u r pl v : Nat) (w : World) (h : At w B n R) (hV : Vars w) (hc : c < 6) (hs : s < n) (h1 : ∀ t, R.op c t = false) (h3 : R.fr s = true) (h2 : ∀ t, t < s → R.fr t = false)
    (hr : 2 ^ (c + 1) = r) (hr0 : 0 < r) (hr1 : r ≤ 64) (hu : R.us s = u) (hu1 : u < 4294967295) (hp : Lib.ctz 32 (4294967295 - u) = pl) (hv : u ||| 2 ^ pl = v) (h0 : ¬ B.mem 0) (h00 : ¬ B.mem 1) :
    Calls Tryd.prog 49 #[B.ptr, .int .i64 c] w fun e w' => e = .returned (.tuple #[.int .i64 ((s * 64 + pl * r : Nat) : Int), .bool true]) ∧ Fr B.mem w w' ∧ At w' B n { R with rm := upd R.rm s r, fr := upd R.fr s false, us := upd R.us s v, op := upd R.op c (opAft (upd (R.op c) s true) s v r) } := by
  have hpl : pl < 32 := by rw [← hp]; exact ctz_lt (by omega) (by omega)
  have hvl : v < 4294967296 := by rw [← hv]; exact Nat.or_lt_two_pow (n := 32) (by omega) (Nat.pow_lt_pow_right (by decide) hpl)
  have hh := h.hi
  have HL := hide (least_none (B.bo c) (setM n) (R.op c) w (setM_le h.hi) (h.op c hc) hV h1)
  have HM := hide (least_some B.bf (setM n) R.fr s w (setM_le h.hi) h.fr hV (setM_lt hs) h3 h2)
  have HTv := hide (fun w' => tz32_any (4294967295 - u) (by omega) (by omega) w')
  rw [hp] at HTv
  have HRo := hide (roomOf_any c w hc)
  rw [hr] at HRo
  have HG := hide (give_any B n R s 1 r w h (by omega) (by omega))
  have c2 := h.c2
  have cc := h.c3 c hc
  have hps := h.ok.ps
  have HFl := hide (fun w' => full_any r v w' hr0 (by omega) hvl)
  have hsg : IntKind.u32.signed = false := rfl
  have hxo := not32 u (by omega)
  have hprl : pl * r ≤ 2048 := Nat.mul_le_mul (show pl ≤ 32 by omega) (show r ≤ 64 by omega)
  have hor : bits .or .u32 (u : Int) (2 ^ pl % 4294967296) = (v : Int) := by
    have hwr : (2 : Int) ^ pl % 4294967296 = ((2 ^ pl : Nat) : Int) := by
      have : 2 ^ pl < 2 ^ 32 := Nat.pow_lt_pow_right (by decide) hpl
      rw [show (2 : Int) ^ pl = ((2 ^ pl : Nat) : Int) by simp]
      generalize 2 ^ pl = z at *
      omega
    rw [hwr, u32_or_nat _ _ (by omega) (Nat.pow_lt_pow_right (by decide) hpl), hv]
  have HU := hide hu
  have HVs := hide hV
  clear h hV h1 h2 h3 hr hu hp hv
  unfold HB.ptr at *
  go_enter Tryd.func49, Tryd.ntmps49
  go_wp2_with fail
  refine (unhide HL).mono ?_; rintro e w' ⟨rfl, rfl⟩
  go_wp2_with fail
  refine (unhide HM).mono ?_; rintro e w' ⟨rfl, rfl⟩
  go_wp2_with fail
  refine (unhide HRo).mono ?_; rintro e w' ⟨rfl, rfl⟩
  go_wp2_with fail
  refine (unhide HG).mono ?_; rintro e w1 ⟨rfl, hF1, hA1⟩
  rw [cutF_one] at hA1
  have cc1 := hA1.c3 c hc
  have HAd := hide (add_any (B.bo c) (setM n) s (R.op c) w1 (setM_le hh) (setM_lt hs) (hA1.op c hc))
  have HA1 := hide hA1
  have HF1 := hide hF1
  clear hA1 hF1 HG HM cc c2
  go_wp2_with fail
  refine (unhide HAd).mono ?_; rintro e w4 ⟨rfl, hs4, hw4⟩
  have hA4 := (unhide HA1).setO hc hw4 hs4
  have hF4 := (unhide HF1).trans (hw4.oMem hc)
  have HT := hide (unhide HTv w4 ((unhide HVs).fr hF4 h0 h00))
  have c1 := hA4.c1
  have cc := hA4.c3 c hc
  have cr := hA4.cr s hs
  have cu := hA4.cu s hs
  have fz := hA4.fz (s * 2 + 1) (by omega)
  simp only [upd_same] at cr
  simp only [unhide HU] at cu
  have HA := hide (hA4.storeU s v hs)
  have HF4 := hide hF4
  clear hA4 hF4 hs4 hw4 HAd HA1 HF1 HTv HVs cc1
  go_wp2_with fail
  refine (unhide HT).mono ?_; rintro e w5 ⟨rfl, hw5⟩
  obtain rfl := hw5.symm
  clear hw5
  go_wp2
  go_region
  all_goals (try go_wp2_with fail)
  try rw [hor]
  refine (unhide HFl _).mono ?_; rintro e w2 ⟨rfl, hq⟩
  have hA2 := ((unhide HA).quiet ((Fr.refl _ _).drew)).quiet hq
  have HF2 : Hid (Fr B.mem w' w2) := hide (((unhide HF4).trans (((Fr.refl B.mem w4).setCell (p := ⟨B.bs, s * 2 + 1, none⟩) (.inr (.inr (.inl rfl))) _).drew.trans hq.toMem)))
  have cc2 := hA2.c3 c hc
  have cr2 := hA2.cr s hs
  simp only [upd_same] at cr2
  have HR := hide (remove_any (B.bo c) (setM n) s (upd (R.op c) s true) w2 (setM_le hh) (setM_lt hs) (by have := hA2.op c hc; simp only [upd_same] at this; exact this))
  have HA2 := hide hA2
  clear hA2 hq HA HFl HT HL cc cu fz c1 cr
  by_cases hfd : decide (pop v 32 = 64 / r) = true
  · have HFD := hide hfd
    rw [hfd]
    clear hfd
    go_wp2_with fail
    refine (unhide HR).mono ?_; rintro e w3 ⟨rfl, hs3, hw3⟩
    have cr3 : w3.cell? ⟨B.bs, s * 2, none⟩ = some (.int .i64 r) := by
      have := ((unhide HA2).setO hc hw3 hs3).cr s hs
      simp only [upd_same] at this
      exact this
    go_wp2_with fail
    go_ret2
    refine ⟨ret_two (val_int (by push_cast; omega)) rfl, (unhide HF2).trans (hw3.oMem hc), ?_⟩
    rw [opAft_pos (unhide HFD)]; exact ((unhide HA2).setO hc hw3 hs3).congr (fun _ _ => rfl) (fun _ _ => rfl) (fun _ => rfl) (fun d _ t => by by_cases e : d = c <;> simp [upd, e]) (fun _ _ => rfl)
  · have hfd' : decide (pop v 32 = 64 / r) = false := by simpa using hfd
    have HFD := hide hfd'
    rw [hfd']
    clear hfd hfd'
    go_wp2_with fail
    go_ret2
    refine ⟨ret_two (val_int (by push_cast; omega)) rfl, unhide HF2, ?_⟩
    rw [opAft_neg (unhide HFD)]; exact (unhide HA2).congr (fun _ _ => rfl) (fun _ _ => rfl) (fun _ => rfl) (fun d _ t => by by_cases e : d = c <;> simp [upd, e]) (fun _ _ => rfl)

end Go.Proofs.YtogjblikljggbaaDoor
