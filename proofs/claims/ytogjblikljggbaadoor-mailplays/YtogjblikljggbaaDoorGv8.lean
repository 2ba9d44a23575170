/- Free. -/
import Derived.Test.YtogjblikljggbaaDoorGv6
namespace Go.Proofs.YtogjblikljggbaaDoor
open Go.RowKit Go.Proofs.YtogjblikljggbaaDoor.Hp
theorem cong_cut {n : Nat} {A : Nat → Kd} {wd : Nat → Int} {w : World} {B : HB} {s c u v : Nat} (e : A s = .cls c u) (hn : v ≠ fullC c)
    (k : At w B n { hrOf A wd with us := upd (hrOf A wd).us s v, op := upd (hrOf A wd).op c (upd ((hrOf A wd).op c) s true) }) : At w B n (hrOf (upd A s (.cls c v)) wd) := by
  refine k.congr (fun t _ => ?_) (fun t _ => ?_) (fun t => ?_) (fun d hd t => ?_) (fun _ _ => rfl)
  · show rmK (A t) = rmK (upd A s (.cls c v) t)
    by_cases et : t = s
    · subst et; rw [upd_same, e]; rfl
    · rw [upd_ne _ _ et]
  · show upd (fun s => usK (A s)) s v t = usK (upd A s (.cls c v) t)
    by_cases et : t = s
    · subst et; rw [upd_same, upd_same]; rfl
    · rw [upd_ne _ _ et, upd_ne _ _ et]
  · show frK (A t) = frK (upd A s (.cls c v) t)
    by_cases et : t = s
    · subst et; rw [upd_same, e]; rfl
    · rw [upd_ne _ _ et]
  · show upd (fun c s => opK c (A s)) c (upd (fun s => opK c (A s)) s true) d t = opK d (upd A s (.cls c v) t)
    by_cases ed : d = c
    · subst ed
      rw [upd_same]
      by_cases et : t = s
      · subst et
        rw [upd_same, upd_same]; simp [opK, hn]
      · rw [upd_ne _ _ et, upd_ne _ _ et]
    · rw [upd_ne _ _ ed]
      by_cases et : t = s
      · subst et; rw [upd_same, e]; simp [opK, Ne.symm ed]
      · rw [upd_ne _ _ et]
theorem cong_gone {n : Nat} {A : Nat → Kd} {wd : Nat → Int} {w : World} {B : HB} {s c u v : Nat} (hc : c < 6) (e : A s = .cls c u)
    (k : At w B n (relS { hrOf A wd with us := upd (hrOf A wd).us s v } s)) : At w B n (hrOf (upd A s .free) wd) := by
  have er : (hrOf A wd).rm s = 2 ^ (c + 1) := by show rmK (A s) = _; rw [e]; rfl
  unfold relS at k
  simp only [er, clOf_room c hc] at k
  refine k.congr (fun t _ => ?_) (fun t _ => ?_) (fun t => ?_) (fun d hd t => ?_) (fun _ _ => rfl)
  · show upd (fun s => rmK (A s)) s 0 t = rmK (upd A s .free t)
    by_cases et : t = s
    · subst et; rw [upd_same, upd_same]; rfl
    · rw [upd_ne _ _ et, upd_ne _ _ et]
  · show upd (upd (fun s => usK (A s)) s v) s 0 t = usK (upd A s .free t)
    by_cases et : t = s
    · subst et; rw [upd_same, upd_same]; rfl
    · rw [upd_ne _ _ et, upd_ne _ _ et, upd_ne _ _ et]
  · show cutF (fun s => frK (A s)) s (s + 1) true t = frK (upd A s .free t)
    rw [cutF_one]
    by_cases et : t = s
    · subst et; rw [upd_same, upd_same]; rfl
    · rw [upd_ne _ _ et, upd_ne _ _ et]
  · show upd (fun c s => opK c (A s)) c (upd (fun s => opK c (A s)) s false) d t = opK d (upd A s .free t)
    by_cases ed : d = c
    · subst ed
      rw [upd_same]
      by_cases et : t = s
      · subst et
        rw [upd_same, upd_same]; rfl
      · rw [upd_ne _ _ et, upd_ne _ _ et]
    · rw [upd_ne _ _ ed]
      by_cases et : t = s
      · subst et; rw [upd_same, e]; simp [opK, Ne.symm ed]
      · rw [upd_ne _ _ et]
theorem cong_big {n : Nat} {A : Nat → Kd} {wd : Nat → Int} {w : World} {B : HB} {s k v : Nat} (hI : Inv n A) (e : A s = .head k)
    (h : At w B n (relB { hrOf A wd with us := upd (hrOf A wd).us s v } s)) : At w B n (hrOf (fun t => if s ≤ t ∧ t < s + k then .free else A t) wd) := by
  have er : (hrOf A wd).rm s = 64 * k := by show rmK (A s) = _; rw [e]; rfl
  obtain ⟨k1, k2, k3, k4⟩ := hI.head _ _ e
  unfold relB at h
  simp only [er, Nat.mul_div_cancel_left k (show 0 < 64 by decide)] at h
  have hA : ∀ t, s ≤ t → t < s + k → t ≠ s → A t = .tail := fun t a b c => k4 t (by omega) b
  refine h.congr (fun t _ => ?_) (fun t _ => ?_) (fun t => ?_) (fun d hd t => ?_) (fun _ _ => rfl)
  · show upd (fun s => rmK (A s)) s 0 t = rmK (if s ≤ t ∧ t < s + k then .free else A t)
    by_cases et : t = s
    · subst et; rw [upd_same, if_pos (by omega)]; rfl
    · rw [upd_ne _ _ et]
      split
      · rename_i h1; rw [hA t h1.1 h1.2 et]; rfl
      · rfl
  · show upd (upd (fun s => usK (A s)) s v) s 0 t = usK (if s ≤ t ∧ t < s + k then .free else A t)
    by_cases et : t = s
    · subst et; rw [upd_same, if_pos (by omega)]; rfl
    · rw [upd_ne _ _ et, upd_ne _ _ et]
      split
      · rename_i h1; rw [hA t h1.1 h1.2 et]; rfl
      · rfl
  · show cutF (fun s => frK (A s)) s (s + k) true t = frK (if s ≤ t ∧ t < s + k then .free else A t)
    unfold cutF
    split
    · rfl
    · rfl
  · show opK d (A t) = opK d (if s ≤ t ∧ t < s + k then .free else A t)
    by_cases et : t = s
    · rw [if_pos (by omega), et, e]; rfl
    · split
      · rename_i h1; rw [hA t h1.1 h1.2 et]; rfl
      · rfl
def freeI (A : Nat → Kd) (a : Int) : Nat → Kd := if roomI A a = 0 then A else freeA A a.toNat
def FreeP (B : HB) (n : Nat) (A : Nat → Kd) (wd : Nat → Int) (a : Int) (w : World) (e : Ending) (w' : World) : Prop :=
  e = .returned (.bool (decide (roomI A a ≠ 0))) ∧ Fr B.mem w w' ∧ At w' B n (hrOf (freeI A a) wd)
set_option maxHeartbeats 2000000 in
theorem Free_any (B : HB) (n : Nat) (A : Nat → Kd) (wd : Nat → Int) (a : Int) (w : World) (h : At w B n (hrOf A wd)) (hI : Inv n A) :
    Calls Tryd.prog 44 #[B.ptr, .int .i64 a] w fun e w' => FreeP B n A wd a w e w' := by
  have HC := hide (Room_any B n (hrOf A wd) a w h (fine_of wd hI))
  rw [roomR_I wd hI] at HC
  by_cases hz : roomI A a = 0
  · rw [hz] at HC
    have H1 : Hid (∀ w', Fr (fun _ => False) w w' → FreeP B n A wd a w (.returned (.bool false)) w') := hide fun w' q => ⟨ret_bool (by simp [hz]), q.toMem, by rw [freeI, if_pos hz]; exact h.quiet q⟩
    clear h hI hz
    unfold HB.ptr at *
    go_enter Tryd.func44, Tryd.ntmps44
    go_wp2_with (first | (go_at_call 42; refine (unhide HC).mono ?_; rintro e w' ⟨rfl, hq⟩))
    all_goals (go_ret; exact unhide H1 _ hq)
  · have h0 : 0 ≤ a := by
      apply Int.not_lt.1
      intro hh
      apply hz
      unfold roomI
      rw [if_neg (by omega)]
    obtain ⟨x, rfl⟩ : ∃ x : Nat, a = (x : Int) := ⟨a.toNat, by omega⟩
    have hrx : roomI A (x : Int) = roomN A x := by unfold roomI; rw [if_pos h0]; rfl
    have HP : Hid (∀ w', Fr B.mem w w' → At w' B n (hrOf (freeA A x) wd) → FreeP B n A wd x w (.returned (.bool true)) w') := hide fun w' q k => ⟨ret_bool (by simp [hz]), q, by rw [freeI, if_neg hz]; exact k⟩
    rw [hrx] at HC hz
    have hin := room_in hI hz
    have hn := h.hi
    have hs : x / 64 < n := by omega
    have hx64 : x < 64 * n := by omega
    have HI := hide hI
    cases e : A (x / 64) with
    | free => unfold roomN at hz; rw [e] at hz; exact absurd rfl hz
    | tail => unfold roomN at hz; rw [e] at hz; exact absurd rfl hz
    | cls c u =>
      have hz2 := hz
      unfold roomN at hz2
      rw [e] at hz2
      obtain ⟨hc, hu0, hu⟩ := hI.cls _ _ _ e
      obtain ⟨o1, o2, o3, o4⟩ := cls_off hc (by omega) hz2
      have hrm : roomN A x = 2 ^ (c + 1) := by unfold roomN; rw [e]; exact o3
      rw [hrm] at HC
      have hpl : x % 64 / 2 ^ (c + 1) < 32 := by
        rcases c6 hc with rfl | rfl | rfl | rfl | rfl | rfl <;> simp <;> omega
      have hu32 := fullC_lt hc
      have hand : bits .andNot .u32 (u : Int) (2 ^ (x % 64 / 2 ^ (c + 1)) % 4294967296) = ((cutU c u (x % 64) : Nat) : Int) := by
        have hp : 2 ^ (x % 64 / 2 ^ (c + 1)) < 2 ^ 32 := Nat.pow_lt_pow_right (by decide) hpl
        rw [show (2 : Int) ^ (x % 64 / 2 ^ (c + 1)) = ((2 ^ (x % 64 / 2 ^ (c + 1)) : Nat) : Int) by simp]
        unfold cutU
        generalize 2 ^ (x % 64 / 2 ^ (c + 1)) = z at *
        rw [show (z : Int) % 4294967296 = (z : Int) by omega, u32_andNot_nat _ _ (by omega) hp]
      have hr64 := room_le hc
      have hr1 : 1 ≤ 2 ^ (c + 1) := Nat.pow_pos (by decide)
      have td : ((x : Int) % 64).tdiv ((2 ^ (c + 1) : Nat) : Int) = ((x % 64 / 2 ^ (c + 1) : Nat) : Int) := by
        rw [Int.tdiv_eq_ediv_of_nonneg (by omega)]; simp
      have HF : Hid (freeA A x = if cutU c u (x % 64) = 0 then upd A (x / 64) .free else upd A (x / 64) (.cls c (cutU c u (x % 64)))) := hide (freeA_cls e)
      have hcu := cutU_ne (o := x % 64) hc (by omega) hu
      have hcl : cutU c u (x % 64) < 4294967296 := Nat.lt_of_le_of_lt (Nat.le_trans cutU_le hu) hu32
      have er : (hrOf A wd).rm (x / 64) = 2 ^ (c + 1) := by show rmK (A (x / 64)) = _; rw [e]; rfl
      have eu : (hrOf A wd).us (x / 64) = u := by show usK (A (x / 64)) = _; rw [e]; rfl
      have HK := hide (fun w' => classOf_any (2 ^ (c + 1)) w' hr64)
      rw [clOf_room c hc] at HK
      have HE := hide e
      have HCU := hide hcu
      have HER := hide er
      have HEU := hide eu
      have HA := hide h
      clear h hI hz hz2 o1 o2 o3 o4 e hcu hu0 hu er eu hrm
      generalize hplq : x % 64 / 2 ^ (c + 1) = pl at *
      generalize hrq : 2 ^ (c + 1) = r at *
      generalize cutU c u (x % 64) = v at *
      have HRQ := hide hrq
      clear hplq hrq
      have wq : IntKind.i64.wrap (pl : Int) = (pl : Int) := by rw [Go.IntKind.wrap_i64]; omega
      have hr0 : (r : Int) ≠ 0 := by omega
      have hr0' : ((r : Int) == 0) = false := by simpa using hr0
      by_cases hv0 : v = 0
      · have HV0 := hide hv0
        have hvb : ((v : Int) == 0) = true := by rw [hv0]; rfl
        clear hv0
        unfold HB.ptr at *
        go_enter Tryd.func44, Tryd.ntmps44
        go_wp2_with fail
        refine (unhide HC).mono ?_; rintro e w1 ⟨rfl, hq⟩
        have hA1 := (unhide HA).quiet hq
        have c1 := hA1.c1
        have cu := hA1.cu (x / 64) hs
        have cr := hA1.cr (x / 64) hs
        have fz := hA1.fz (x / 64 * 2 + 1) (by omega)
        rw [unhide HEU] at cu
        rw [unhide HER] at cr
        have hps := hA1.ok.ps
        have HA2 := hide (hA1.storeU (x / 64) v hs)
        have HQ := hide hq
        clear hA1 HC hq
        go_wp2
        go_region
        all_goals (try rw [hand])
        have hA3 := (unhide HA2).quiet ((Fr.refl _ _).drew)
        have HF3 : Hid (Fr B.mem w ((w1.setCell ⟨B.bs, x / 64 * 2 + 1, none⟩ (.int .u32 v)).drew)) := hide (((unhide HQ).toMem.setCell (p := ⟨B.bs, x / 64 * 2 + 1, none⟩) (.inr (.inr (.inl rfl))) _).drew)
        generalize (w1.setCell ⟨B.bs, x / 64 * 2 + 1, none⟩ (.int .u32 v)).drew = w3 at *
        have c13 := hA3.c1
        have cu3 := hA3.cu (x / 64) hs
        simp only [upd_same] at cu3
        have HA3 := hide hA3
        have HRl := hide (release_small B n _ (x / 64) w3 hA3 hs (by show rmK (A (x / 64)) ≤ 64; rw [unhide HE]; exact room_le hc))
        rw [show ((x / 64 : Nat) : Int) = (x : Int) / 64 by omega] at HRl
        clear hA3 c1 cu cr fz HA HA2 HQ
        unfold HB.ptr at *
        go_wp2_with fail
        refine (unhide HRl).mono ?_; rintro e w4 ⟨rfl, hF4, hA4⟩
        have H4 := hide hA4
        have HF4 := hide hF4
        clear hA4 hF4
        go_wp2_with fail
        go_ret
        exact unhide HP _ ((unhide HF3).trans (unhide HF4)) (by rw [unhide HF, if_pos (unhide HV0)]; exact cong_gone hc (unhide HE) (unhide H4))
      · have hvb : ((v : Int) == 0) = false := by simp; omega
        unfold HB.ptr at *
        go_enter Tryd.func44, Tryd.ntmps44
        go_wp2_with fail
        refine (unhide HC).mono ?_; rintro e w1 ⟨rfl, hq⟩
        have hA1 := (unhide HA).quiet hq
        have c1 := hA1.c1
        have cu := hA1.cu (x / 64) hs
        have cr := hA1.cr (x / 64) hs
        have fz := hA1.fz (x / 64 * 2 + 1) (by omega)
        rw [unhide HEU] at cu
        rw [unhide HER] at cr
        have hps := hA1.ok.ps
        have HA2 := hide (hA1.storeU (x / 64) v hs)
        have HQ := hide hq
        clear hA1 HC hq
        go_wp2
        go_region
        all_goals (try rw [hand])
        have hA3 := (unhide HA2).quiet ((Fr.refl _ _).drew)
        have HF3 : Hid (Fr B.mem w ((w1.setCell ⟨B.bs, x / 64 * 2 + 1, none⟩ (.int .u32 v)).drew)) := hide (((unhide HQ).toMem.setCell (p := ⟨B.bs, x / 64 * 2 + 1, none⟩) (.inr (.inr (.inl rfl))) _).drew)
        generalize (w1.setCell ⟨B.bs, x / 64 * 2 + 1, none⟩ (.int .u32 v)).drew = w3 at *
        have c13 := hA3.c1
        have cu3 := hA3.cu (x / 64) hs
        simp only [upd_same] at cu3
        have HA3 := hide hA3
        have cc3 := hA3.c3 c hc
        have HRl := hide (fun w' (q : Fr (fun _ => False) w3 w') => add_any (B.bo c) (setM n) (x / 64) _ w' (setM_le hn) (setM_lt hs) ((hA3.quiet q).op c hc))
        rw [show ((x / 64 : Nat) : Int) = (x : Int) / 64 by omega] at HRl
        clear hA3 c1 cu cr fz HA HA2 HQ
        go_wp2
        go_region_with (first | (go_at_call 50; refine (unhide HK _).mono ?_; rintro e w'' ⟨rfl, rfl⟩) | (go_at_call 38; refine (unhide HRl _ (by first | exact (Fr.refl _ _).drew | exact Fr.refl _ _)).mono ?_; rintro e w'' ⟨rfl, hs2, hw2⟩))
        all_goals (try go_wp2)
        all_goals (go_ret; exact unhide HP _ ((unhide HF3).trans ((Fr.drew (Fr.refl _ _)).trans (hw2.oMem hc))) (by rw [unhide HF, if_neg hv0]; exact cong_cut (unhide HE) (unhide HCU) (((unhide HA3).quiet (Fr.drew (Fr.refl _ _))).setO hc hw2 hs2)))
    | head k =>
      obtain ⟨k1, k2, k3, k4⟩ := hI.head _ _ e
      have hz2 := hz
      unfold roomN at hz2
      rw [e] at hz2
      have hx0 : x % 64 = 0 := by
        simp only [roomK] at hz2
        by_cases h1 : x % 64 = 0
        · exact h1
        · rw [if_neg h1] at hz2; exact absurd rfl hz2
      have hrm : roomN A x = 64 * k := by unfold roomN; rw [e]; simp only [roomK]; rw [if_pos hx0]
      rw [hrm] at HC
      obtain ⟨u, hu1⟩ : ∃ u : Nat, u = 1 := ⟨1, rfl⟩
      obtain ⟨pl, hp0⟩ : ∃ pl : Nat, pl = 0 := ⟨0, rfl⟩
      obtain ⟨v, hv0⟩ : ∃ v : Nat, v = 0 := ⟨0, rfl⟩
      obtain ⟨r, hrk⟩ : ∃ r : Nat, r = 64 * k := ⟨_, rfl⟩
      rw [← hrk] at HC
      have hand : bits .andNot .u32 (u : Int) (2 ^ pl % 4294967296) = (v : Int) := by rw [hu1, hp0, hv0]; rfl
      have td : ((x : Int) % 64).tdiv (r : Int) = (pl : Int) := by rw [show (x : Int) % 64 = 0 by omega, hp0]; simp
      have HF : Hid (freeA A x = fun t => if x / 64 ≤ t ∧ t < x / 64 + k then .free else A t) := hide (freeA_head e)
      have er : (hrOf A wd).rm (x / 64) = r := by show rmK (A (x / 64)) = _; rw [e, hrk]; rfl
      have eu : (hrOf A wd).us (x / 64) = u := by show usK (A (x / 64)) = _; rw [e, hu1]; rfl
      have hpl : pl < 32 := by omega
      have hul : u < 4294967296 := by omega
      have hr1 : 128 ≤ r := by omega
      have hr2 : r ≤ 16448 := by omega
      have HE := hide e
      have HER := hide er
      have HEU := hide eu
      have HA := hide h
      have HRK := hide hrk
      have hfk : x / 64 + r / 64 ≤ n := by omega
      have hvb : ((v : Int) == 0) = true := by rw [hv0]; rfl
      clear hv0 h hI hz hz2 e er eu hrm hu1 hp0 hrk k4 hx0
      have wq : IntKind.i64.wrap (pl : Int) = (pl : Int) := by rw [Go.IntKind.wrap_i64]; omega
      have hr0 : (r : Int) ≠ 0 := by omega
      have hr0' : ((r : Int) == 0) = false := by simpa using hr0
      unfold HB.ptr at *
      go_enter Tryd.func44, Tryd.ntmps44
      go_wp2_with fail
      refine (unhide HC).mono ?_; rintro e w1 ⟨rfl, hq⟩
      have hA1 := (unhide HA).quiet hq
      have c1 := hA1.c1
      have cu := hA1.cu (x / 64) hs
      have cr := hA1.cr (x / 64) hs
      have fz := hA1.fz (x / 64 * 2 + 1) (by omega)
      rw [unhide HEU] at cu
      rw [unhide HER] at cr
      have hps := hA1.ok.ps
      have HA2 := hide (hA1.storeU (x / 64) v hs)
      have HQ := hide hq
      clear hA1 HC hq
      go_wp2
      go_region
      all_goals (try rw [hand])
      have hA3 := (unhide HA2).quiet ((Fr.refl _ _).drew)
      have HF3 : Hid (Fr B.mem w ((w1.setCell ⟨B.bs, x / 64 * 2 + 1, none⟩ (.int .u32 v)).drew)) := hide (((unhide HQ).toMem.setCell (p := ⟨B.bs, x / 64 * 2 + 1, none⟩) (.inr (.inr (.inl rfl))) _).drew)
      generalize (w1.setCell ⟨B.bs, x / 64 * 2 + 1, none⟩ (.int .u32 v)).drew = w3 at *
      have c13 := hA3.c1
      have cu3 := hA3.cu (x / 64) hs
      simp only [upd_same] at cu3
      have HA3 := hide hA3
      have HRl := hide (release_big B n _ (x / 64) w3 hA3 hs (by show 64 < (hrOf A wd).rm (x / 64); rw [unhide HER]; omega) (by show x / 64 + (hrOf A wd).rm (x / 64) / 64 ≤ n; rw [unhide HER]; exact hfk))
      rw [show ((x / 64 : Nat) : Int) = (x : Int) / 64 by omega] at HRl
      clear hA3 c1 cu cr fz HA HA2 HQ
      unfold HB.ptr at *
      go_wp2_with fail
      refine (unhide HRl).mono ?_; rintro e w4 ⟨rfl, hF4, hA4⟩
      have H4 := hide hA4
      have HF4 := hide hF4
      clear hA4 hF4
      go_wp2_with fail
      go_ret
      exact unhide HP _ ((unhide HF3).trans (unhide HF4)) (by rw [unhide HF]; exact cong_big (unhide HI) (unhide HE) (unhide H4))
end Go.Proofs.YtogjblikljggbaaDoor
