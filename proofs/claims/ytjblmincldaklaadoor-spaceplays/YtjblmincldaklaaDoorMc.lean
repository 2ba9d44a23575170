/- Gv5 Gv6 Gv7 Gv8, in one text. -/
import Derived.Test.YtjblmincldaklaaDoorMb
import Derived.Lib.SliceRun
import Derived.Laws.IdiomCopy
namespace Go.Proofs.YtjblmincldaklaaDoor
open Go.RowKit Go.Proofs.YtjblmincldaklaaDoor.Hp
/-- The state of the search for k free spans in a row: those from a to s are free, ahead of a none is. -/
def Look (F : Nat → Bool) (k a s : Nat) : Prop := a ≤ s ∧ s < a + k ∧ (∀ t, a ≤ t → t < s → F t = true) ∧ (a = 0 ∨ F (a - 1) = false) ∧ ∀ g, g + k ≤ s → ∃ t, g ≤ t ∧ t < g + k ∧ F t = false
theorem Look.start (F : Nat → Bool) (k : Nat) (hk : 2 ≤ k) : Look F k 0 0 := ⟨Nat.le_refl _, by omega, fun t h1 h2 => by omega, .inl rfl, fun g hg => by omega⟩
theorem Look.miss {F : Nat → Bool} {k a s : Nat} (h : Look F k a s) (hk : 2 ≤ k) (hs : F s = false) : Look F k (s + 1) (s + 1) := by
  obtain ⟨h1, h2, h3, h4, h5⟩ := h
  refine ⟨Nat.le_refl _, by omega, fun t a b => by omega, .inr (by simpa using hs), fun g hg => ?_⟩
  by_cases e : g + k ≤ s
  · exact h5 g e
  · exact ⟨s, by omega, by omega, hs⟩
theorem Look.more {F : Nat → Bool} {k a s : Nat} (h : Look F k a s) (hs : F s = true) (hk : s + 1 < a + k) : Look F k a (s + 1) := by
  obtain ⟨h1, h2, h3, h4, h5⟩ := h
  refine ⟨by omega, hk, fun t b c => ?_, h4, fun g hg => ?_⟩
  · by_cases e : t = s
    · rw [e]; exact hs
    · exact h3 t b (by omega)
  · by_cases e : g + k ≤ s
    · exact h5 g e
    · rcases h4 with h4 | h4
      · omega
      · exact ⟨a - 1, by omega, by omega, h4⟩
theorem Look.found {F : Nat → Bool} {k a s : Nat} (h : Look F k a s) (hs : F s = true) (hk : s + 1 = a + k) : (∀ t, a ≤ t → t < a + k → F t = true) ∧ ∀ g, g < a → ∃ t, g ≤ t ∧ t < g + k ∧ F t = false := by
  obtain ⟨h1, h2, h3, h4, h5⟩ := h
  refine ⟨fun t b c => ?_, fun g hg => ?_⟩
  · by_cases e : t = s
    · rw [e]; exact hs
    · exact h3 t b (by omega)
  · by_cases e : g + k ≤ s
    · exact h5 g e
    · rcases h4 with h4 | h4
      · omega
      · exact ⟨a - 1, by omega, by omega, h4⟩
set_option maxHeartbeats 2000000 in
theorem placeR_any (B : HB) (n : Nat) (R : HR) (k : Nat) (w : World) (h : At w B n R) (hk : 2 ≤ k) (hk2 : k ≤ 1000) :
    Calls Tryd.prog 57 #[B.ptr, .int .i64 k] w fun e w' => Fr B.mem w w' ∧ ((∃ f : Nat, f + k ≤ n ∧ (∀ t, f ≤ t → t < f + k → R.fr t = true) ∧ (∀ g, g < f → ∃ t, g ≤ t ∧ t < g + k ∧ R.fr t = false) ∧ e = .returned (.tuple #[.int .i64 ((f * 64 : Nat) : Int), .bool true]) ∧ At w' B n { R with rm := upd R.rm f (k * 64), fr := cutF R.fr f (f + k) false, us := upd R.us f 1 }) ∨ ((∀ g, g + k ≤ n → ∃ t, g ≤ t ∧ t < g + k ∧ R.fr t = false) ∧ e = .returned (.tuple #[.int .i64 0, .bool false]) ∧ At w' B n R)) := by
  have c1 := h.c1
  have c2 := h.c2
  have hh := h.hi
  have HA := hide h
  clear h
  unfold HB.ptr at *
  go_enter Tryd.func57, Tryd.ntmps57
  go_wp2
  go_loop [14, 6] (fun i r => ∃ s a : Nat, s ≤ n ∧ i = .int .i64 s ∧ a ≤ s ∧ s < a + k ∧ r = .int .i64 ((s - a : Nat) : Int) ∧ Hid (Look R.fr k a s)) (fun i _ => n - (intOf i).toNat)
  case atStart => exact ⟨0, 0, by omega, rfl, by omega, by omega, rfl, hide (Look.start R.fr k hk)⟩
  case round =>
    obtain ⟨s, a, hs, rfl, ha1, ha2, rfl, hL⟩ := hrel
    by_cases hlt : s < n
    · have HC := hide (has_any B.bf (setM n) s R.fr w (setM_le hh) (setM_lt hlt) (unhide HA).fr)
      cases hF : R.fr s with
      | false =>
        rw [hF] at HC
        have HF := hide hF
        clear hF
        go_wp2_with (first | (go_at_call 71; refine (unhide HC).mono ?_; rintro e w' ⟨rfl, rfl⟩))
        go_round
        case rel => exact ⟨s + 1, s + 1, by omega, by go_num, by omega, by omega, by simp, hide ((unhide hL).miss hk (unhide HF))⟩
        case measure => simp [intOf]; omega
      | true =>
        rw [hF] at HC
        have HF := hide hF
        clear hF
        by_cases he : s + 1 = a + k
        · have hak : a + k ≤ n := by omega
          have hsa : s - a + 1 = k := by omega
          have HG := hide (give_any B n R a k (k * 64) w (unhide HA) hak (by omega))
          have hz : ((s - a : Nat) : Int) + 1 = (k : Int) := by omega
          have hy : (s : Int) + 1 - (k : Int) = (a : Int) := by omega
          have HFd := hide ((unhide hL).found (unhide HF) he)
          go_wp2_with fail
          refine (unhide HC).mono ?_; rintro e w' ⟨rfl, rfl⟩
          go_wp2_with fail
          refine (unhide HG).mono ?_; rintro e w1 ⟨rfl, hF1, hA1⟩
          have c11 := hA1.c1
          have cu1 := hA1.cu a (by omega)
          have fz1 := hA1.fz (a * 2 + 1) (by omega)
          have HA1 := hide hA1
          have HF1 := hide hF1
          clear hA1 hF1
          go_wp2_with fail
          go_ret2
          exact ⟨(unhide HF1).setCell (.inr (.inr (.inl rfl))) _, .inl ⟨a, hak, (unhide HFd).1, (unhide HFd).2, ret_two (val_int (by push_cast; omega)) rfl, (unhide HA1).storeU a 1 (by omega)⟩⟩
        · have hne : ((s - a : Nat) : Int) + 1 ≠ (k : Int) := by omega
          have hnb : (((s - a : Nat) : Int) + 1 == (k : Int)) = false := by simpa using hne
          go_wp2_with (first | (go_at_call 71; refine (unhide HC).mono ?_; rintro e w' ⟨rfl, rfl⟩))
          go_round
          case rel => exact ⟨s + 1, a, by omega, by go_num, by omega, by omega, by go_num, hide ((unhide hL).more (unhide HF) (by omega))⟩
          case measure => simp [intOf]; omega
    · go_wp2
      go_ret2
      refine ⟨Fr.refl _ _, .inr ⟨fun g hg => (unhide hL).2.2.2.2 g (by omega), rfl, unhide HA⟩⟩
end Go.Proofs.YtjblmincldaklaaDoor
namespace Go.Proofs.YtjblmincldaklaaDoor
open Go.RowKit Go.Proofs.YtjblmincldaklaaDoor.Hp
theorem least_ex (P : Nat → Bool) : ∀ n, (∃ s, s < n ∧ P s = true ∧ ∀ t, t < s → P t = false) ∨ ∀ s, s < n → P s = false
  | 0 => .inr fun s hs => by omega
  | n + 1 => by
    rcases least_ex P n with ⟨s, hs, h1, h2⟩ | h
    · exact .inl ⟨s, by omega, h1, h2⟩
    · cases hp : P n with
      | true => exact .inl ⟨n, by omega, hp, h⟩
      | false =>
        refine .inr fun s hs => ?_
        by_cases e : s = n
        · rw [e]; exact hp
        · exact h s (by omega)
theorem frK_true {k : Kd} : frK k = true ↔ k = .free := by cases k <;> simp [frK]
theorem frK_false {k : Kd} : frK k = false ↔ k ≠ .free := by cases k <;> simp [frK]
theorem opK_true {c : Nat} {k : Kd} (h : opK c k = true) : ∃ u, k = .cls c u ∧ u ≠ fullC c := by
  cases k with
  | cls d u =>
    simp only [opK, Bool.and_eq_true, decide_eq_true_eq] at h
    obtain ⟨rfl, h2⟩ := h
    exact ⟨u, rfl, h2⟩
  | _ => simp [opK] at h
theorem opK_past {n : Nat} {A : Nat → Kd} (h : Inv n A) (c : Nat) {s : Nat} (hs : n ≤ s) : opK c (A s) = false := by rw [h.past s hs]; rfl
theorem cong_op {n : Nat} {A : Nat → Kd} {wd : Nat → Int} {w : World} {B : HB} (h : Inv n A) {s c u v : Nat} (e : A s = .cls c u) (hv : v ≤ fullC c) (hn : u ≠ fullC c)
    (k : At w B n { hrOf A wd with us := upd (hrOf A wd).us s v, op := upd (hrOf A wd).op c (opAft ((hrOf A wd).op c) s v (2 ^ (c + 1))) }) : At w B n (hrOf (upd A s (.cls c v)) wd) := by
  have hc := (h.cls _ _ _ e).1
  refine k.congr (fun t _ => ?_) (fun t _ => ?_) (fun t => ?_) (fun d hd t => ?_) (fun _ _ => rfl)
  · show rmK (A t) = rmK (upd A s (.cls c v) t)
    by_cases et : t = s
    · subst et; rw [upd_same, e]; rfl
    · rw [upd_ne _ _ et]
  · show upd (fun s => usK (A s)) s v t = usK (upd A s (.cls c v) t)
    by_cases et : t = s
    · subst et; rw [upd_same, upd_same]; rfl
    · rw [upd_ne _ _ et, upd_ne _ _ et]
  · show frK (A t) = frK (upd A s (.cls c v) t)
    by_cases et : t = s
    · subst et; rw [upd_same, e]; rfl
    · rw [upd_ne _ _ et]
  · show upd (fun c s => opK c (A s)) c (opAft (fun s => opK c (A s)) s v (2 ^ (c + 1))) d t = opK d (upd A s (.cls c v) t)
    by_cases ed : d = c
    · subst ed
      rw [upd_same]
      unfold opAft
      simp only [full_iff hc hv]
      by_cases et : t = s
      · subst et
        rw [upd_same]
        by_cases hf : v = fullC d
        · rw [if_pos hf, upd_same]; simp [opK, hf]
        · rw [if_neg hf, e]; simp [opK, hf, hn]
      · rw [upd_ne _ _ et]
        split
        · rw [upd_ne _ _ et]
        · rfl
    · rw [upd_ne _ _ ed]
      by_cases et : t = s
      · subst et; rw [upd_same, e]; simp [opK, Ne.symm ed]
      · rw [upd_ne _ _ et]
theorem cong_free {n : Nat} {A : Nat → Kd} {wd : Nat → Int} {w : World} {B : HB} {s c v : Nat} (hc : c < 6) (e : A s = .free) (hv : v ≤ fullC c)
    (k : At w B n { hrOf A wd with rm := upd (hrOf A wd).rm s (2 ^ (c + 1)), fr := upd (hrOf A wd).fr s false, us := upd (hrOf A wd).us s v, op := upd (hrOf A wd).op c (opAft (upd ((hrOf A wd).op c) s true) s v (2 ^ (c + 1))) }) : At w B n (hrOf (upd A s (.cls c v)) wd) := by
  refine k.congr (fun t _ => ?_) (fun t _ => ?_) (fun t => ?_) (fun d hd t => ?_) (fun _ _ => rfl)
  · show upd (fun s => rmK (A s)) s (2 ^ (c + 1)) t = rmK (upd A s (.cls c v) t)
    by_cases et : t = s
    · subst et; rw [upd_same, upd_same]; rfl
    · rw [upd_ne _ _ et, upd_ne _ _ et]
  · show upd (fun s => usK (A s)) s v t = usK (upd A s (.cls c v) t)
    by_cases et : t = s
    · subst et; rw [upd_same, upd_same]; rfl
    · rw [upd_ne _ _ et, upd_ne _ _ et]
  · show upd (fun s => frK (A s)) s false t = frK (upd A s (.cls c v) t)
    by_cases et : t = s
    · subst et; rw [upd_same, upd_same]; rfl
    · rw [upd_ne _ _ et, upd_ne _ _ et]
  · show upd (fun c s => opK c (A s)) c (opAft (upd (fun s => opK c (A s)) s true) s v (2 ^ (c + 1))) d t = opK d (upd A s (.cls c v) t)
    by_cases ed : d = c
    · subst ed
      rw [upd_same]
      unfold opAft
      simp only [full_iff hc hv]
      by_cases et : t = s
      · subst et
        rw [upd_same]
        by_cases hf : v = fullC d
        · rw [if_pos hf, upd_same]; simp [opK, hf]
        · rw [if_neg hf, upd_same]; simp [opK, hf]
      · rw [upd_ne _ _ et]
        split
        · rw [upd_ne _ _ et, upd_ne _ _ et]
        · rw [upd_ne _ _ et]
    · rw [upd_ne _ _ ed]
      by_cases et : t = s
      · subst et; rw [upd_same, e]; simp [opK, Ne.symm ed]
      · rw [upd_ne _ _ et]
theorem cong_row {n : Nat} {A : Nat → Kd} {wd : Nat → Int} {w : World} {B : HB} {f k : Nat} (e : ∀ t, f ≤ t → t < f + k → A t = .free) (hk : 0 < k)
    (h : At w B n { hrOf A wd with rm := upd (hrOf A wd).rm f (k * 64), fr := cutF (hrOf A wd).fr f (f + k) false, us := upd (hrOf A wd).us f 1 }) : At w B n (hrOf (fun s => if s = f then .head k else if f < s ∧ s < f + k then .tail else A s) wd) := by
  refine h.congr (fun t _ => ?_) (fun t _ => ?_) (fun t => ?_) (fun d hd t => ?_) (fun _ _ => rfl)
  · show upd (fun s => rmK (A s)) f (k * 64) t = rmK (if t = f then .head k else if f < t ∧ t < f + k then .tail else A t)
    by_cases et : t = f
    · subst et; rw [upd_same, if_pos rfl]; exact Nat.mul_comm _ _
    · rw [upd_ne _ _ et, if_neg et]
      split
      · rw [e t (by omega) (by omega)]; rfl
      · rfl
  · show upd (fun s => usK (A s)) f 1 t = usK (if t = f then .head k else if f < t ∧ t < f + k then .tail else A t)
    by_cases et : t = f
    · subst et; rw [upd_same, if_pos rfl]; rfl
    · rw [upd_ne _ _ et, if_neg et]
      split
      · rw [e t (by omega) (by omega)]; rfl
      · rfl
  · show cutF (fun s => frK (A s)) f (f + k) false t = frK (if t = f then .head k else if f < t ∧ t < f + k then .tail else A t)
    unfold cutF
    by_cases et : t = f
    · subst et; rw [if_pos (by omega), if_pos rfl]; rfl
    · rw [if_neg et]
      by_cases e1 : f < t ∧ t < f + k
      · rw [if_pos (by omega), if_pos e1]; rfl
      · rw [if_neg (by omega), if_neg e1]
  · show opK d (A t) = opK d (if t = f then .head k else if f < t ∧ t < f + k then .tail else A t)
    by_cases et : t = f
    · rw [if_pos et, et, e f (Nat.le_refl _) (by omega)]; rfl
    · rw [if_neg et]
      split
      · rw [e t (by omega) (by omega)]; rfl
      · rfl
theorem low0 : lowP 0 = 0 := by decide
theorem placeC_any (B : HB) (n : Nat) (A : Nat → Kd) (wd : Nat → Int) (m : Nat) (w : World) (h : At w B n (hrOf A wd)) (hI : Inv n A) (hV : Vars w) (hm : m ≤ 64) (h0 : ¬ B.mem 0) (h00 : ¬ B.mem 1) :
    Calls Tryd.prog 55 #[B.ptr, .int .i64 (clOf m)] w fun e w' => Fr B.mem w w' ∧ ((∃ a A', Goes n A m a A' ∧ e = .returned (.tuple #[.int .i64 ((a : Nat) : Int), .bool true]) ∧ At w' B n (hrOf A' wd)) ∨ (NoPlace n A m ∧ e = .returned (.tuple #[.int .i64 0, .bool false]) ∧ At w' B n (hrOf A wd))) := by
  have hc := clOf_lt m
  rcases least_ex (fun s => opK (clOf m) (A s)) n with ⟨s, hs, h1, h2⟩ | h1
  · obtain ⟨u, e, hn⟩ := opK_true h1
    obtain ⟨_, _, hu⟩ := hI.cls _ _ _ e
    obtain ⟨l1, l2⟩ := lowP_lt hc hu hn
    have er : (hrOf A wd).rm s = 2 ^ (clOf m + 1) := by show rmK (A s) = _; rw [e]; rfl
    have eu : (hrOf A wd).us s = u := by show usK (A s) = _; rw [e]; rfl
    refine (placeC_open B n (hrOf A wd) (clOf m) s u _ (lowP u) _ w h hV hc hs h1 h2 er (Nat.pow_pos (by decide)) (room_le hc) eu l1 rfl rfl).mono ?_
    rintro e1 w' ⟨rfl, hF, hA⟩
    exact ⟨hF, .inl ⟨_, _, .op s u hm hs e hn h2, rfl, cong_op hI e (or_le hu l2).1 hn hA⟩⟩
  · have h1' : ∀ t, opK (clOf m) (A t) = false := fun t => by
      rcases Nat.lt_or_ge t n with ht | ht
      · exact h1 t ht
      · exact opK_past hI _ ht
    rcases least_ex (fun s => frK (A s)) n with ⟨s, hs, h3, h2⟩ | h3
    · have e := frK_true.1 h3
      have eu : (hrOf A wd).us s = 0 := by show usK (A s) = _; rw [e]; rfl
      refine (placeC_free B n (hrOf A wd) (clOf m) s 0 _ (lowP 0) _ w h hV hc hs h1' h3 h2 rfl (Nat.pow_pos (by decide)) (room_le hc) eu (by omega) rfl rfl h0 h00).mono ?_
      rintro e1 w' ⟨rfl, hF, hA⟩
      rw [low0] at hA ⊢
      refine ⟨hF, .inl ⟨s * 64, _, .free s hm hs e (fun t ht => frK_false.1 (h2 t ht)) h1', ?_, cong_free hc e (one_le_full hc) hA⟩⟩
      rw [Nat.zero_mul, Nat.add_zero]
    · refine (placeC_none B n (hrOf A wd) (clOf m) w h hV hc h1' (fun t => ?_)).mono ?_
      · rcases Nat.lt_or_ge t n with ht | ht
        · exact h3 t ht
        · show frK (A t) = false; rw [hI.past t ht]; rfl
      · rintro e1 w' ⟨rfl, rfl⟩
        refine ⟨Fr.refl _ _, .inr ⟨.inl ⟨hm, h1', fun t => ?_⟩, rfl, h⟩⟩
        rcases Nat.lt_or_ge t n with ht | ht
        · exact frK_false.1 (h3 t ht)
        · rw [hI.past t ht]; simp
def PlaceP (B : HB) (n : Nat) (A : Nat → Kd) (wd : Nat → Int) (m : Nat) (w : World) (e : Ending) (w' : World) : Prop :=
  Fr B.mem w w' ∧ ((∃ a A', Goes n A m a A' ∧ e = .returned (.tuple #[.int .i64 ((a : Nat) : Int), .bool true]) ∧ At w' B n (hrOf A' wd)) ∨ (NoPlace n A m ∧ e = .returned (.tuple #[.int .i64 0, .bool false]) ∧ At w' B n (hrOf A wd)))
theorem placeR_abs (B : HB) (n : Nat) (A : Nat → Kd) (wd : Nat → Int) (m : Nat) (w : World) (h : At w B n (hrOf A wd)) (hm : 64 < m) (hm2 : m ≤ 16448) :
    Calls Tryd.prog 57 #[B.ptr, .int .i64 (((m + 63) / 64 : Nat) : Int)] w fun e w' => PlaceP B n A wd m w e w' := by
  refine (placeR_any B n (hrOf A wd) ((m + 63) / 64) w h (by omega) (by omega)).mono ?_
  rintro e w' ⟨hF, ⟨f, h1, h2, h3, rfl, hA⟩ | ⟨h1, rfl, hA⟩⟩
  · have e1 : ∀ t, f ≤ t → t < f + (m + 63) / 64 → A t = .free := fun t a b => frK_true.1 (h2 t a b)
    refine ⟨hF, .inl ⟨_, _, .row f _ hm rfl h1 e1 (fun g hg => ?_), rfl, cong_row e1 (by omega) hA⟩⟩
    obtain ⟨t, a, b, c⟩ := h3 g hg
    exact ⟨t, a, b, frK_false.1 c⟩
  · refine ⟨hF, .inr ⟨.inr ⟨hm, fun g hg => ?_⟩, rfl, hA⟩⟩
    obtain ⟨t, a, b, c⟩ := h1 g hg
    exact ⟨t, a, b, frK_false.1 c⟩
set_option maxHeartbeats 1000000 in
theorem place_any (B : HB) (n : Nat) (A : Nat → Kd) (wd : Nat → Int) (m : Nat) (w : World) (h : At w B n (hrOf A wd)) (hI : Inv n A) (hV : Vars w) (hm : m ≤ 16448) (h0 : ¬ B.mem 0) (h00 : ¬ B.mem 1) :
    Calls Tryd.prog 43 #[B.ptr, .int .i64 m] w fun e w' => PlaceP B n A wd m w e w' := by
  by_cases hm4 : m ≤ 64
  · have HC := hide (placeC_any B n A wd m w h hI hV hm4 h0 h00)
    have HK := hide (classOf_any m w hm4)
    have HP : Hid (PlaceP B n A wd m w = fun e w' => PlaceP B n A wd m w e w') := hide rfl
    have hc := clOf_lt m
    clear h hI hV h0 h00
    unfold HB.ptr at *
    go_enter Tryd.func43, Tryd.ntmps43
    go_wp2_with fail
    refine (unhide HK).mono ?_; rintro e w' ⟨rfl, rfl⟩
    go_wp2_with fail
    refine (unhide HC).mono ?_
    rintro e w1 ⟨hF, ⟨a, A', hg, rfl, hA⟩ | ⟨hn, rfl, hA⟩⟩
    · have H1 : Hid (PlaceP B n A wd m w' (.returned (.tuple #[.int .i64 ((a : Nat) : Int), .bool true])) w1) := hide ⟨hF, .inl ⟨a, A', hg, rfl, hA⟩⟩
      clear hg hA hF
      go_wp2_with fail
      go_ret2
      exact unhide H1
    · have H1 : Hid (PlaceP B n A wd m w' (.returned (.tuple #[.int .i64 0, .bool false])) w1) := hide ⟨hF, .inr ⟨hn, rfl, hA⟩⟩
      clear hn hA hF
      go_wp2_with fail
      go_ret2
      exact unhide H1
  · have HC := hide (placeR_abs B n A wd m w h (by omega) hm)
    have hq : ((m : Int) + 64 - 1) / 64 = (((m + 63) / 64 : Nat) : Int) := by omega
    clear h hI hV h0 h00
    unfold HB.ptr at *
    go_enter Tryd.func43, Tryd.ntmps43
    go_wp2_with fail
    refine (unhide HC).mono ?_
    rintro e w1 ⟨hF, ⟨a, A', hg, rfl, hA⟩ | ⟨hn, rfl, hA⟩⟩
    · have H1 : Hid (PlaceP B n A wd m w (.returned (.tuple #[.int .i64 ((a : Nat) : Int), .bool true])) w1) := hide ⟨hF, .inl ⟨a, A', hg, rfl, hA⟩⟩
      clear hg hA hF
      go_wp2_with fail
      go_ret2
      exact unhide H1
    · have H1 : Hid (PlaceP B n A wd m w (.returned (.tuple #[.int .i64 0, .bool false])) w1) := hide ⟨hF, .inr ⟨hn, rfl, hA⟩⟩
      clear hn hA hF
      go_wp2_with fail
      go_ret2
      exact unhide H1
end Go.Proofs.YtjblmincldaklaaDoor
namespace Go.Proofs.YtjblmincldaklaaDoor
open Go.RowKit Go.Proofs.YtjblmincldaklaaDoor.Hp
def clearW (wd : Nat → Int) (a r : Nat) : Nat → Int := fun i => if a ≤ i ∧ i < a + r then 0 else wd i
theorem Fr.setCells {K : Nat → Prop} {b : Nat} (hb : K b) : ∀ (vs : List Value) (o : Nat) {a w : World}, Fr K a w → Fr K a (w.setCells b o vs)
  | [], _, _, _, h => h
  | v :: r, o, _, _, h => Fr.setCells hb r (o + 1) (h.setCell (p := ⟨b, o, none⟩) hb v)
theorem Row.clear {w : World} {b m a r : Nat} {f : Nat → Value} {z : Value} (h : Row w b m f) (hr : a + r ≤ m) : Row (w.setCells b a (List.replicate r z)) b m (fun i => if a ≤ i ∧ i < a + r then z else f i) := by
  intro i hi
  refine ⟨?_, by rw [World.frozen?_setCells]; exact (h i hi).2⟩
  by_cases e : a ≤ i ∧ i < a + r
  · dsimp only
    rw [if_pos e]
    have := World.cell?_setCells_in b (List.replicate r z) a w (fun j hj => by rw [List.length_replicate] at hj; rw [(h (a + j) (by omega)).1]; rfl) (i - a) (by rw [List.length_replicate]; omega)
    rw [show a + (i - a) = i by omega] at this
    rw [this]; simp
  · dsimp only
    rw [if_neg e, World.cell?_setCells_out b _ a w ⟨b, i, none⟩ (fun _ _ => by rw [List.length_replicate]; dsimp only; omega)]
    exact (h i hi).1
theorem At.clear {w : World} {B : HB} {n : Nat} {A : Nat → Kd} {wd : Nat → Int} {a r : Nat} (h : At w B n (hrOf A wd)) (hr : a + r ≤ 64 * n) : At (w.setCells B.bw a (List.replicate r (.int .i64 0))) B n (hrOf A (clearW wd a r)) := by
  refine At.setW (R := hrOf A wd) h (Fr.setCells (K := (· = B.bw)) rfl _ _ (Fr.refl _ w)) ((h.wo.clear hr).ext fun i _ => ?_)
  show (if a ≤ i ∧ i < a + r then _ else _) = Value.int .i64 (clearW wd a r i)
  unfold clearW
  split <;> rfl
/-- clear, as one step of a region that draws. -/
theorem step_clear {ops : Array Oper} {o : Oper} {a : Act} {w : World} {K : Act → World → Prop} {Q : Exit → Act → World → Prop} {E : Prop}
    (hg : o.guard = none) (s : Operand) (hop : o.op = Op.call { callee := Callee.builtin Builtin.clear, args := #[s], argTypes := #[31] })
    (b off r c : Nat) (hs : a.eval s = .slice (some ⟨b, off, none⟩) r c) (hr : 0 < r) (hc : ∀ j, j < r → (w.cell? ⟨b, off + j, none⟩).isSome = true) (hf : ∀ j, j < r → w.frozen? ⟨b, off + j, none⟩ = false)
    (hK : K (a.put o.dst (.tuple #[])) (w.setCells b off (List.replicate r (.int .i64 0)))) :
    if Region.wanted o (yielded ops a.tmps) = true then Oper.wp Tryd.prog o a w K Q else E := by
  have hw : Region.wanted o (yielded ops a.tmps) = true := by simp [Region.wanted, hg]
  rw [if_pos hw]
  have hrun := Lib.run_clear_slice (P := Tryd.prog) w 31 3 o.type (.int .i64 0) Tryd.underlying31 Tryd.zeroValue3 rfl rfl b off r c hr hc hf
  unfold Oper.wp
  simp [execOp, hop, resolve, invoke, builtin, hs, hrun, Result.andThen]
  exact hK
def AllocP (B : HB) (n : Nat) (A : Nat → Kd) (wd : Nat → Int) (m : Int) (w : World) (e : Ending) (w' : World) : Prop :=
  Fr B.mem w w' ∧ ((∃ a A', 1 ≤ m ∧ m ≤ 16448 ∧ Goes n A m.toNat a A' ∧ e = .returned (.tuple #[.int .i64 ((a : Nat) : Int), .bool true]) ∧ At w' B n (hrOf A' (clearW wd a (roomOfM m.toNat)))) ∨ ((m < 1 ∨ 16448 < m ∨ NoPlace n A m.toNat) ∧ e = .returned (.tuple #[.int .i64 0, .bool false]) ∧ At w' B n (hrOf A wd)))
theorem roomOfM_pos (m : Nat) : 0 < roomOfM m := by
  unfold roomOfM
  split
  · exact Nat.pow_pos (by decide)
  · omega
set_option maxHeartbeats 2000000 in
theorem Alloc_any (B : HB) (n : Nat) (A : Nat → Kd) (wd : Nat → Int) (m : Int) (w : World) (h : At w B n (hrOf A wd)) (hI : Inv n A) (hV : Vars w) (h0 : ¬ B.mem 0) (h00 : ¬ B.mem 1) :
    Calls Tryd.prog 27 #[B.ptr, .int .i64 m] w fun e w' => AllocP B n A wd m w e w' := by
  by_cases hm : 1 ≤ m ∧ m ≤ 16448
  · obtain ⟨x, rfl⟩ : ∃ x : Nat, m = (x : Int) := ⟨m.toNat, by omega⟩
    have hx : x ≤ 16448 := by omega
    have HC := hide (place_any B n A wd x w h hI hV hx h0 h00)
    have hx1 : 1 ≤ x := by omega
    have HI := hide hI
    clear h hV h0 h00 hm hI
    unfold HB.ptr at *
    go_enter Tryd.func27, Tryd.ntmps27
    go_wp2_with fail
    refine (unhide HC).mono ?_
    rintro e w1 ⟨hF, ⟨a, A', hg, rfl, hA⟩ | ⟨hn, rfl, hA⟩⟩
    · have hI' := hg.inv (unhide HI) hx
      have hrm := room_goes (unhide HI) hg
      have hra : roomN A' a = roomOfM x := by rw [hrm.2 a, if_pos rfl]
      have hpos := roomOfM_pos x
      have hin := room_in hI' (x := a) (by rw [hra]; omega)
      rw [hra] at hin
      have HR := hide (fun w' (q : Fr (fun _ => False) w1 w') => Room_any B n (hrOf A' wd) (a : Int) w' (hA.quiet q) (fine_of wd hI'))
      have hrr : roomR n (hrOf A' wd) (a : Int) = roomOfM x := by
        rw [roomR_I wd hI', roomI, if_pos (by omega)]; simpa using hra
      rw [hrr] at HR
      have hh := hA.hi
      have c0 := hA.c0
      have HA := hide hA
      have HG := hide hg
      have HF := hide hF
      clear hg hA hF hI' hrm hra hrr
      have h64 : a + roomOfM x ≤ 64 * n := hin.2.1
      generalize hroom : roomOfM x = r at *
      have HRR := hide hroom
      clear hroom
      unfold HB.ptr at *
      have ha1 : (a : Int) ≤ (a : Int) + (r : Int) := by omega
      have ha2 : (a : Int) + (r : Int) ≤ ((64 * n : Nat) : Int) := by omega
      have ha3 : (a : Int) + (r : Int) ≤ 64 * (n : Int) := by omega
      have ha4 : ¬ 64 * n = a := by omega
      have hwr : IntKind.i64.wrap ((a : Int) + (r : Int)) = (a : Int) + (r : Int) := by rw [Go.IntKind.wrap_i64]; omega
      have ha5 : ((a : Int) + (r : Int)).toNat = a + r := by omega
      go_wp2
      go_region_law (first | (refine step_clear rfl (.tmp 32) rfl B.bw a r (64 * n - a) (by simp [Act.eval, Act.put]) hpos (fun j hj => by rw [(unhide HA2).cw (a + j) (by omega)]; rfl) (fun j hj => (unhide HA2).fw (a + j) (by omega)) ?_) | (go_simp; go_at_call 44; refine (unhide HR _ (by first | exact (Fr.refl _ _).drew | exact Fr.refl _ _)).mono ?_; rintro e w2 ⟨rfl, hq⟩; have hA2 := ((unhide HA).quiet ((Fr.refl _ _).drew)).quiet hq; have c02 := hA2.c0; have HA2 := hide hA2; clear hA2))
      all_goals (try go_wp2)
      all_goals (go_ret2; exact ⟨(unhide HF).trans (Fr.setCells (.inr (.inl rfl)) _ _ ((Fr.drew (Fr.refl _ _)).trans hq.toMem)), .inl ⟨a, A', by omega, by omega, unhide HG, rfl, by rw [show ((x : Int)).toNat = x from rfl, unhide HRR]; exact (unhide HA2).clear h64⟩⟩)
    · have H1 : Hid (AllocP B n A wd x w (.returned (.tuple #[.int .i64 0, .bool false])) w1) := hide ⟨hF, .inr ⟨.inr (.inr (by simpa using hn)), rfl, hA⟩⟩
      clear hn hA hF
      go_wp2_with fail
      go_ret2
      exact unhide H1
  · have H1 : Hid (AllocP B n A wd m w (.returned (.tuple #[.int .i64 0, .bool false])) w) := hide ⟨Fr.refl _ _, .inr ⟨by omega, rfl, h⟩⟩
    clear h hI hV h0 h00
    unfold HB.ptr at *
    rcases (show m < 1 ∨ 16448 < m by omega) with h1 | h1
    · go_enter Tryd.func27, Tryd.ntmps27
      go_wp2
      all_goals (go_ret2; exact unhide H1)
    · go_enter Tryd.func27, Tryd.ntmps27
      go_wp2
      all_goals (go_ret2; exact unhide H1)
end Go.Proofs.YtjblmincldaklaaDoor
namespace Go.Proofs.YtjblmincldaklaaDoor
open Go.RowKit Go.Proofs.YtjblmincldaklaaDoor.Hp
theorem cong_cut {n : Nat} {A : Nat → Kd} {wd : Nat → Int} {w : World} {B : HB} {s c u v : Nat} (e : A s = .cls c u) (hn : v ≠ fullC c)
    (k : At w B n { hrOf A wd with us := upd (hrOf A wd).us s v, op := upd (hrOf A wd).op c (upd ((hrOf A wd).op c) s true) }) : At w B n (hrOf (upd A s (.cls c v)) wd) := by
  refine k.congr (fun t _ => ?_) (fun t _ => ?_) (fun t => ?_) (fun d hd t => ?_) (fun _ _ => rfl)
  · show rmK (A t) = rmK (upd A s (.cls c v) t)
    by_cases et : t = s
    · subst et; rw [upd_same, e]; rfl
    · rw [upd_ne _ _ et]
  · show upd (fun s => usK (A s)) s v t = usK (upd A s (.cls c v) t)
    by_cases et : t = s
    · subst et; rw [upd_same, upd_same]; rfl
    · rw [upd_ne _ _ et, upd_ne _ _ et]
  · show frK (A t) = frK (upd A s (.cls c v) t)
    by_cases et : t = s
    · subst et; rw [upd_same, e]; rfl
    · rw [upd_ne _ _ et]
  · show upd (fun c s => opK c (A s)) c (upd (fun s => opK c (A s)) s true) d t = opK d (upd A s (.cls c v) t)
    by_cases ed : d = c
    · subst ed
      rw [upd_same]
      by_cases et : t = s
      · subst et
        rw [upd_same, upd_same]; simp [opK, hn]
      · rw [upd_ne _ _ et, upd_ne _ _ et]
    · rw [upd_ne _ _ ed]
      by_cases et : t = s
      · subst et; rw [upd_same, e]; simp [opK, Ne.symm ed]
      · rw [upd_ne _ _ et]
theorem cong_gone {n : Nat} {A : Nat → Kd} {wd : Nat → Int} {w : World} {B : HB} {s c u v : Nat} (hc : c < 6) (e : A s = .cls c u)
    (k : At w B n (relS { hrOf A wd with us := upd (hrOf A wd).us s v } s)) : At w B n (hrOf (upd A s .free) wd) := by
  have er : (hrOf A wd).rm s = 2 ^ (c + 1) := by show rmK (A s) = _; rw [e]; rfl
  unfold relS at k
  simp only [er, clOf_room c hc] at k
  refine k.congr (fun t _ => ?_) (fun t _ => ?_) (fun t => ?_) (fun d hd t => ?_) (fun _ _ => rfl)
  · show upd (fun s => rmK (A s)) s 0 t = rmK (upd A s .free t)
    by_cases et : t = s
    · subst et; rw [upd_same, upd_same]; rfl
    · rw [upd_ne _ _ et, upd_ne _ _ et]
  · show upd (upd (fun s => usK (A s)) s v) s 0 t = usK (upd A s .free t)
    by_cases et : t = s
    · subst et; rw [upd_same, upd_same]; rfl
    · rw [upd_ne _ _ et, upd_ne _ _ et, upd_ne _ _ et]
  · show cutF (fun s => frK (A s)) s (s + 1) true t = frK (upd A s .free t)
    rw [cutF_one]
    by_cases et : t = s
    · subst et; rw [upd_same, upd_same]; rfl
    · rw [upd_ne _ _ et, upd_ne _ _ et]
  · show upd (fun c s => opK c (A s)) c (upd (fun s => opK c (A s)) s false) d t = opK d (upd A s .free t)
    by_cases ed : d = c
    · subst ed
      rw [upd_same]
      by_cases et : t = s
      · subst et
        rw [upd_same, upd_same]; rfl
      · rw [upd_ne _ _ et, upd_ne _ _ et]
    · rw [upd_ne _ _ ed]
      by_cases et : t = s
      · subst et; rw [upd_same, e]; simp [opK, Ne.symm ed]
      · rw [upd_ne _ _ et]
theorem cong_big {n : Nat} {A : Nat → Kd} {wd : Nat → Int} {w : World} {B : HB} {s k v : Nat} (hI : Inv n A) (e : A s = .head k)
    (h : At w B n (relB { hrOf A wd with us := upd (hrOf A wd).us s v } s)) : At w B n (hrOf (fun t => if s ≤ t ∧ t < s + k then .free else A t) wd) := by
  have er : (hrOf A wd).rm s = 64 * k := by show rmK (A s) = _; rw [e]; rfl
  obtain ⟨k1, k2, k3, k4⟩ := hI.head _ _ e
  unfold relB at h
  simp only [er, Nat.mul_div_cancel_left k (show 0 < 64 by decide)] at h
  have hA : ∀ t, s ≤ t → t < s + k → t ≠ s → A t = .tail := fun t a b c => k4 t (by omega) b
  refine h.congr (fun t _ => ?_) (fun t _ => ?_) (fun t => ?_) (fun d hd t => ?_) (fun _ _ => rfl)
  · show upd (fun s => rmK (A s)) s 0 t = rmK (if s ≤ t ∧ t < s + k then .free else A t)
    by_cases et : t = s
    · subst et; rw [upd_same, if_pos (by omega)]; rfl
    · rw [upd_ne _ _ et]
      split
      · rename_i h1; rw [hA t h1.1 h1.2 et]; rfl
      · rfl
  · show upd (upd (fun s => usK (A s)) s v) s 0 t = usK (if s ≤ t ∧ t < s + k then .free else A t)
    by_cases et : t = s
    · subst et; rw [upd_same, if_pos (by omega)]; rfl
    · rw [upd_ne _ _ et, upd_ne _ _ et]
      split
      · rename_i h1; rw [hA t h1.1 h1.2 et]; rfl
      · rfl
  · show cutF (fun s => frK (A s)) s (s + k) true t = frK (if s ≤ t ∧ t < s + k then .free else A t)
    unfold cutF
    split
    · rfl
    · rfl
  · show opK d (A t) = opK d (if s ≤ t ∧ t < s + k then .free else A t)
    by_cases et : t = s
    · rw [if_pos (by omega), et, e]; rfl
    · split
      · rename_i h1; rw [hA t h1.1 h1.2 et]; rfl
      · rfl
def freeI (A : Nat → Kd) (a : Int) : Nat → Kd := if roomI A a = 0 then A else freeA A a.toNat
def FreeP (B : HB) (n : Nat) (A : Nat → Kd) (wd : Nat → Int) (a : Int) (w : World) (e : Ending) (w' : World) : Prop :=
  e = .returned (.bool (decide (roomI A a ≠ 0))) ∧ Fr B.mem w w' ∧ At w' B n (hrOf (freeI A a) wd)
set_option maxHeartbeats 2000000 in
theorem Free_any (B : HB) (n : Nat) (A : Nat → Kd) (wd : Nat → Int) (a : Int) (w : World) (h : At w B n (hrOf A wd)) (hI : Inv n A) :
    Calls Tryd.prog 47 #[B.ptr, .int .i64 a] w fun e w' => FreeP B n A wd a w e w' := by
  have HC := hide (Room_any B n (hrOf A wd) a w h (fine_of wd hI))
  rw [roomR_I wd hI] at HC
  by_cases hz : roomI A a = 0
  · rw [hz] at HC
    have H1 : Hid (∀ w', Fr (fun _ => False) w w' → FreeP B n A wd a w (.returned (.bool false)) w') := hide fun w' q => ⟨ret_bool (by simp [hz]), q.toMem, by rw [freeI, if_pos hz]; exact h.quiet q⟩
    clear h hI hz
    unfold HB.ptr at *
    go_enter Tryd.func47, Tryd.ntmps47
    go_wp2_with (first | (go_at_call 44; refine (unhide HC).mono ?_; rintro e w' ⟨rfl, hq⟩))
    all_goals (go_ret; exact unhide H1 _ hq)
  · have h0 : 0 ≤ a := by
      apply Int.not_lt.1
      intro hh
      apply hz
      unfold roomI
      rw [if_neg (by omega)]
    obtain ⟨x, rfl⟩ : ∃ x : Nat, a = (x : Int) := ⟨a.toNat, by omega⟩
    have hrx : roomI A (x : Int) = roomN A x := by unfold roomI; rw [if_pos h0]; rfl
    have HP : Hid (∀ w', Fr B.mem w w' → At w' B n (hrOf (freeA A x) wd) → FreeP B n A wd x w (.returned (.bool true)) w') := hide fun w' q k => ⟨ret_bool (by simp [hz]), q, by rw [freeI, if_neg hz]; exact k⟩
    rw [hrx] at HC hz
    have hin := room_in hI hz
    have hn := h.hi
    have hs : x / 64 < n := by omega
    have hx64 : x < 64 * n := by omega
    have HI := hide hI
    cases e : A (x / 64) with
    | free => unfold roomN at hz; rw [e] at hz; exact absurd rfl hz
    | tail => unfold roomN at hz; rw [e] at hz; exact absurd rfl hz
    | cls c u =>
      have hz2 := hz
      unfold roomN at hz2
      rw [e] at hz2
      obtain ⟨hc, hu0, hu⟩ := hI.cls _ _ _ e
      obtain ⟨o1, o2, o3, o4⟩ := cls_off hc (by omega) hz2
      have hrm : roomN A x = 2 ^ (c + 1) := by unfold roomN; rw [e]; exact o3
      rw [hrm] at HC
      have hpl : x % 64 / 2 ^ (c + 1) < 32 := by
        rcases c6 hc with rfl | rfl | rfl | rfl | rfl | rfl <;> simp <;> omega
      have hu32 := fullC_lt hc
      have hand : bits .andNot .u32 (u : Int) (2 ^ (x % 64 / 2 ^ (c + 1)) % 4294967296) = ((cutU c u (x % 64) : Nat) : Int) := by
        have hp : 2 ^ (x % 64 / 2 ^ (c + 1)) < 2 ^ 32 := Nat.pow_lt_pow_right (by decide) hpl
        rw [show (2 : Int) ^ (x % 64 / 2 ^ (c + 1)) = ((2 ^ (x % 64 / 2 ^ (c + 1)) : Nat) : Int) by simp]
        unfold cutU
        generalize 2 ^ (x % 64 / 2 ^ (c + 1)) = z at *
        rw [show (z : Int) % 4294967296 = (z : Int) by omega, u32_andNot_nat _ _ (by omega) hp]
      have hr64 := room_le hc
      have hr1 : 1 ≤ 2 ^ (c + 1) := Nat.pow_pos (by decide)
      have td : ((x : Int) % 64).tdiv ((2 ^ (c + 1) : Nat) : Int) = ((x % 64 / 2 ^ (c + 1) : Nat) : Int) := by
        rw [Int.tdiv_eq_ediv_of_nonneg (by omega)]; simp
      have HF : Hid (freeA A x = if cutU c u (x % 64) = 0 then upd A (x / 64) .free else upd A (x / 64) (.cls c (cutU c u (x % 64)))) := hide (freeA_cls e)
      have hcu := cutU_ne (o := x % 64) hc (by omega) hu
      have hcl : cutU c u (x % 64) < 4294967296 := Nat.lt_of_le_of_lt (Nat.le_trans cutU_le hu) hu32
      have er : (hrOf A wd).rm (x / 64) = 2 ^ (c + 1) := by show rmK (A (x / 64)) = _; rw [e]; rfl
      have eu : (hrOf A wd).us (x / 64) = u := by show usK (A (x / 64)) = _; rw [e]; rfl
      have HK := hide (fun w' => classOf_any (2 ^ (c + 1)) w' hr64)
      rw [clOf_room c hc] at HK
      have HE := hide e
      have HCU := hide hcu
      have HER := hide er
      have HEU := hide eu
      have HA := hide h
      clear h hI hz hz2 o1 o2 o3 o4 e hcu hu0 hu er eu hrm
      generalize hplq : x % 64 / 2 ^ (c + 1) = pl at *
      generalize hrq : 2 ^ (c + 1) = r at *
      generalize cutU c u (x % 64) = v at *
      have HRQ := hide hrq
      clear hplq hrq
      have wq : IntKind.i64.wrap (pl : Int) = (pl : Int) := by rw [Go.IntKind.wrap_i64]; omega
      have hr0 : (r : Int) ≠ 0 := by omega
      have hr0' : ((r : Int) == 0) = false := by simpa using hr0
      by_cases hv0 : v = 0
      · have HV0 := hide hv0
        have hvb : ((v : Int) == 0) = true := by rw [hv0]; rfl
        clear hv0
        unfold HB.ptr at *
        go_enter Tryd.func47, Tryd.ntmps47
        go_wp2_with fail
        refine (unhide HC).mono ?_; rintro e w1 ⟨rfl, hq⟩
        have hA1 := (unhide HA).quiet hq
        have c1 := hA1.c1
        have cu := hA1.cu (x / 64) hs
        have cr := hA1.cr (x / 64) hs
        have fz := hA1.fz (x / 64 * 2 + 1) (by omega)
        rw [unhide HEU] at cu
        rw [unhide HER] at cr
        have hps := hA1.ok.ps
        have HA2 := hide (hA1.storeU (x / 64) v hs)
        have HQ := hide hq
        clear hA1 HC hq
        go_wp2
        go_region
        all_goals (try rw [hand])
        have hA3 := (unhide HA2).quiet ((Fr.refl _ _).drew)
        have HF3 : Hid (Fr B.mem w ((w1.setCell ⟨B.bs, x / 64 * 2 + 1, none⟩ (.int .u32 v)).drew)) := hide (((unhide HQ).toMem.setCell (p := ⟨B.bs, x / 64 * 2 + 1, none⟩) (.inr (.inr (.inl rfl))) _).drew)
        generalize (w1.setCell ⟨B.bs, x / 64 * 2 + 1, none⟩ (.int .u32 v)).drew = w3 at *
        have c13 := hA3.c1
        have cu3 := hA3.cu (x / 64) hs
        simp only [upd_same] at cu3
        have HA3 := hide hA3
        have HRl := hide (release_small B n _ (x / 64) w3 hA3 hs (by show rmK (A (x / 64)) ≤ 64; rw [unhide HE]; exact room_le hc))
        rw [show ((x / 64 : Nat) : Int) = (x : Int) / 64 by omega] at HRl
        clear hA3 c1 cu cr fz HA HA2 HQ
        unfold HB.ptr at *
        go_wp2_with fail
        refine (unhide HRl).mono ?_; rintro e w4 ⟨rfl, hF4, hA4⟩
        have H4 := hide hA4
        have HF4 := hide hF4
        clear hA4 hF4
        go_wp2_with fail
        go_ret
        exact unhide HP _ ((unhide HF3).trans (unhide HF4)) (by rw [unhide HF, if_pos (unhide HV0)]; exact cong_gone hc (unhide HE) (unhide H4))
      · have hvb : ((v : Int) == 0) = false := by simp; omega
        unfold HB.ptr at *
        go_enter Tryd.func47, Tryd.ntmps47
        go_wp2_with fail
        refine (unhide HC).mono ?_; rintro e w1 ⟨rfl, hq⟩
        have hA1 := (unhide HA).quiet hq
        have c1 := hA1.c1
        have cu := hA1.cu (x / 64) hs
        have cr := hA1.cr (x / 64) hs
        have fz := hA1.fz (x / 64 * 2 + 1) (by omega)
        rw [unhide HEU] at cu
        rw [unhide HER] at cr
        have hps := hA1.ok.ps
        have HA2 := hide (hA1.storeU (x / 64) v hs)
        have HQ := hide hq
        clear hA1 HC hq
        go_wp2
        go_region
        all_goals (try rw [hand])
        have hA3 := (unhide HA2).quiet ((Fr.refl _ _).drew)
        have HF3 : Hid (Fr B.mem w ((w1.setCell ⟨B.bs, x / 64 * 2 + 1, none⟩ (.int .u32 v)).drew)) := hide (((unhide HQ).toMem.setCell (p := ⟨B.bs, x / 64 * 2 + 1, none⟩) (.inr (.inr (.inl rfl))) _).drew)
        generalize (w1.setCell ⟨B.bs, x / 64 * 2 + 1, none⟩ (.int .u32 v)).drew = w3 at *
        have c13 := hA3.c1
        have cu3 := hA3.cu (x / 64) hs
        simp only [upd_same] at cu3
        have HA3 := hide hA3
        have cc3 := hA3.c3 c hc
        have HRl := hide (fun w' (q : Fr (fun _ => False) w3 w') => add_any (B.bo c) (setM n) (x / 64) _ w' (setM_le hn) (setM_lt hs) ((hA3.quiet q).op c hc))
        rw [show ((x / 64 : Nat) : Int) = (x : Int) / 64 by omega] at HRl
        clear hA3 c1 cu cr fz HA HA2 HQ
        go_wp2
        go_region_with (first | (go_at_call 56; refine (unhide HK _).mono ?_; rintro e w'' ⟨rfl, rfl⟩) | (go_at_call 37; refine (unhide HRl _ (by first | exact (Fr.refl _ _).drew | exact Fr.refl _ _)).mono ?_; rintro e w'' ⟨rfl, hs2, hw2⟩))
        all_goals (try go_wp2)
        all_goals (go_ret; exact unhide HP _ ((unhide HF3).trans ((Fr.drew (Fr.refl _ _)).trans (hw2.oMem hc))) (by rw [unhide HF, if_neg hv0]; exact cong_cut (unhide HE) (unhide HCU) (((unhide HA3).quiet (Fr.drew (Fr.refl _ _))).setO hc hw2 hs2)))
    | head k =>
      obtain ⟨k1, k2, k3, k4⟩ := hI.head _ _ e
      have hz2 := hz
      unfold roomN at hz2
      rw [e] at hz2
      have hx0 : x % 64 = 0 := by
        simp only [roomK] at hz2
        by_cases h1 : x % 64 = 0
        · exact h1
        · rw [if_neg h1] at hz2; exact absurd rfl hz2
      have hrm : roomN A x = 64 * k := by unfold roomN; rw [e]; simp only [roomK]; rw [if_pos hx0]
      rw [hrm] at HC
      obtain ⟨u, hu1⟩ : ∃ u : Nat, u = 1 := ⟨1, rfl⟩
      obtain ⟨pl, hp0⟩ : ∃ pl : Nat, pl = 0 := ⟨0, rfl⟩
      obtain ⟨v, hv0⟩ : ∃ v : Nat, v = 0 := ⟨0, rfl⟩
      obtain ⟨r, hrk⟩ : ∃ r : Nat, r = 64 * k := ⟨_, rfl⟩
      rw [← hrk] at HC
      have hand : bits .andNot .u32 (u : Int) (2 ^ pl % 4294967296) = (v : Int) := by rw [hu1, hp0, hv0]; rfl
      have td : ((x : Int) % 64).tdiv (r : Int) = (pl : Int) := by rw [show (x : Int) % 64 = 0 by omega, hp0]; simp
      have HF : Hid (freeA A x = fun t => if x / 64 ≤ t ∧ t < x / 64 + k then .free else A t) := hide (freeA_head e)
      have er : (hrOf A wd).rm (x / 64) = r := by show rmK (A (x / 64)) = _; rw [e, hrk]; rfl
      have eu : (hrOf A wd).us (x / 64) = u := by show usK (A (x / 64)) = _; rw [e, hu1]; rfl
      have hpl : pl < 32 := by omega
      have hul : u < 4294967296 := by omega
      have hr1 : 128 ≤ r := by omega
      have hr2 : r ≤ 16448 := by omega
      have HE := hide e
      have HER := hide er
      have HEU := hide eu
      have HA := hide h
      have HRK := hide hrk
      have hfk : x / 64 + r / 64 ≤ n := by omega
      have hvb : ((v : Int) == 0) = true := by rw [hv0]; rfl
      clear hv0 h hI hz hz2 e er eu hrm hu1 hp0 hrk k4 hx0
      have wq : IntKind.i64.wrap (pl : Int) = (pl : Int) := by rw [Go.IntKind.wrap_i64]; omega
      have hr0 : (r : Int) ≠ 0 := by omega
      have hr0' : ((r : Int) == 0) = false := by simpa using hr0
      unfold HB.ptr at *
      go_enter Tryd.func47, Tryd.ntmps47
      go_wp2_with fail
      refine (unhide HC).mono ?_; rintro e w1 ⟨rfl, hq⟩
      have hA1 := (unhide HA).quiet hq
      have c1 := hA1.c1
      have cu := hA1.cu (x / 64) hs
      have cr := hA1.cr (x / 64) hs
      have fz := hA1.fz (x / 64 * 2 + 1) (by omega)
      rw [unhide HEU] at cu
      rw [unhide HER] at cr
      have hps := hA1.ok.ps
      have HA2 := hide (hA1.storeU (x / 64) v hs)
      have HQ := hide hq
      clear hA1 HC hq
      go_wp2
      go_region
      all_goals (try rw [hand])
      have hA3 := (unhide HA2).quiet ((Fr.refl _ _).drew)
      have HF3 : Hid (Fr B.mem w ((w1.setCell ⟨B.bs, x / 64 * 2 + 1, none⟩ (.int .u32 v)).drew)) := hide (((unhide HQ).toMem.setCell (p := ⟨B.bs, x / 64 * 2 + 1, none⟩) (.inr (.inr (.inl rfl))) _).drew)
      generalize (w1.setCell ⟨B.bs, x / 64 * 2 + 1, none⟩ (.int .u32 v)).drew = w3 at *
      have c13 := hA3.c1
      have cu3 := hA3.cu (x / 64) hs
      simp only [upd_same] at cu3
      have HA3 := hide hA3
      have HRl := hide (release_big B n _ (x / 64) w3 hA3 hs (by show 64 < (hrOf A wd).rm (x / 64); rw [unhide HER]; omega) (by show x / 64 + (hrOf A wd).rm (x / 64) / 64 ≤ n; rw [unhide HER]; exact hfk))
      rw [show ((x / 64 : Nat) : Int) = (x : Int) / 64 by omega] at HRl
      clear hA3 c1 cu cr fz HA HA2 HQ
      unfold HB.ptr at *
      go_wp2_with fail
      refine (unhide HRl).mono ?_; rintro e w4 ⟨rfl, hF4, hA4⟩
      have H4 := hide hA4
      have HF4 := hide hF4
      clear hA4 hF4
      go_wp2_with fail
      go_ret
      exact unhide HP _ ((unhide HF3).trans (unhide HF4)) (by rw [unhide HF]; exact cong_big (unhide HI) (unhide HE) (unhide H4))
end Go.Proofs.YtjblmincldaklaaDoor
