/- place and Alloc. -/
import Derived.Test.YtogjblikljggbaaDoorGv5
import Derived.Test.YtogjblikljggbaaDoorAb2
import Derived.Lib.SliceRun
import Derived.Laws.IdiomCopy
namespace Go.Proofs.YtogjblikljggbaaDoor
open Go.RowKit Go.Proofs.YtogjblikljggbaaDoor.Hp
theorem least_ex (P : Nat → Bool) : ∀ n, (∃ s, s < n ∧ P s = true ∧ ∀ t, t < s → P t = false) ∨ ∀ s, s < n → P s = false
  | 0 => .inr fun s hs => by omega
  | n + 1 => by
    rcases least_ex P n with ⟨s, hs, h1, h2⟩ | h
    · exact .inl ⟨s, by omega, h1, h2⟩
    · cases hp : P n with
      | true => exact .inl ⟨n, by omega, hp, h⟩
      | false =>
        refine .inr fun s hs => ?_
        by_cases e : s = n
        · rw [e]; exact hp
        · exact h s (by omega)
theorem frK_true {k : Kd} : frK k = true ↔ k = .free := by cases k <;> simp [frK]
theorem frK_false {k : Kd} : frK k = false ↔ k ≠ .free := by cases k <;> simp [frK]
theorem opK_true {c : Nat} {k : Kd} (h : opK c k = true) : ∃ u, k = .cls c u ∧ u ≠ fullC c := by
  cases k with
  | cls d u =>
    simp only [opK, Bool.and_eq_true, decide_eq_true_eq] at h
    obtain ⟨rfl, h2⟩ := h
    exact ⟨u, rfl, h2⟩
  | _ => simp [opK] at h
theorem opK_past {n : Nat} {A : Nat → Kd} (h : Inv n A) (c : Nat) {s : Nat} (hs : n ≤ s) : opK c (A s) = false := by rw [h.past s hs]; rfl
theorem cong_op {n : Nat} {A : Nat → Kd} {wd : Nat → Int} {w : World} {B : HB} (h : Inv n A) {s c u v : Nat} (e : A s = .cls c u) (hv : v ≤ fullC c) (hn : u ≠ fullC c)
    (k : At w B n { hrOf A wd with us := upd (hrOf A wd).us s v, op := upd (hrOf A wd).op c (opAft ((hrOf A wd).op c) s v (2 ^ (c + 1))) }) : At w B n (hrOf (upd A s (.cls c v)) wd) := by
  have hc := (h.cls _ _ _ e).1
  refine k.congr (fun t _ => ?_) (fun t _ => ?_) (fun t => ?_) (fun d hd t => ?_) (fun _ _ => rfl)
  · show rmK (A t) = rmK (upd A s (.cls c v) t)
    by_cases et : t = s
    · subst et; rw [upd_same, e]; rfl
    · rw [upd_ne _ _ et]
  · show upd (fun s => usK (A s)) s v t = usK (upd A s (.cls c v) t)
    by_cases et : t = s
    · subst et; rw [upd_same, upd_same]; rfl
    · rw [upd_ne _ _ et, upd_ne _ _ et]
  · show frK (A t) = frK (upd A s (.cls c v) t)
    by_cases et : t = s
    · subst et; rw [upd_same, e]; rfl
    · rw [upd_ne _ _ et]
  · show upd (fun c s => opK c (A s)) c (opAft (fun s => opK c (A s)) s v (2 ^ (c + 1))) d t = opK d (upd A s (.cls c v) t)
    by_cases ed : d = c
    · subst ed
      rw [upd_same]
      unfold opAft
      simp only [full_iff hc hv]
      by_cases et : t = s
      · subst et
        rw [upd_same]
        by_cases hf : v = fullC d
        · rw [if_pos hf, upd_same]; simp [opK, hf]
        · rw [if_neg hf, e]; simp [opK, hf, hn]
      · rw [upd_ne _ _ et]
        split
        · rw [upd_ne _ _ et]
        · rfl
    · rw [upd_ne _ _ ed]
      by_cases et : t = s
      · subst et; rw [upd_same, e]; simp [opK, Ne.symm ed]
      · rw [upd_ne _ _ et]
theorem cong_free {n : Nat} {A : Nat → Kd} {wd : Nat → Int} {w : World} {B : HB} {s c v : Nat} (hc : c < 6) (e : A s = .free) (hv : v ≤ fullC c)
    (k : At w B n { hrOf A wd with rm := upd (hrOf A wd).rm s (2 ^ (c + 1)), fr := upd (hrOf A wd).fr s false, us := upd (hrOf A wd).us s v, op := upd (hrOf A wd).op c (opAft (upd ((hrOf A wd).op c) s true) s v (2 ^ (c + 1))) }) : At w B n (hrOf (upd A s (.cls c v)) wd) := by
  refine k.congr (fun t _ => ?_) (fun t _ => ?_) (fun t => ?_) (fun d hd t => ?_) (fun _ _ => rfl)
  · show upd (fun s => rmK (A s)) s (2 ^ (c + 1)) t = rmK (upd A s (.cls c v) t)
    by_cases et : t = s
    · subst et; rw [upd_same, upd_same]; rfl
    · rw [upd_ne _ _ et, upd_ne _ _ et]
  · show upd (fun s => usK (A s)) s v t = usK (upd A s (.cls c v) t)
    by_cases et : t = s
    · subst et; rw [upd_same, upd_same]; rfl
    · rw [upd_ne _ _ et, upd_ne _ _ et]
  · show upd (fun s => frK (A s)) s false t = frK (upd A s (.cls c v) t)
    by_cases et : t = s
    · subst et; rw [upd_same, upd_same]; rfl
    · rw [upd_ne _ _ et, upd_ne _ _ et]
  · show upd (fun c s => opK c (A s)) c (opAft (upd (fun s => opK c (A s)) s true) s v (2 ^ (c + 1))) d t = opK d (upd A s (.cls c v) t)
    by_cases ed : d = c
    · subst ed
      rw [upd_same]
      unfold opAft
      simp only [full_iff hc hv]
      by_cases et : t = s
      · subst et
        rw [upd_same]
        by_cases hf : v = fullC d
        · rw [if_pos hf, upd_same]; simp [opK, hf]
        · rw [if_neg hf, upd_same]; simp [opK, hf]
      · rw [upd_ne _ _ et]
        split
        · rw [upd_ne _ _ et, upd_ne _ _ et]
        · rw [upd_ne _ _ et]
    · rw [upd_ne _ _ ed]
      by_cases et : t = s
      · subst et; rw [upd_same, e]; simp [opK, Ne.symm ed]
      · rw [upd_ne _ _ et]
theorem cong_row {n : Nat} {A : Nat → Kd} {wd : Nat → Int} {w : World} {B : HB} {f k : Nat} (e : ∀ t, f ≤ t → t < f + k → A t = .free) (hk : 0 < k)
    (h : At w B n { hrOf A wd with rm := upd (hrOf A wd).rm f (k * 64), fr := cutF (hrOf A wd).fr f (f + k) false, us := upd (hrOf A wd).us f 1 }) : At w B n (hrOf (fun s => if s = f then .head k else if f < s ∧ s < f + k then .tail else A s) wd) := by
  refine h.congr (fun t _ => ?_) (fun t _ => ?_) (fun t => ?_) (fun d hd t => ?_) (fun _ _ => rfl)
  · show upd (fun s => rmK (A s)) f (k * 64) t = rmK (if t = f then .head k else if f < t ∧ t < f + k then .tail else A t)
    by_cases et : t = f
    · subst et; rw [upd_same, if_pos rfl]; exact Nat.mul_comm _ _
    · rw [upd_ne _ _ et, if_neg et]
      split
      · rw [e t (by omega) (by omega)]; rfl
      · rfl
  · show upd (fun s => usK (A s)) f 1 t = usK (if t = f then .head k else if f < t ∧ t < f + k then .tail else A t)
    by_cases et : t = f
    · subst et; rw [upd_same, if_pos rfl]; rfl
    · rw [upd_ne _ _ et, if_neg et]
      split
      · rw [e t (by omega) (by omega)]; rfl
      · rfl
  · show cutF (fun s => frK (A s)) f (f + k) false t = frK (if t = f then .head k else if f < t ∧ t < f + k then .tail else A t)
    unfold cutF
    by_cases et : t = f
    · subst et; rw [if_pos (by omega), if_pos rfl]; rfl
    · rw [if_neg et]
      by_cases e1 : f < t ∧ t < f + k
      · rw [if_pos (by omega), if_pos e1]; rfl
      · rw [if_neg (by omega), if_neg e1]
  · show opK d (A t) = opK d (if t = f then .head k else if f < t ∧ t < f + k then .tail else A t)
    by_cases et : t = f
    · rw [if_pos et, et, e f (Nat.le_refl _) (by omega)]; rfl
    · rw [if_neg et]
      split
      · rw [e t (by omega) (by omega)]; rfl
      · rfl
theorem low0 : lowP 0 = 0 := by decide
theorem placeC_any (B : HB) (n : Nat) (A : Nat → Kd) (wd : Nat → Int) (m : Nat) (w : World) (h : At w B n (hrOf A wd)) (hI : Inv n A) (hV : Vars w) (hm : m ≤ 64) (h0 : ¬ B.mem 0) (h00 : ¬ B.mem 1) :
    Calls Tryd.prog 49 #[B.ptr, .int .i64 (clOf m)] w fun e w' => Fr B.mem w w' ∧ ((∃ a A', Goes n A m a A' ∧ e = .returned (.tuple #[.int .i64 ((a : Nat) : Int), .bool true]) ∧ At w' B n (hrOf A' wd)) ∨ (NoPlace n A m ∧ e = .returned (.tuple #[.int .i64 0, .bool false]) ∧ At w' B n (hrOf A wd))) := by
  have hc := clOf_lt m
  rcases least_ex (fun s => opK (clOf m) (A s)) n with ⟨s, hs, h1, h2⟩ | h1
  · obtain ⟨u, e, hn⟩ := opK_true h1
    obtain ⟨_, _, hu⟩ := hI.cls _ _ _ e
    obtain ⟨l1, l2⟩ := lowP_lt hc hu hn
    have er : (hrOf A wd).rm s = 2 ^ (clOf m + 1) := by show rmK (A s) = _; rw [e]; rfl
    have eu : (hrOf A wd).us s = u := by show usK (A s) = _; rw [e]; rfl
    refine (placeC_open B n (hrOf A wd) (clOf m) s u _ (lowP u) _ w h hV hc hs h1 h2 er (Nat.pow_pos (by decide)) (room_le hc) eu l1 rfl rfl).mono ?_
    rintro e1 w' ⟨rfl, hF, hA⟩
    exact ⟨hF, .inl ⟨_, _, .op s u hm hs e hn h2, rfl, cong_op hI e (or_le hu l2).1 hn hA⟩⟩
  · have h1' : ∀ t, opK (clOf m) (A t) = false := fun t => by
      rcases Nat.lt_or_ge t n with ht | ht
      · exact h1 t ht
      · exact opK_past hI _ ht
    rcases least_ex (fun s => frK (A s)) n with ⟨s, hs, h3, h2⟩ | h3
    · have e := frK_true.1 h3
      have eu : (hrOf A wd).us s = 0 := by show usK (A s) = _; rw [e]; rfl
      refine (placeC_free B n (hrOf A wd) (clOf m) s 0 _ (lowP 0) _ w h hV hc hs h1' h3 h2 rfl (Nat.pow_pos (by decide)) (room_le hc) eu (by omega) rfl rfl h0 h00).mono ?_
      rintro e1 w' ⟨rfl, hF, hA⟩
      rw [low0] at hA ⊢
      refine ⟨hF, .inl ⟨s * 64, _, .free s hm hs e (fun t ht => frK_false.1 (h2 t ht)) h1', ?_, cong_free hc e (one_le_full hc) hA⟩⟩
      rw [Nat.zero_mul, Nat.add_zero]
    · refine (placeC_none B n (hrOf A wd) (clOf m) w h hV hc h1' (fun t => ?_)).mono ?_
      · rcases Nat.lt_or_ge t n with ht | ht
        · exact h3 t ht
        · show frK (A t) = false; rw [hI.past t ht]; rfl
      · rintro e1 w' ⟨rfl, rfl⟩
        refine ⟨Fr.refl _ _, .inr ⟨.inl ⟨hm, h1', fun t => ?_⟩, rfl, h⟩⟩
        rcases Nat.lt_or_ge t n with ht | ht
        · exact frK_false.1 (h3 t ht)
        · rw [hI.past t ht]; simp
def PlaceP (B : HB) (n : Nat) (A : Nat → Kd) (wd : Nat → Int) (m : Nat) (w : World) (e : Ending) (w' : World) : Prop :=
  Fr B.mem w w' ∧ ((∃ a A', Goes n A m a A' ∧ e = .returned (.tuple #[.int .i64 ((a : Nat) : Int), .bool true]) ∧ At w' B n (hrOf A' wd)) ∨ (NoPlace n A m ∧ e = .returned (.tuple #[.int .i64 0, .bool false]) ∧ At w' B n (hrOf A wd)))
theorem placeR_abs (B : HB) (n : Nat) (A : Nat → Kd) (wd : Nat → Int) (m : Nat) (w : World) (h : At w B n (hrOf A wd)) (hm : 64 < m) (hm2 : m ≤ 16448) :
    Calls Tryd.prog 51 #[B.ptr, .int .i64 (((m + 63) / 64 : Nat) : Int)] w fun e w' => PlaceP B n A wd m w e w' := by
  refine (placeR_any B n (hrOf A wd) ((m + 63) / 64) w h (by omega) (by omega)).mono ?_
  rintro e w' ⟨hF, ⟨f, h1, h2, h3, rfl, hA⟩ | ⟨h1, rfl, hA⟩⟩
  · have e1 : ∀ t, f ≤ t → t < f + (m + 63) / 64 → A t = .free := fun t a b => frK_true.1 (h2 t a b)
    refine ⟨hF, .inl ⟨_, _, .row f _ hm rfl h1 e1 (fun g hg => ?_), rfl, cong_row e1 (by omega) hA⟩⟩
    obtain ⟨t, a, b, c⟩ := h3 g hg
    exact ⟨t, a, b, frK_false.1 c⟩
  · refine ⟨hF, .inr ⟨.inr ⟨hm, fun g hg => ?_⟩, rfl, hA⟩⟩
    obtain ⟨t, a, b, c⟩ := h1 g hg
    exact ⟨t, a, b, frK_false.1 c⟩
set_option maxHeartbeats 1000000 in
theorem place_any (B : HB) (n : Nat) (A : Nat → Kd) (wd : Nat → Int) (m : Nat) (w : World) (h : At w B n (hrOf A wd)) (hI : Inv n A) (hV : Vars w) (hm : m ≤ 16448) (h0 : ¬ B.mem 0) (h00 : ¬ B.mem 1) :
    Calls Tryd.prog 41 #[B.ptr, .int .i64 m] w fun e w' => PlaceP B n A wd m w e w' := by
  by_cases hm4 : m ≤ 64
  · have HC := hide (placeC_any B n A wd m w h hI hV hm4 h0 h00)
    have HK := hide (classOf_any m w hm4)
    have HP : Hid (PlaceP B n A wd m w = fun e w' => PlaceP B n A wd m w e w') := hide rfl
    have hc := clOf_lt m
    clear h hI hV h0 h00
    unfold HB.ptr at *
    go_enter Tryd.func41, Tryd.ntmps41
    go_wp2_with fail
    refine (unhide HK).mono ?_; rintro e w' ⟨rfl, rfl⟩
    go_wp2_with fail
    refine (unhide HC).mono ?_
    rintro e w1 ⟨hF, ⟨a, A', hg, rfl, hA⟩ | ⟨hn, rfl, hA⟩⟩
    · have H1 : Hid (PlaceP B n A wd m w' (.returned (.tuple #[.int .i64 ((a : Nat) : Int), .bool true])) w1) := hide ⟨hF, .inl ⟨a, A', hg, rfl, hA⟩⟩
      clear hg hA hF
      go_wp2_with fail
      go_ret2
      exact unhide H1
    · have H1 : Hid (PlaceP B n A wd m w' (.returned (.tuple #[.int .i64 0, .bool false])) w1) := hide ⟨hF, .inr ⟨hn, rfl, hA⟩⟩
      clear hn hA hF
      go_wp2_with fail
      go_ret2
      exact unhide H1
  · have HC := hide (placeR_abs B n A wd m w h (by omega) hm)
    have hq : ((m : Int) + 64 - 1) / 64 = (((m + 63) / 64 : Nat) : Int) := by omega
    clear h hI hV h0 h00
    unfold HB.ptr at *
    go_enter Tryd.func41, Tryd.ntmps41
    go_wp2_with fail
    refine (unhide HC).mono ?_
    rintro e w1 ⟨hF, ⟨a, A', hg, rfl, hA⟩ | ⟨hn, rfl, hA⟩⟩
    · have H1 : Hid (PlaceP B n A wd m w (.returned (.tuple #[.int .i64 ((a : Nat) : Int), .bool true])) w1) := hide ⟨hF, .inl ⟨a, A', hg, rfl, hA⟩⟩
      clear hg hA hF
      go_wp2_with fail
      go_ret2
      exact unhide H1
    · have H1 : Hid (PlaceP B n A wd m w (.returned (.tuple #[.int .i64 0, .bool false])) w1) := hide ⟨hF, .inr ⟨hn, rfl, hA⟩⟩
      clear hn hA hF
      go_wp2_with fail
      go_ret2
      exact unhide H1
end Go.Proofs.YtogjblikljggbaaDoor
