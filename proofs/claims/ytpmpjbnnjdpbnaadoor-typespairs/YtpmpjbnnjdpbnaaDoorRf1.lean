/- Contracts of the reference's In and named. -/
import Derived.Test.YtpmpjbnnjdpbnaaDoorTyLW
namespace Go.Proofs.YtpmpjbnnjdpbnaaDoor
open Go.RowKit Go.Proofs.YtpmpjbnnjdpbnaaDoor.Lx

/-- The words, each between blanks. -/
def wordsS : List UInt8 := [32] ++ wordList.flatMap (fun x => x ++ [32])
/-- Does a text stand in a list? -/
def inF (t l : List UInt8) : Bool := (List.range (l.length + 1)).any fun i => t.isPrefixOf (l.drop i)
theorem inF_true {t l : List UInt8} {i : Nat} (h : t.isPrefixOf (l.drop i) = true) (hi : i ≤ l.length) : inF t l = true :=
  List.any_eq_true.2 ⟨i, List.mem_range.2 (by omega), h⟩
theorem inF_false {t l : List UInt8} (h : ∀ i, i ≤ l.length → t.isPrefixOf (l.drop i) = false) : inF t l = false := by
  cases hx : inF t l with
  | false => rfl
  | true =>
    obtain ⟨i, hi, he⟩ := List.any_eq_true.1 hx
    rw [h i (by have := List.mem_range.1 hi; omega)] at he
    cases he
def notBl (c : UInt8) : Bool := !(c == 32)
theorem words_a : ((List.range (wordsS.length + 1)).all fun i => match wordsS.drop i with
    | [] => true
    | c :: r => !(c == 32) || r.isEmpty || wordList.contains (r.takeWhile notBl)) = true := by kernel_rfl
theorem words_b : (wordList.all fun x => inF ([32] ++ x ++ [32]) wordsS) = true := by kernel_rfl
theorem in_words (s : List UInt8) (h : ∀ c ∈ s, isNam c = true) : inF ([32] ++ s ++ [32]) wordsS = isWd s := by
  rw [Bool.eq_iff_iff]
  constructor
  · intro hx
    obtain ⟨i, hi, he⟩ := List.any_eq_true.1 hx
    have ha := List.all_eq_true.1 words_a i hi
    obtain ⟨q, hq⟩ := List.isPrefixOf_iff_prefix.1 he
    have e : wordsS.drop i = 32 :: (s ++ 32 :: q) := by rw [← hq]; simp
    rw [e] at ha
    have ht := twCC notBl s (32 :: q) (fun c hc => by
      have : c ≠ 32 := by rintro rfl; exact absurd (h 32 hc) (by decide)
      simp [notBl, this]) (fun c hc => by cases hc; decide)
    simp only [ht.1] at ha
    simpa [isWd] using ha
  · intro hx
    have hm : s ∈ wordList := by simpa [isWd] using hx
    exact List.all_eq_true.1 words_b s hm
theorem sub_pre (l t : List UInt8) (i : Nat) : (sub l i (i + t.length) == t) = t.isPrefixOf (l.drop i) := by
  rw [Bool.eq_iff_iff, beq_iff_eq, List.isPrefixOf_iff_prefix, List.prefix_iff_eq_take]
  unfold sub
  rw [show i + t.length - i = t.length by omega]
  exact eq_comm
def bl (s : ByteArray) : ByteArray := ⟨#[32]⟩ ++ s ++ ⟨#[32]⟩
theorem bl_toL (s : ByteArray) : (bl s).toList = [32] ++ s.toList ++ [32] := by
  unfold bl; rw [toL_app, toL_app, mk_toL #[32]]
theorem bl_size (s : ByteArray) : (bl s).size = s.size + 2 := by
  rw [← toL_len, bl_toL]; simp [toL_len]
set_option maxRecDepth 100000 in
set_option maxHeartbeats 800000 in
theorem In_any (s L : ByteArray) (w : World) (hs : 0 < s.size) (hs2 : s.size ≤ 10000) (hL : L.size ≤ 10000) :
    Calls Tryd.prog 50 #[.string s, .string L] w fun e w' => e = .returned (.bool (inF ([32] ++ s.toList ++ [32]) L.toList)) ∧ w' = w := by
  have hne : s.toList.isEmpty = false := by rw [isEmpty_toL]; simp; rintro rfl; simp at hs
  obtain ⟨B, hB⟩ : ∃ B, bl s = B := ⟨_, rfl⟩
  have hbs := bl_size s
  have HP : Hid (∀ i : Nat, ((L.extract i (i + (s.size + 2))).toList == B.toList) = ([32] ++ s.toList ++ [32]).isPrefixOf (L.toList.drop i)) := by
    intro i
    rw [ext_toL, ← hB, ← hbs, ← toL_len (bl s), sub_pre, bl_toL]
  rw [hB] at hbs
  have hB2 : (⟨#[32]⟩ ++ s ++ ⟨#[32]⟩ : ByteArray) = B := hB
  have HL : Hid (∀ j, L.size < j + (s.size + 2) → ([32] ++ s.toList ++ [32]).isPrefixOf (L.toList.drop j) = false) := by
    intro j hj
    apply Bool.eq_false_iff.2
    intro h
    have := (List.isPrefixOf_iff_prefix.1 h).length_le
    rw [List.length_drop, toL_len] at this
    simp [toL_len] at this
    omega
  clear hB
  go_enter Tryd.func50, Tryd.ntmps50
  go_wp2_with fail
  go_loopg [6] L.size (fun g v6 wx => ∃ i : Nat, g = L.size - i ∧ i ≤ L.size ∧ v6 = .int .i64 i ∧ (∀ j, j < i → ([32] ++ s.toList ++ [32]).isPrefixOf (L.toList.drop j) = false) ∧ wx = w)
  case atStart => exact ⟨0, by omega, by omega, rfl, fun j hj => absurd hj (by omega), rfl⟩
  case round =>
    obtain ⟨i, rfl, hi, rfl, hno, hwx⟩ := hrel
    have hw2 := hwx.symm
    clear hwx
    subst hw2
    have HN := hide hno
    clear hno
    by_cases hle : i + (s.size + 2) ≤ L.size
    · have hlez : (i : Int) + ((s.size : Int) + 2) ≤ L.size := by omega
      have hpi := unhide HP i
      cases hin : ([32] ++ s.toList ++ [32]).isPrefixOf (L.toList.drop i) with
      | true =>
        rw [hin] at hpi
        have HI := hide hin
        clear hin
        go_wp2_with fail
        go_ret
        exact ⟨ret_bool (inF_true (unhide HI) (by rw [toL_len]; omega)).symm, rfl⟩
      | false =>
        rw [hin] at hpi
        have HI := hide hin
        clear hin
        go_wp2_with fail
        go_roundg (L.size - (i + 1))
        case measure => omega
        case rel =>
          refine ⟨i + 1, rfl, by omega, by go_num, fun j hj => ?_, rfl⟩
          by_cases e : j = i
          · subst e; exact unhide HI
          · exact unhide HN j (by omega)
    · have hlez : ¬ (i : Int) + ((s.size : Int) + 2) ≤ L.size := by omega
      go_wp2_with fail
      go_ret
      refine ⟨ret_bool (inF_false fun j _ => ?_).symm, rfl⟩
      by_cases e : j < i
      · exact unhide HN j e
      · exact unhide HL j (by omega)
theorem tw_run (l : List UInt8) (a : Nat) : (l.drop a).takeWhile isNam = sub l a (runEnd isNam l a) ∧ (l.drop a).dropWhile isNam = l.drop (runEnd isNam l a) := by
  have e : (l.drop a).takeWhile isNam ++ (l.drop a).dropWhile isNam = l.drop a := List.takeWhile_append_dropWhile
  unfold sub runEnd
  constructor
  · rw [Nat.add_sub_cancel_left]
    exact (List.prefix_iff_eq_take.1 (List.takeWhile_prefix _))
  · have h2 : ((l.drop a).takeWhile isNam ++ (l.drop a).dropWhile isNam).drop ((l.drop a).takeWhile isNam).length = (l.drop a).dropWhile isNam := List.drop_left
    rw [e, List.drop_drop] at h2
    exact h2.symm
/-- What the reference's named answers at a place. -/
def nmAt (l : List UInt8) (a : Nat) : Int := match rNm (l.drop a) with
  | none => -1
  | some r => ((l.length - r.length : Nat) : Int)
theorem nmAt_no {l : List UInt8} {a : Nat} (h : isNm (sub l a (runEnd isNam l a)) = false) : nmAt l a = -1 := by
  unfold nmAt rNm
  rw [(tw_run l a).1, if_neg (by rw [h]; simp)]
theorem nmAt_yes {l : List UInt8} {a : Nat} (ha : a ≤ l.length) (h : isNm (sub l a (runEnd isNam l a)) = true) : nmAt l a = (runEnd isNam l a : Int) := by
  unfold nmAt rNm
  rw [(tw_run l a).1, if_pos h, (tw_run l a).2]
  simp only [List.length_drop]
  have := re_le isNam l a ha
  congr 1
  omega
theorem sub_run_all (l : List UInt8) (a : Nat) : ∀ c ∈ sub l a (runEnd isNam l a), isNam c = true := by
  rw [← (tw_run l a).1]
  intro c hc
  exact List.all_eq_true.1 List.all_takeWhile c hc
theorem sub_run_len (l : List UInt8) (a : Nat) : (sub l a (runEnd isNam l a)).length = runEnd isNam l a - a := by
  rw [← (tw_run l a).1]; unfold runEnd; omega
def wordsLit : ByteArray := ⟨((([32, 97, 112, 112, 101, 110, 100, 32, 98, 111, 111, 108, 32, 98, 114, 101, 97, 107, 32, 99, 97, 112, 32, 99, 97, 115, 101, 32, 99, 104, 97, 110, 32, 99, 108, 111, 115, 101, 32, 99, 111, 110, 116, 105, 110, 117, 101].append [32, 100, 101, 102, 97, 117, 108, 116, 32, 100, 101, 102, 101, 114, 32, 101, 108, 115, 101, 32, 102, 97, 108, 108, 116, 104, 114, 111, 117, 103, 104, 32, 102, 97, 108, 115, 101, 32, 102, 111, 114, 32, 102, 117, 110, 99, 32, 103]).append ([111, 32, 105, 102, 32, 105, 110, 116, 32, 108, 101, 110, 32, 109, 97, 107, 101, 32, 110, 101, 119, 32, 110, 105, 108, 32, 112, 97, 110, 105, 99, 32, 112, 114, 105, 110, 116, 32, 114, 101, 99, 111, 118, 101, 114, 32, 114].append [101, 116, 117, 114, 110, 32, 115, 101, 108, 101, 99, 116, 32, 115, 116, 114, 105, 110, 103, 32, 115, 116, 114, 117, 99, 116, 32, 115, 119, 105, 116, 99, 104, 32, 116, 114, 117, 101, 32, 116, 121, 112, 101, 32, 118, 97, 114, 32])) : List UInt8).toArray⟩
theorem wordsLit_toL : wordsLit.toList = wordsS := by
  unfold wordsLit; rw [mk_toL]; kernel_rfl
set_option maxRecDepth 100000 in
set_option maxHeartbeats 1600000 in
theorem named_any (s : ByteArray) (a : Nat) (w : World) (ha : a ≤ s.size) (hs : s.size ≤ 10000) :
    Calls Tryd.prog 44 #[.string s, .int .i64 a] w fun e w' => e = .returned (.int .i64 (nmAt s.toList a)) ∧ w' = w := by
  go_enter Tryd.func44, Tryd.ntmps44
  go_wp2_with fail
  go_loopg [5] (s.size - a) (fun g v5 wx => ∃ j : Nat, g = s.size - j ∧ a ≤ j ∧ j ≤ s.size ∧ v5 = .int .i64 j ∧ runEnd isNam s.toList j = runEnd isNam s.toList a ∧ wx = w)
  case atStart => exact ⟨a, rfl, Nat.le_refl _, ha, rfl, rfl, rfl⟩
  case round =>
    obtain ⟨j, rfl, haj, hj, rfl, hr, hwx⟩ := hrel
    have hw2 := hwx.symm
    clear hwx
    subst hw2
    have HR := hide hr
    clear hr
    by_cases hlt : j < s.size
    · have hltz : (j : Int) < s.size := by omega
      cases hl : isLet s[j] with
      | true =>
        have HS : Hid (runEnd isNam s.toList (j + 1) = runEnd isNam s.toList a) := (toL_step isNam s j hlt (by simp [isNam, hl])).trans (unhide HR)
        go_wp2_with (first | (go_at_call 49; refine (Letter_b _ _).mono ?_; rintro e w' ⟨rfl, hww⟩; rw [hww]; clear hww))
        go_roundg (s.size - (j + 1))
        case measure => omega
        case rel => exact ⟨j + 1, rfl, by omega, by omega, by go_num, unhide HS, rfl⟩
      | false =>
        by_cases d1 : (48 : Int) ≤ (s[j].toNat : Int)
        · by_cases d2 : (s[j].toNat : Int) ≤ 57
          · have HS : Hid (runEnd isNam s.toList (j + 1) = runEnd isNam s.toList a) := (toL_step isNam s j hlt (by simp [isNam, hl, isDig, digZ]; omega)).trans (unhide HR)
            go_wp2_with (first | (go_at_call 49; refine (Letter_b _ _).mono ?_; rintro e w' ⟨rfl, hww⟩; rw [hww]; clear hww))
            go_roundg (s.size - (j + 1))
            case measure => omega
            case rel => exact ⟨j + 1, rfl, by omega, by omega, by go_num, unhide HS, rfl⟩
          · have HE : Hid (runEnd isNam s.toList a = j) := (unhide HR).symm.trans (toL_stop isNam s j hlt (by simp [isNam, hl, isDig, digZ]; omega))
            by_cases e1 : j = a
            · have e1z : ((j : Int) == (a : Int)) = true := beq_iff_eq.2 (by omega)
              have HX : Hid (nmAt s.toList a = -1) := nmAt_no (by
                have h1 := sub_run_len s.toList a
                rw [unhide HE, e1, Nat.sub_self] at h1
                rw [unhide HE, e1, List.eq_nil_of_length_eq_zero h1]; rfl)
              clear e1
              go_wp2_with (first | (go_at_call 49; refine (Letter_b _ _).mono ?_; rintro e w' ⟨rfl, hww⟩; rw [hww]; clear hww))
              go_ret
              exact ⟨by rw [unhide HX]; rfl, rfl⟩
            have e1z : ((j : Int) == (a : Int)) = false := beq_eq_false_iff_ne.2 (by omega)
            by_cases e2 : 24 < j - a
            · have e2z : (24 : Int) < (j : Int) - a := by omega
              have HX : Hid (nmAt s.toList a = -1) := nmAt_no (by
                have h1 := sub_run_len s.toList a
                rw [unhide HE] at h1 ⊢
                unfold isNm
                rw [h1, decide_eq_false (by omega)]; rfl)
              go_wp2_with (first | (go_at_call 49; refine (Letter_b _ _).mono ?_; rintro e w' ⟨rfl, hww⟩; rw [hww]; clear hww))
              go_ret
              exact ⟨by rw [unhide HX]; rfl, rfl⟩
            have e2z : ¬ (24 : Int) < (j : Int) - a := by omega
            have has : a < s.size := by omega
            have hasz : (a : Int) < s.size := by omega
            have hcons : ∃ q, sub s.toList a j = s[a] :: q := by
              unfold sub
              rw [drop_cons_of s.toList a s[a] (toL_get s a has), show j - a = (j - a - 1) + 1 by omega, List.take_succ_cons]
              exact ⟨_, rfl⟩
            have HC := hide hcons
            clear hcons
            cases e3 : isLet s[a] with
            | false =>
              have HX : Hid (nmAt s.toList a = -1) := nmAt_no (by
                obtain ⟨q, hq⟩ := unhide HC
                rw [unhide HE, hq]
                unfold isNm
                simp [e3])
              go_wp2_with (first | (go_at_call 49; refine (Letter_b _ _).mono ?_; rintro e w' ⟨rfl, hww⟩; rw [hww]; clear hww))
              go_ret
              exact ⟨by rw [unhide HX]; rfl, rfl⟩
            | true =>
              have HI := hide (In_any (s.extract a j) wordsLit w (by rw [ext_size _ _ _ hj]; omega) (by rw [ext_size _ _ _ hj]; omega) (by decide))
              have HW := hide (in_words (sub s.toList a j) (by have := sub_run_all s.toList a; rw [unhide HE] at this; exact this))
              rw [wordsLit_toL, ext_toL, unhide HW] at HI
              have HQ : Hid (isNm (sub s.toList a j) = !isWd (sub s.toList a j)) := by
                show isNm (sub s.toList a j) = _
                have h1 := sub_run_len s.toList a
                have h2 := sub_run_all s.toList a
                rw [unhide HE] at h1 h2
                obtain ⟨q, hq⟩ := unhide HC
                rw [hq] at h1 h2 ⊢
                unfold isNm
                rw [h1, decide_eq_true (show j - a ≤ 24 by omega), List.all_eq_true.2 h2]
                simp [e3]
              generalize isWd (sub s.toList a j) = wd at HI HQ
              cases wd with
              | true =>
                have HX : Hid (nmAt s.toList a = -1) := nmAt_no (by rw [unhide HE]; exact unhide HQ)
                go_wp2_with (first | (go_at_call 49; refine (Letter_b _ _).mono ?_; rintro e w' ⟨rfl, hww⟩; rw [hww]; clear hww) | (go_at_call 50; refine (unhide HI).mono ?_; rintro e w' ⟨rfl, hww⟩; rw [hww]; clear hww))
                go_ret
                exact ⟨by rw [unhide HX]; rfl, rfl⟩
              | false =>
                have HX : Hid (nmAt s.toList a = (j : Int)) := by
                  have := nmAt_yes (l := s.toList) (a := a) (by rw [toL_len]; exact ha) (by rw [unhide HE]; exact unhide HQ)
                  rw [unhide HE] at this; exact this
                go_wp2_with (first | (go_at_call 49; refine (Letter_b _ _).mono ?_; rintro e w' ⟨rfl, hww⟩; rw [hww]; clear hww) | (go_at_call 50; refine (unhide HI).mono ?_; rintro e w' ⟨rfl, hww⟩; rw [hww]; clear hww))
                go_ret
                exact ⟨by rw [unhide HX]; rfl, rfl⟩
        · have HE : Hid (runEnd isNam s.toList a = j) := (unhide HR).symm.trans (toL_stop isNam s j hlt (by simp [isNam, hl, isDig, digZ]; omega))
          by_cases e1 : j = a
          · have e1z : ((j : Int) == (a : Int)) = true := beq_iff_eq.2 (by omega)
            have HX : Hid (nmAt s.toList a = -1) := nmAt_no (by
              have h1 := sub_run_len s.toList a
              rw [unhide HE, e1, Nat.sub_self] at h1
              rw [unhide HE, e1, List.eq_nil_of_length_eq_zero h1]; rfl)
            clear e1
            go_wp2_with (first | (go_at_call 49; refine (Letter_b _ _).mono ?_; rintro e w' ⟨rfl, hww⟩; rw [hww]; clear hww))
            go_ret
            exact ⟨by rw [unhide HX]; rfl, rfl⟩
          have e1z : ((j : Int) == (a : Int)) = false := beq_eq_false_iff_ne.2 (by omega)
          by_cases e2 : 24 < j - a
          · have e2z : (24 : Int) < (j : Int) - a := by omega
            have HX : Hid (nmAt s.toList a = -1) := nmAt_no (by
              have h1 := sub_run_len s.toList a
              rw [unhide HE] at h1 ⊢
              unfold isNm
              rw [h1, decide_eq_false (by omega)]; rfl)
            go_wp2_with (first | (go_at_call 49; refine (Letter_b _ _).mono ?_; rintro e w' ⟨rfl, hww⟩; rw [hww]; clear hww))
            go_ret
            exact ⟨by rw [unhide HX]; rfl, rfl⟩
          have e2z : ¬ (24 : Int) < (j : Int) - a := by omega
          have has : a < s.size := by omega
          have hasz : (a : Int) < s.size := by omega
          have hcons : ∃ q, sub s.toList a j = s[a] :: q := by
            unfold sub
            rw [drop_cons_of s.toList a s[a] (toL_get s a has), show j - a = (j - a - 1) + 1 by omega, List.take_succ_cons]
            exact ⟨_, rfl⟩
          have HC := hide hcons
          clear hcons
          cases e3 : isLet s[a] with
          | false =>
            have HX : Hid (nmAt s.toList a = -1) := nmAt_no (by
              obtain ⟨q, hq⟩ := unhide HC
              rw [unhide HE, hq]
              unfold isNm
              simp [e3])
            go_wp2_with (first | (go_at_call 49; refine (Letter_b _ _).mono ?_; rintro e w' ⟨rfl, hww⟩; rw [hww]; clear hww))
            go_ret
            exact ⟨by rw [unhide HX]; rfl, rfl⟩
          | true =>
            have HI := hide (In_any (s.extract a j) wordsLit w (by rw [ext_size _ _ _ hj]; omega) (by rw [ext_size _ _ _ hj]; omega) (by decide))
            have HW := hide (in_words (sub s.toList a j) (by have := sub_run_all s.toList a; rw [unhide HE] at this; exact this))
            rw [wordsLit_toL, ext_toL, unhide HW] at HI
            have HQ : Hid (isNm (sub s.toList a j) = !isWd (sub s.toList a j)) := by
              show isNm (sub s.toList a j) = _
              have h1 := sub_run_len s.toList a
              have h2 := sub_run_all s.toList a
              rw [unhide HE] at h1 h2
              obtain ⟨q, hq⟩ := unhide HC
              rw [hq] at h1 h2 ⊢
              unfold isNm
              rw [h1, decide_eq_true (show j - a ≤ 24 by omega), List.all_eq_true.2 h2]
              simp [e3]
            generalize isWd (sub s.toList a j) = wd at HI HQ
            cases wd with
            | true =>
              have HX : Hid (nmAt s.toList a = -1) := nmAt_no (by rw [unhide HE]; exact unhide HQ)
              go_wp2_with (first | (go_at_call 49; refine (Letter_b _ _).mono ?_; rintro e w' ⟨rfl, hww⟩; rw [hww]; clear hww) | (go_at_call 50; refine (unhide HI).mono ?_; rintro e w' ⟨rfl, hww⟩; rw [hww]; clear hww))
              go_ret
              exact ⟨by rw [unhide HX]; rfl, rfl⟩
            | false =>
              have HX : Hid (nmAt s.toList a = (j : Int)) := by
                have := nmAt_yes (l := s.toList) (a := a) (by rw [toL_len]; exact ha) (by rw [unhide HE]; exact unhide HQ)
                rw [unhide HE] at this; exact this
              go_wp2_with (first | (go_at_call 49; refine (Letter_b _ _).mono ?_; rintro e w' ⟨rfl, hww⟩; rw [hww]; clear hww) | (go_at_call 50; refine (unhide HI).mono ?_; rintro e w' ⟨rfl, hww⟩; rw [hww]; clear hww))
              go_ret
              exact ⟨by rw [unhide HX]; rfl, rfl⟩
    · have hltz : ¬ (j : Int) < s.size := by omega
      have HE : Hid (runEnd isNam s.toList a = j) := (unhide HR).symm.trans (toL_end isNam s j (by omega))
      by_cases e1 : j = a
      · have e1z : ((j : Int) == (a : Int)) = true := beq_iff_eq.2 (by omega)
        have HX : Hid (nmAt s.toList a = -1) := nmAt_no (by
          have h1 := sub_run_len s.toList a
          rw [unhide HE, e1, Nat.sub_self] at h1
          rw [unhide HE, e1, List.eq_nil_of_length_eq_zero h1]; rfl)
        clear e1
        go_wp2_with (first | (go_at_call 49; refine (Letter_b _ _).mono ?_; rintro e w' ⟨rfl, hww⟩; rw [hww]; clear hww))
        go_ret
        exact ⟨by rw [unhide HX]; rfl, rfl⟩
      have e1z : ((j : Int) == (a : Int)) = false := beq_eq_false_iff_ne.2 (by omega)
      by_cases e2 : 24 < j - a
      · have e2z : (24 : Int) < (j : Int) - a := by omega
        have HX : Hid (nmAt s.toList a = -1) := nmAt_no (by
          have h1 := sub_run_len s.toList a
          rw [unhide HE] at h1 ⊢
          unfold isNm
          rw [h1, decide_eq_false (by omega)]; rfl)
        go_wp2_with (first | (go_at_call 49; refine (Letter_b _ _).mono ?_; rintro e w' ⟨rfl, hww⟩; rw [hww]; clear hww))
        go_ret
        exact ⟨by rw [unhide HX]; rfl, rfl⟩
      have e2z : ¬ (24 : Int) < (j : Int) - a := by omega
      have has : a < s.size := by omega
      have hasz : (a : Int) < s.size := by omega
      have hcons : ∃ q, sub s.toList a j = s[a] :: q := by
        unfold sub
        rw [drop_cons_of s.toList a s[a] (toL_get s a has), show j - a = (j - a - 1) + 1 by omega, List.take_succ_cons]
        exact ⟨_, rfl⟩
      have HC := hide hcons
      clear hcons
      cases e3 : isLet s[a] with
      | false =>
        have HX : Hid (nmAt s.toList a = -1) := nmAt_no (by
          obtain ⟨q, hq⟩ := unhide HC
          rw [unhide HE, hq]
          unfold isNm
          simp [e3])
        go_wp2_with (first | (go_at_call 49; refine (Letter_b _ _).mono ?_; rintro e w' ⟨rfl, hww⟩; rw [hww]; clear hww))
        go_ret
        exact ⟨by rw [unhide HX]; rfl, rfl⟩
      | true =>
        have HI := hide (In_any (s.extract a j) wordsLit w (by rw [ext_size _ _ _ hj]; omega) (by rw [ext_size _ _ _ hj]; omega) (by decide))
        have HW := hide (in_words (sub s.toList a j) (by have := sub_run_all s.toList a; rw [unhide HE] at this; exact this))
        rw [wordsLit_toL, ext_toL, unhide HW] at HI
        have HQ : Hid (isNm (sub s.toList a j) = !isWd (sub s.toList a j)) := by
          show isNm (sub s.toList a j) = _
          have h1 := sub_run_len s.toList a
          have h2 := sub_run_all s.toList a
          rw [unhide HE] at h1 h2
          obtain ⟨q, hq⟩ := unhide HC
          rw [hq] at h1 h2 ⊢
          unfold isNm
          rw [h1, decide_eq_true (show j - a ≤ 24 by omega), List.all_eq_true.2 h2]
          simp [e3]
        generalize isWd (sub s.toList a j) = wd at HI HQ
        cases wd with
        | true =>
          have HX : Hid (nmAt s.toList a = -1) := nmAt_no (by rw [unhide HE]; exact unhide HQ)
          go_wp2_with (first | (go_at_call 49; refine (Letter_b _ _).mono ?_; rintro e w' ⟨rfl, hww⟩; rw [hww]; clear hww) | (go_at_call 50; refine (unhide HI).mono ?_; rintro e w' ⟨rfl, hww⟩; rw [hww]; clear hww))
          go_ret
          exact ⟨by rw [unhide HX]; rfl, rfl⟩
        | false =>
          have HX : Hid (nmAt s.toList a = (j : Int)) := by
            have := nmAt_yes (l := s.toList) (a := a) (by rw [toL_len]; exact ha) (by rw [unhide HE]; exact unhide HQ)
            rw [unhide HE] at this; exact this
          go_wp2_with (first | (go_at_call 49; refine (Letter_b _ _).mono ?_; rintro e w' ⟨rfl, hww⟩; rw [hww]; clear hww) | (go_at_call 50; refine (unhide HI).mono ?_; rintro e w' ⟨rfl, hww⟩; rw [hww]; clear hww))
          go_ret
          exact ⟨by rw [unhide HX]; rfl, rfl⟩
end Go.Proofs.YtpmpjbnnjdpbnaaDoor
