import Derived.Test.YtgckmkiiheaeaaaGreatDoorLexP
import Derived.KernelRfl
import Derived.Test.YtgckmkiiheaeaaaGreatDoorMark
import Derived.Laws.IdiomStrings
import Derived.Laws.Concat
import Derived.Test.YtgckmkiiheaeaaaGreatDoorState
import Derived.Test.YtgckmkiiheaeaaaGreatDoorTxtP
import Derived.Test.YtgckmkiiheaeaaaGreatDoorEndLine
import Derived.Maps.AppendAt
import Derived.Test.YtgckmkiiheaeaaaGreatDoorScanX
import Derived.Deep.LoopGhost
set_option linter.unusedVariables false
set_option linter.unusedSimpArgs false
namespace Go.Proofs.YtgckmkiiheaeaaaGreatDoor.Lx
def hit (p : List UInt8) : List UInt8 → Bool
 | [] => false
 | c :: r => p.isPrefixOf (c :: r) || hit p r
def padS (s : List UInt8) : List UInt8 := 32 :: (s ++ [32])
def inF (s l : List UInt8) : Bool := !s.isEmpty && hit (padS s) l
theorem pre_len {p l : List UInt8} (h : p.isPrefixOf l = true) : p.length ≤ l.length := (List.isPrefixOf_iff_prefix.1 h).length_le
theorem hit_short (p : List UInt8) : ∀ l : List UInt8, l.length < p.length → hit p l = false
 | [], _ => rfl
 | c :: r, h => by
   unfold hit
   rw [hit_short p r (by simp at h; omega)]
   cases hp : p.isPrefixOf (c :: r) with
   | false => rfl
   | true => have := pre_len hp; omega
theorem hit_drop (p l : List UInt8) (i : Nat) (h : i < l.length) : hit p (l.drop i) = (p.isPrefixOf (l.drop i) || hit p (l.drop (i + 1))) := by
 rw [List.drop_eq_getElem_cons h]; rfl
theorem pre_take (p l : List UInt8) : p.isPrefixOf l = (l.take p.length == p) := by
 cases h : p.isPrefixOf l with
 | true =>
   obtain ⟨t, rfl⟩ := List.isPrefixOf_iff_prefix.1 h
   simp
 | false =>
   symm
   rw [beq_eq_false_iff_ne]
   intro e
   have h2 := List.take_append_drop p.length l
   rw [e] at h2
   have : p <+: l := ⟨_, h2⟩
   rw [List.isPrefixOf_iff_prefix.2 this] at h
   cases h
def joinW : List (List UInt8) → List UInt8
 | [] => [32]
 | w :: ws => 32 :: (w ++ joinW ws)
def noB (s : List UInt8) : Bool := s.all fun c => c != 32
theorem join_head (ws : List (List UInt8)) : ∃ r, joinW ws = 32 :: r := by
 cases ws with
 | nil => exact ⟨[], rfl⟩
 | cons w ws => exact ⟨_, rfl⟩
theorem pre_word : ∀ (s w r : List UInt8), noB s = true → noB w = true → (s ++ [32]).isPrefixOf (w ++ 32 :: r) = (s == w)
 | [], [], r, _, _ => by simp [List.isPrefixOf]
 | [], d :: w, r, _, hw => by
   simp [noB] at hw
   simp [List.isPrefixOf]
   exact fun e => hw.1 e.symm
 | c :: s, [], r, hs, _ => by
   simp [noB] at hs
   simp [List.isPrefixOf]
   intro e
   exact absurd e hs.1
 | c :: s, d :: w, r, hs, hw => by
   have h1 : noB s = true := by simp [noB] at hs ⊢; exact hs.2
   have h2 : noB w = true := by simp [noB] at hw ⊢; exact hw.2
   have ih := pre_word s w r h1 h2
   simp only [List.cons_append, List.isPrefixOf, ih, List.cons_beq_cons]
theorem hit_skip (q : List UInt8) : ∀ (w J : List UInt8), noB w = true → hit (32 :: q) (w ++ J) = hit (32 :: q) J
 | [], _, _ => rfl
 | d :: w, J, hw => by
   have h2 : noB w = true := by simp [noB] at hw ⊢; exact hw.2
   have h1 : d ≠ 32 := by simp [noB] at hw; exact hw.1
   rw [List.cons_append, hit, hit_skip q w J h2]
   have : (32 :: q).isPrefixOf (d :: (w ++ J)) = false := by
    simp [List.isPrefixOf]
    intro e
    exact absurd e.symm h1
   rw [this, Bool.false_or]
theorem hit_join (s : List UInt8) (hs : noB s = true) : ∀ ws : List (List UInt8), ws.all noB = true → hit (padS s) (joinW ws) = ws.contains s
 | [], _ => by
   rw [hit_short]
   ·rfl
   ·simp [padS, joinW]
 | w :: ws, h => by
   simp only [List.all_cons, Bool.and_eq_true] at h
   obtain ⟨r, hr⟩ := join_head ws
   have ih := hit_join s hs ws h.2
   rw [joinW, hit, show padS s = 32 :: (s ++ [32]) from rfl, hit_skip _ w _ h.1]
   rw [show (32 :: (s ++ [32]) : List UInt8) = padS s from rfl, ih]
   have : (padS s).isPrefixOf (32 :: (w ++ joinW ws)) = (s == w) := by
    rw [hr]
    have := pre_word s w r hs h.1
    simp only [padS, List.isPrefixOf, this]
    simp
   rw [this, List.contains_cons]
theorem in_join (s : List UInt8) (hs : noB s = true) (ws : List (List UInt8)) (h : ws.all noB = true) (h0 : ws.contains [] = false) : inF s (joinW ws) = ws.contains s := by
 unfold inF
 cases s with
 | nil => rw [h0]; rfl
 | cons c s => rw [hit_join _ hs ws h]; rfl
def wordsL : List UInt8 := joinW wordList
def endersL : List UInt8 := joinW (endWords ++ endMarks)
def twoL : List UInt8 := joinW pairList
def oneW : List (List UInt8) := [[40], [41], [91], [93], [123], [125], [44], [59], [58], [46], [61], [60], [62], [43], [45], [42], [47], [37], [33], [38]]
def oneL : List UInt8 := joinW oneW
theorem in_words (s : List UInt8) (hs : noB s = true) : inF s wordsL = isWd s := in_join s hs wordList (by decide) (by decide)
theorem in_enders (s : List UInt8) (hs : noB s = true) : inF s endersL = (wdEnds s || mkEnds s) := by
 have := in_join s hs (endWords ++ endMarks) (by decide) (by decide)
 rw [endersL, this, List.contains_append]
 rfl
end Go.Proofs.YtgckmkiiheaeaaaGreatDoor.Lx
namespace Go.Proofs.YtgckmkiiheaeaaaGreatDoor
open Go.RowKit Lx
set_option maxHeartbeats 400000 in
theorem digit_any (n : Int) (w : World) (h0 : 0 ≤ n) (h1 : n ≤ 255) : Calls Tryz.prog 25 #[.int .u8 n] w fun e w' => e = .returned (.bool (digZ n)) ∧ w = w' := by
 go_enter Tryz.func25, Tryz.ntmps25
 go_wp2
 all_goals
  go_ret
  exact ⟨ret_bool (by rw [Bool.eq_iff_iff]; simp [digZ]; omega), rfl⟩
theorem digit_b (c : UInt8) (w : World) : Calls Tryz.prog 25 #[.int .u8 c.toNat] w fun e w' => e = .returned (.bool (isDig c)) ∧ w = w' := digit_any _ w (by omega) (by have := c.toNat_lt; omega)
set_option maxHeartbeats 400000 in
theorem LetR_any (n : Int) (w : World) (h0 : 0 ≤ n) (h1 : n ≤ 255) : Calls Tryz.prog 23 #[.int .u8 n] w fun e w' => e = .returned (.bool (letZ n)) ∧ w = w' := by
 go_enter Tryz.func23, Tryz.ntmps23
 go_wp2
 all_goals
  go_ret
  exact ⟨ret_bool (by rw [Bool.eq_iff_iff]; simp [letZ]; omega), rfl⟩
theorem LetR_b (c : UInt8) (w : World) : Calls Tryz.prog 23 #[.int .u8 c.toNat] w fun e w' => e = .returned (.bool (isLet c)) ∧ w = w' := LetR_any _ w (by omega) (by have := c.toNat_lt; omega)
theorem pad_toL (s : ByteArray) : ((⟨#[32]⟩ : ByteArray) ++ s ++ ⟨#[32]⟩).toList = padS s.toList := by
 simp [padS, ByteArray.toList_eq]
theorem pad_size (s : ByteArray) : ((⟨#[32]⟩ : ByteArray) ++ s ++ ⟨#[32]⟩).size = s.size + 2 := by
 rw [← toL_len, pad_toL]; simp [padS, toL_len]
theorem pre_ext (t l : ByteArray) (i : Nat) : t.toList.isPrefixOf (l.toList.drop i) = ((l.extract i (i + t.size)).toList == t.toList) := by
 rw [pre_take, ext_toL, sub, toL_len, Nat.add_sub_cancel_left]
set_option maxRecDepth 100000 in
set_option maxHeartbeats 1000000 in
theorem In_r (s l : ByteArray) (w : World) (hs : s.size ≤ 100000) (hl : l.size ≤ 100000) : Calls Tryz.prog 19 #[.string s, .string l] w fun e w' => e = .returned (.bool (inF s.toList l.toList)) ∧ w = w' := by
 obtain ⟨t, ht⟩ : ∃ t, t = ((⟨#[32]⟩ : ByteArray) ++ s ++ ⟨#[32]⟩) := ⟨_, rfl⟩
 have htl : t.toList = padS s.toList := by rw [ht, pad_toL]
 have hts : t.size = s.size + 2 := by rw [ht, pad_size]
 have HTs := hide hts
 obtain ⟨n, hn⟩ : ∃ n, n = t.size := ⟨_, rfl⟩
 have HN : Hid (t.size = n) := hide hn.symm
 have hnb : n ≤ 200000 ∧ 2 ≤ n := by omega
 have HP : Hid (∀ k, t.toList.isPrefixOf (l.toList.drop k) = ((l.extract k (k + n)).toList == t.toList)) := hide fun k => by rw [pre_ext, hn]
 have HSh : Hid (∀ k, ¬ k + n ≤ l.size → hit t.toList (l.toList.drop k) = false) := hide fun k hk => hit_short _ _ (by rw [List.length_drop, toL_len, toL_len]; omega)
 have hsz : (t.size : Int) = (n : Int) := by omega
 clear hts
 have fin : ∀ b : Bool, Hid (inF s.toList l.toList = (b && hit t.toList l.toList)) → (s.toList == []) = !b → Calls Tryz.prog 19 #[.string s, .string l] w fun e w' => e = .returned (.bool (inF s.toList l.toList)) ∧ w = w' := by
  intro b HY hb
  clear htl hn
  cases b with
  | false =>
    have HY2 : Hid (inF s.toList l.toList = false) := hide (by rw [unhide HY]; rfl)
    have hb' : (s.toList == []) = true := hb
    clear HY hb
    go_enter Tryz.func19, Tryz.ntmps19
    go_wp2
    rw [← ht]
    generalize ({ data := #[32] } ++ s : ByteArray) = s1 at *
    clear ht
    go_loopw [6] (fun i wr => ∃ k : Nat, k ≤ l.size ∧ i = .int .i64 k ∧ w = wr) (fun i _ => l.size - (intOf i).toNat)
    case atStart => exact ⟨0, by omega, rfl, rfl⟩
    case round =>
     obtain ⟨k, hk, rfl, rfl⟩ := hrel
     by_cases hlt : k + n ≤ l.size
     ·go_wp2
      go_roundw
      case rel => exact ⟨k + 1, by omega, by go_num, trivial⟩
      case measure => simp [intOf]; omega
     ·go_wp2
      go_ret
      exact ⟨ret_bool (unhide HY2).symm, rfl⟩
  | true =>
    have hb' : (s.toList == []) = false := hb
    have HY2 : Hid (inF s.toList l.toList = hit t.toList l.toList) := hide (by rw [unhide HY]; rfl)
    clear HY hb
    go_enter Tryz.func19, Tryz.ntmps19
    go_wp2
    rw [← ht]
    generalize ({ data := #[32] } ++ s : ByteArray) = s1 at *
    clear ht
    go_loopw [6] (fun i wr => ∃ k : Nat, k ≤ l.size ∧ i = .int .i64 k ∧ w = wr ∧ Hid (hit t.toList (l.toList.drop k) = hit t.toList l.toList)) (fun i _ => l.size - (intOf i).toNat)
    case atStart => exact ⟨0, by omega, rfl, rfl, hide (by simp)⟩
    case round =>
     obtain ⟨k, hk, rfl, rfl, hH⟩ := hrel
     by_cases hlt : k + n ≤ l.size
     ·have HD : Hid (hit t.toList (l.toList.drop k) = (((l.extract k (k + n)).toList == t.toList) || hit t.toList (l.toList.drop (k + 1)))) := hide (by rw [hit_drop _ _ _ (by rw [toL_len]; omega), unhide HP])
      cases hp : ((l.extract k (k + n)).toList == t.toList) with
      | true =>
        have HY3 : Hid (inF s.toList l.toList = true) := hide (by rw [unhide HY2, ← unhide hH, unhide HD, hp]; rfl)
        clear hH HY2 HD
        go_wp2
        go_ret
        exact ⟨ret_bool (unhide HY3).symm, rfl⟩
      | false =>
        have HH2 : Hid (hit t.toList (l.toList.drop (k + 1)) = hit t.toList l.toList) := hide (by rw [← unhide hH, unhide HD, hp]; rfl)
        clear hH HD
        go_wp2
        go_roundw
        case rel => exact ⟨k + 1, by omega, by go_num, trivial, HH2⟩
        case measure => simp [intOf]; omega
     ·have HY3 : Hid (inF s.toList l.toList = false) := hide (by rw [unhide HY2, ← unhide hH, unhide HSh k hlt])
      clear hH HY2
      go_wp2
      go_ret
      exact ⟨ret_bool (unhide HY3).symm, rfl⟩
 cases h0 : s.toList with
 | nil => rw [← h0]; exact fin false (hide (by rw [h0]; rfl)) (by rw [h0]; rfl)
 | cons c r => rw [← h0]; exact fin true (hide (by unfold inF; rw [htl, h0]; rfl)) (by rw [h0]; rfl)
open Go.RowKit Lx
set_option maxRecDepth 100000 in
set_option maxHeartbeats 1000000 in
theorem word_r (s : ByteArray) (k : Nat) (w : World) (hs : s.size ≤ 8192) (hk : k ≤ s.size) : Calls Tryz.prog 24 #[.string s, .int .i64 (k : Nat)] w fun e w' => e = .returned (.int .i64 ((runEnd isNam s.toList k : Nat) : Int)) ∧ w = w' := by
 go_enter Tryz.func24, Tryz.ntmps24
 go_wp2
 go_loopw [1] (fun i wr => ∃ j : Nat, j ≤ s.size ∧ i = .int .i64 j ∧ w = wr ∧ Hid (runEnd isNam s.toList j = runEnd isNam s.toList k)) (fun i _ => s.size - (intOf i).toNat)
 case atStart => exact ⟨k, hk, rfl, rfl, hide rfl⟩
 case round =>
  obtain ⟨j, hj, rfl, rfl, hR⟩ := hrel
  by_cases hlt : j < s.size
  ·have H1 := hide (toL_step isNam s j hlt)
   have H2 := hide (toL_stop isNam s j hlt)
   have HL : Hid (∀ w, Calls Tryz.prog 23 #[.int .u8 s[j].toNat] w fun e w' => e = .returned (.bool (isLet s[j])) ∧ w = w') := hide fun w => LetR_b s[j] w
   have HG : Hid (∀ w, Calls Tryz.prog 25 #[.int .u8 s[j].toNat] w fun e w' => e = .returned (.bool (isDig s[j])) ∧ w = w') := hide fun w => digit_b s[j] w
   have HNm : Hid (isNam s[j] = (isLet s[j] || isDig s[j])) := hide rfl
   cases hA : isLet s[j] with
   | true =>
     have HR2 : Hid (runEnd isNam s.toList (j + 1) = runEnd isNam s.toList k) := hide (by rw [unhide H1 (by rw [unhide HNm, hA]; rfl)]; exact unhide hR)
     rw [hA] at HL
     clear hR H1 H2 HNm hA
     go_wp2_with (first | (go_at_call 23; refine (unhide HL _).mono ?_; rintro e w' ⟨rfl, rfl⟩) | (go_at_call 25; refine (unhide HG _).mono ?_; rintro e w' ⟨rfl, rfl⟩))
     go_roundw
     case rel => exact ⟨j + 1, by omega, by go_num, trivial, HR2⟩
     case measure => simp [intOf]; omega
   | false =>
     cases hB : isDig s[j] with
     | true =>
       have HR2 : Hid (runEnd isNam s.toList (j + 1) = runEnd isNam s.toList k) := hide (by rw [unhide H1 (by rw [unhide HNm, hA, hB]; rfl)]; exact unhide hR)
       rw [hA] at HL
       rw [hB] at HG
       clear hR H1 H2 HNm hA hB
       go_wp2_with (first | (go_at_call 23; refine (unhide HL _).mono ?_; rintro e w' ⟨rfl, rfl⟩) | (go_at_call 25; refine (unhide HG _).mono ?_; rintro e w' ⟨rfl, rfl⟩))
       go_roundw
       case rel => exact ⟨j + 1, by omega, by go_num, trivial, HR2⟩
       case measure => simp [intOf]; omega
     | false =>
       have HR2 : Hid (runEnd isNam s.toList k = j) := hide (by rw [← unhide hR, unhide H2 (by rw [unhide HNm, hA, hB]; rfl)])
       rw [hA] at HL
       rw [hB] at HG
       clear hR H1 H2 HNm hA hB
       go_wp2_with (first | (go_at_call 23; refine (unhide HL _).mono ?_; rintro e w' ⟨rfl, rfl⟩) | (go_at_call 25; refine (unhide HG _).mono ?_; rintro e w' ⟨rfl, rfl⟩))
       go_ret
       exact ⟨ret_int (by rw [unhide HR2]), rfl⟩
  ·have HR2 : Hid (runEnd isNam s.toList k = j) := hide (by rw [← unhide hR, toL_end isNam s j (by omega)])
   clear hR
   go_wp2
   go_ret
   exact ⟨ret_int (by rw [unhide HR2]), rfl⟩
def tokV (t : Tok) : Value := .agg #[.int .i64 t.kind, .string ⟨t.text.toArray⟩, .int .i64 t.num, .int .i64 t.pos]
def tok0 : Value := .agg #[.int .i64 0, .string ⟨#[]⟩, .int .i64 0, .int .i64 0]
def TokP (k : Nat) (r : Sum Nat (Nat × Tok)) (w : World) (e : Ending) (w' : World) : Prop :=
 Below w.heap.size w w' ∧ match r with
 | .inl p => e = .returned (.tuple #[tok0, .int .i64 (k : Nat), .int .i64 (p : Nat)])
 | .inr (k', t) => e = .returned (.tuple #[tokV t, .int .i64 (k' : Nat), .int .i64 (-1)])
def numT (l : List UInt8) (k : Nat) : Sum Nat (Nat × Tok) :=
 if numBad (sub l k (runEnd isDig l k)) = true then .inl k
 else if letAt l (runEnd isDig l k) = true then .inl (runEnd isDig l k)
 else .inr (runEnd isDig l k, ⟨2, sub l k (runEnd isDig l k), numV (sub l k (runEnd isDig l k)), k⟩)
theorem sub_lenR (l : List UInt8) (k j : Nat) (h : j ≤ l.length) : (sub l k j).length = j - k := by
 unfold sub; rw [List.length_take, List.length_drop]; omega
theorem sub_snoc (s : ByteArray) (k j : Nat) (hk : k ≤ j) (hj : j < s.size) : sub s.toList k (j + 1) = sub s.toList k j ++ [s[j]] := by
 unfold sub
 have h1 : (s.toList.drop k)[j - k]? = some s[j] := by
  rw [List.getElem?_drop, show k + (j - k) = j by omega, toL_get s j hj]
 rw [show j + 1 - k = (j - k) + 1 by omega, List.take_add_one, h1]; rfl
theorem num_snoc (s : ByteArray) (k j : Nat) (hk : k ≤ j) (hj : j < s.size) : (sub s.toList k (j + 1)).take 18 = if j - k < 18 then sub s.toList k j ++ [s[j]] else (sub s.toList k j).take 18 := by
 have hl := sub_lenR s.toList k j (by rw [toL_len]; omega)
 rw [sub_snoc s k j hk hj]
 split
 ·rw [List.take_of_length_le (by simp; omega)]
 ·rw [List.take_append_of_le_length (by omega)]
theorem tok_b (w : World) (a b c d : Value) : Below w.heap.size w (w.alloc (.cells #[a, b, c, d] 36)) := (Below.refl _ _).alloc (Nat.le_refl _) _
theorem num_bad (s : ByteArray) (k j : Nat) (hkj : k ≤ j) (hj : j ≤ s.size) (hk : k < s.size) : numBad (sub s.toList k j) = (decide (18 < j - k) || (decide (1 < j - k) && decide (s[k] = 48))) := by
 unfold numBad
 rw [sub_lenR _ _ _ (by rw [toL_len]; exact hj)]
 by_cases hx : 1 < j - k
 ·have : (sub s.toList k j).head? = some s[k] := by
   unfold sub
   rw [List.head?_take, if_neg (by omega), List.head?_drop, toL_get s k hk]
  rw [this]
  by_cases h48 : s[k] = 48
  ·simp [h48]
  ·simp [h48]
 ·simp [hx]
theorem num_t (s : ByteArray) (k j : Nat) (h : runEnd isDig s.toList k = j) : numT s.toList k = if numBad (sub s.toList k j) = true then .inl k else if letAt s.toList j = true then .inl j else .inr (j, ⟨2, sub s.toList k j, numV (sub s.toList k j), k⟩) := by
 unfold numT; rw [h]
theorem TokP.bad {k p : Nat} {r : Sum Nat (Nat × Tok)} {w w' : World} (h : r = .inl p) (hb : Below w.heap.size w w') : TokP k r w (.returned (.tuple #[tok0, .int .i64 (k : Nat), .int .i64 (p : Nat)])) w' := by
 subst h; exact ⟨hb, rfl⟩
theorem TokP.good {k k' : Nat} {t : Tok} {r : Sum Nat (Nat × Tok)} {w w' : World} {v : Value} (h : r = .inr (k', t)) (hv : v = tokV t) (hb : Below w.heap.size w w') : TokP k r w (.returned (.tuple #[v, .int .i64 (k' : Nat), .int .i64 (-1)])) w' := by
 subst h hv; exact ⟨hb, rfl⟩
set_option maxRecDepth 100000 in
set_option maxHeartbeats 1000000 in
theorem number_r (s : ByteArray) (k : Nat) (w : World) (hs : s.size ≤ 8192) (hk : k < s.size) : Calls Tryz.prog 26 #[.string s, .int .i64 (k : Nat)] w (TokP k (numT s.toList k) w) := by
 obtain ⟨w1, hw1⟩ : ∃ w1, w1 = w.alloc (.cells #[.int .i64 0, .string ⟨#[]⟩, .int .i64 0, .int .i64 0] 36) := ⟨_, rfl⟩
 have HW : Hid (w1 = w.alloc (.cells #[.int .i64 0, .string ⟨#[]⟩, .int .i64 0, .int .i64 0] 36)) := hide hw1
 have HDg : Hid (∀ j, j < s.size → k ≤ j → (∀ c ∈ sub s.toList k j, isDig c = true) → isDig (s.toList.getD j 0) = true → ∀ c ∈ sub s.toList k (j + 1), isDig c = true) := hide fun j hj hkj ha hd => by
  have e : s.toList.getD j 0 = s[j] := by simp [List.getD, toL_get s j hj]
  rw [e] at hd
  rw [sub_snoc s k j hkj hj]
  intro c hc
  rcases List.mem_append.1 hc with h | h
  ·exact ha c h
  ·simp at h; rw [h]; exact hd
 go_enter Tryz.func26, Tryz.ntmps26
 go_wp2
 rw [← hw1]
 clear hw1
 go_loopw [7, 8] (fun i v wr => ∃ j : Nat, k ≤ j ∧ j ≤ s.size ∧ i = .int .i64 j ∧ ∃ n : Int, v = .int .i64 n ∧ 0 ≤ n ∧ n ≤ 999999999999999999 ∧ (j - k < 18 → n ≤ 99999999999999999) ∧ w1 = wr ∧ Hid (runEnd isDig s.toList j = runEnd isDig s.toList k) ∧ Hid (n = numV ((sub s.toList k j).take 18)) ∧ Hid (∀ c ∈ sub s.toList k j, isDig c = true)) (fun i _ _ => s.size - (intOf i).toNat)
 case atStart => exact ⟨k, by omega, by omega, rfl, 0, rfl, by omega, by omega, by omega, rfl, hide rfl, hide (by simp [sub, numV]), hide (by simp [sub])⟩
 case round =>
  obtain ⟨j, hkj, hj, rfl, n, rfl, hn0, hn1, hn2, rfl, hR, hN, hA⟩ := hrel
  by_cases hlt : j < s.size
  ·have H1 := hide (toL_step isDig s j hlt)
   have H2 := hide (toL_stop isDig s j hlt)
   have HG : Hid (∀ w, Calls Tryz.prog 25 #[.int .u8 s[j].toNat] w fun e w' => e = .returned (.bool (isDig s[j])) ∧ w = w') := hide fun w => digit_b s[j] w
   cases hB : isDig s[j] with
   | true =>
     have hbd := isDig_bd _ hB
     have HR2 : Hid (runEnd isDig s.toList (j + 1) = runEnd isDig s.toList k) := hide (by rw [unhide H1 hB]; exact unhide hR)
     have hA2 := unhide HDg j hlt hkj (unhide hA) (by simp only [List.getD, toL_get s j hlt]; exact hB)
     have HA2 := hide hA2
     rw [hB] at HG
     have hlen : (sub s.toList k (j + 1)).length = j + 1 - k := sub_lenR _ _ _ (by rw [toL_len]; omega)
     by_cases h18 : j - k < 18
     ·have hn3 := hn2 h18
      have HN2 : Hid (10 * n + (s[j].toNat : Int) - 48 = numV ((sub s.toList k (j + 1)).take 18)) := hide (by
       have e : (sub s.toList k j).take 18 = sub s.toList k j := List.take_of_length_le (by rw [sub_lenR _ _ _ (by rw [toL_len]; omega)]; omega)
       rw [num_snoc s k j hkj hlt, if_pos h18, numV_snoc, unhide hN, e]
       omega)
      have hb17 : j + 1 - k < 18 → 10 * n + (s[j].toNat : Int) - 48 ≤ 99999999999999999 := fun h => by
       rw [unhide HN2, List.take_of_length_le (by omega)]
       exact (numV_le17 _ (by omega) hA2).2
      have hw1 : IntKind.i64.wrap (10 * n) = 10 * n := by rw [Go.IntKind.wrap_i64]; omega
      have hw2 : IntKind.i64.wrap (10 * n + (s[j].toNat : Int)) = 10 * n + (s[j].toNat : Int) := by rw [Go.IntKind.wrap_i64]; omega
      have hw3 : IntKind.i64.wrap (10 * n + (s[j].toNat : Int) - 48) = 10 * n + (s[j].toNat : Int) - 48 := by rw [Go.IntKind.wrap_i64]; omega
      have hji : (j : Int) - (k : Int) < 18 := by omega
      clear hR H1 H2 hN hA hB hA2 hlen hn2
      go_wp2_with (go_at_call 25; refine (unhide HG _).mono ?_; rintro e w' ⟨rfl, rfl⟩)
      go_roundw
      case rel => exact ⟨j + 1, by omega, by omega, by go_num, _, rfl, by omega, by omega, hb17, trivial, HR2, HN2, HA2⟩
      case measure => simp [intOf]; omega
     ·have HN2 : Hid (n = numV ((sub s.toList k (j + 1)).take 18)) := hide (by rw [num_snoc s k j hkj hlt, if_neg h18]; exact unhide hN)
      have hji : ¬ (j : Int) - (k : Int) < 18 := by omega
      clear hR H1 H2 hN hA hB hA2 hlen
      go_wp2_with (go_at_call 25; refine (unhide HG _).mono ?_; rintro e w' ⟨rfl, rfl⟩)
      go_roundw
      case rel => exact ⟨j + 1, by omega, by omega, by go_num, n, rfl, by omega, by omega, by omega, trivial, HR2, HN2, HA2⟩
      case measure => simp [intOf]; omega
   | false =>
     have HE : Hid (runEnd isDig s.toList k = j) := hide (by rw [← unhide hR, unhide H2 hB])
     rw [hB] at HG
     clear hB
     have HNb : Hid (numBad (sub s.toList k j) = (decide (18 < j - k) || (decide (1 < j - k) && decide (s[k] = 48)))) := hide (num_bad s k j hkj hj hk)
     have HNt := hide (num_t s k j (unhide HE))
     have HLt : Hid (letAt s.toList j = isLet s[j]) := hide (by unfold letAt; rw [toL_get s j hlt])
     have HL : Hid (∀ w, Calls Tryz.prog 23 #[.int .u8 s[j].toNat] w fun e w' => e = .returned (.bool (isLet s[j])) ∧ w = w') := hide fun w => LetR_b s[j] w
     by_cases h18 : 18 < j - k
     ·have hji : 18 < (j : Int) - (k : Int) := by omega
      have HY : Hid (numT s.toList k = .inl k) := hide (by rw [unhide HNt, unhide HNb]; simp [h18])
      clear HNb HNt HLt hR hN hA hn2 H1 H2
      have ew := unhide HW; subst ew; go_wp2_with (first | (go_at_call 25; refine (unhide HG _).mono ?_; rintro e w' ⟨rfl, rfl⟩) | (go_at_call 23; refine (unhide HL _).mono ?_; rintro e w' ⟨rfl, rfl⟩))
      refine bodyPost_ret (v := .tuple #[.agg #[.int .i64 0, .string ⟨#[]⟩, .int .i64 0, .int .i64 0], .int .i64 (k : Int), .int .i64 (k : Int)]) (by simp [results, Tryz.results26, go_sem]) rfl ?_
      exact TokP.bad (unhide HY) (tok_b _ _ _ _ _)
     ·have hji : ¬ 18 < (j : Int) - (k : Int) := by omega
      by_cases h1 : 1 < j - k ∧ s[k] = 48
      ·have hji1 : 1 < (j : Int) - (k : Int) := by omega
       have hck : ((s[k].toNat : Int) == 48) = true := by rw [h1.2]; rfl
       have HY : Hid (numT s.toList k = .inl k) := hide (by rw [unhide HNt, unhide HNb]; simp [h1.1, h1.2])
       clear HNb HNt HLt hR hN hA hn2 h1 H1 H2
       have ew := unhide HW; subst ew; go_wp2_with (first | (go_at_call 25; refine (unhide HG _).mono ?_; rintro e w' ⟨rfl, rfl⟩) | (go_at_call 23; refine (unhide HL _).mono ?_; rintro e w' ⟨rfl, rfl⟩))
       refine bodyPost_ret (v := .tuple #[.agg #[.int .i64 0, .string ⟨#[]⟩, .int .i64 0, .int .i64 0], .int .i64 (k : Int), .int .i64 (k : Int)]) (by simp [results, Tryz.results26, go_sem]) rfl ?_
       exact TokP.bad (unhide HY) (tok_b _ _ _ _ _)
      ·have hgd : numBad (sub s.toList k j) = false := by
        rw [unhide HNb]
        simp only [decide_eq_false h18, Bool.false_or]
        by_cases hx : 1 < j - k
        ·rw [decide_eq_true hx, Bool.true_and]; exact decide_eq_false fun e => h1 ⟨hx, e⟩
        ·rw [decide_eq_false hx]; rfl
       have hn5 : n = numV (sub s.toList k j) := by
        rw [unhide hN, List.take_of_length_le (by rw [sub_lenR _ _ _ (by rw [toL_len]; omega)]; omega)]
       have HXt : Hid (s.extract k j = ⟨(sub s.toList k j).toArray⟩) := hide (by rw [← ext_toL, ba_of])
       have hck : 1 < (j : Int) - (k : Int) → ((s[k].toNat : Int) == 48) = false := fun hx => by
        rw [beq_eq_false_iff_ne]
        intro e
        exact h1 ⟨by omega, UInt8.toNat_inj.1 (by simpa using Int.ofNat.inj e)⟩
       cases hA2 : isLet s[j] with
       | true =>
         have HY : Hid (numT s.toList k = .inl j) := hide (by rw [unhide HNt, hgd, unhide HLt]; simp [hA2])
         rw [hA2] at HL
         clear HNb HNt HLt hR hN hA hn2 hgd hn5 H1 H2 hA2
         by_cases hx : 1 < j - k
         ·have hji1 : 1 < (j : Int) - (k : Int) := by omega
          have hck2 := hck hji1
          clear hck h1
          have ew := unhide HW; subst ew; go_wp2_with (first | (go_at_call 25; refine (unhide HG _).mono ?_; rintro e w' ⟨rfl, rfl⟩) | (go_at_call 23; refine (unhide HL _).mono ?_; rintro e w' ⟨rfl, rfl⟩))
          refine bodyPost_ret (v := .tuple #[.agg #[.int .i64 0, .string ⟨#[]⟩, .int .i64 0, .int .i64 0], .int .i64 (k : Int), .int .i64 (j : Int)]) (by simp [results, Tryz.results26, go_sem]) rfl ?_
          exact TokP.bad (unhide HY) (tok_b _ _ _ _ _)
         ·have hji1 : ¬ 1 < (j : Int) - (k : Int) := by omega
          clear hck h1
          have ew := unhide HW; subst ew; go_wp2_with (first | (go_at_call 25; refine (unhide HG _).mono ?_; rintro e w' ⟨rfl, rfl⟩) | (go_at_call 23; refine (unhide HL _).mono ?_; rintro e w' ⟨rfl, rfl⟩))
          refine bodyPost_ret (v := .tuple #[.agg #[.int .i64 0, .string ⟨#[]⟩, .int .i64 0, .int .i64 0], .int .i64 (k : Int), .int .i64 (j : Int)]) (by simp [results, Tryz.results26, go_sem]) rfl ?_
          exact TokP.bad (unhide HY) (tok_b _ _ _ _ _)
       | false =>
         have HY : Hid (numT s.toList k = .inr (j, ⟨2, sub s.toList k j, n, k⟩)) := hide (by rw [unhide HNt, hgd, unhide HLt, hn5]; simp [hA2])
         rw [hA2] at HL
         clear HNb HNt HLt hR hN hA hn2 hgd hn5 H1 H2 hA2
         by_cases hx : 1 < j - k
         ·have hji1 : 1 < (j : Int) - (k : Int) := by omega
          have hck2 := hck hji1
          clear hck h1
          have ew := unhide HW; subst ew; go_wp2_with (first | (go_at_call 25; refine (unhide HG _).mono ?_; rintro e w' ⟨rfl, rfl⟩) | (go_at_call 23; refine (unhide HL _).mono ?_; rintro e w' ⟨rfl, rfl⟩))
          refine bodyPost_ret (v := .tuple #[.agg #[.int .i64 2, .string (s.extract k j), .int .i64 n, .int .i64 (k : Int)], .int .i64 (j : Int), .int .i64 (-1)]) (by simp [results, Tryz.results26, go_sem]) rfl ?_
          exact TokP.good (unhide HY) (by rw [unhide HXt]; rfl) (tok_b _ _ _ _ _)
         ·have hji1 : ¬ 1 < (j : Int) - (k : Int) := by omega
          clear hck h1
          have ew := unhide HW; subst ew; go_wp2_with (first | (go_at_call 25; refine (unhide HG _).mono ?_; rintro e w' ⟨rfl, rfl⟩) | (go_at_call 23; refine (unhide HL _).mono ?_; rintro e w' ⟨rfl, rfl⟩))
          refine bodyPost_ret (v := .tuple #[.agg #[.int .i64 2, .string (s.extract k j), .int .i64 n, .int .i64 (k : Int)], .int .i64 (j : Int), .int .i64 (-1)]) (by simp [results, Tryz.results26, go_sem]) rfl ?_
          exact TokP.good (unhide HY) (by rw [unhide HXt]; rfl) (tok_b _ _ _ _ _)
  ·have hjs : s.size ≤ j := by omega
   have HE : Hid (runEnd isDig s.toList k = j) := hide (by rw [← unhide hR, toL_end isDig s j hjs])
   have hlt2 : ¬ (j : Int) < (s.size : Int) := by omega
   have HNb : Hid (numBad (sub s.toList k j) = (decide (18 < j - k) || (decide (1 < j - k) && decide (s[k] = 48)))) := hide (num_bad s k j hkj hj hk)
   have HNt := hide (num_t s k j (unhide HE))
   have HLt : Hid (letAt s.toList j = false) := hide (by unfold letAt; rw [List.getElem?_eq_none (by rw [toL_len]; omega)])
   by_cases h18 : 18 < j - k
   ·have hji : 18 < (j : Int) - (k : Int) := by omega
    have HY : Hid (numT s.toList k = .inl k) := hide (by rw [unhide HNt, unhide HNb]; simp [h18])
    clear HNb HNt HLt hR hN hA hn2
    have ew := unhide HW; subst ew; go_wp2_with (first | (go_at_call 25; refine (unhide HG _).mono ?_; rintro e w' ⟨rfl, rfl⟩) | (go_at_call 23; refine (unhide HL _).mono ?_; rintro e w' ⟨rfl, rfl⟩))
    refine bodyPost_ret (v := .tuple #[.agg #[.int .i64 0, .string ⟨#[]⟩, .int .i64 0, .int .i64 0], .int .i64 (k : Int), .int .i64 (k : Int)]) (by simp [results, Tryz.results26, go_sem]) rfl ?_
    exact TokP.bad (unhide HY) (tok_b _ _ _ _ _)
   ·have hji : ¬ 18 < (j : Int) - (k : Int) := by omega
    by_cases h1 : 1 < j - k ∧ s[k] = 48
    ·have hji1 : 1 < (j : Int) - (k : Int) := by omega
     have hck : ((s[k].toNat : Int) == 48) = true := by rw [h1.2]; rfl
     have HY : Hid (numT s.toList k = .inl k) := hide (by rw [unhide HNt, unhide HNb]; simp [h1.1, h1.2])
     clear HNb HNt HLt hR hN hA hn2 h1
     have ew := unhide HW; subst ew; go_wp2_with (first | (go_at_call 25; refine (unhide HG _).mono ?_; rintro e w' ⟨rfl, rfl⟩) | (go_at_call 23; refine (unhide HL _).mono ?_; rintro e w' ⟨rfl, rfl⟩))
     refine bodyPost_ret (v := .tuple #[.agg #[.int .i64 0, .string ⟨#[]⟩, .int .i64 0, .int .i64 0], .int .i64 (k : Int), .int .i64 (k : Int)]) (by simp [results, Tryz.results26, go_sem]) rfl ?_
     exact TokP.bad (unhide HY) (tok_b _ _ _ _ _)
    ·have hgd : numBad (sub s.toList k j) = false := by
      rw [unhide HNb]
      simp only [decide_eq_false h18, Bool.false_or]
      by_cases hx : 1 < j - k
      ·rw [decide_eq_true hx, Bool.true_and]; exact decide_eq_false fun e => h1 ⟨hx, e⟩
      ·rw [decide_eq_false hx]; rfl
     have hn5 : n = numV (sub s.toList k j) := by
      rw [unhide hN, List.take_of_length_le (by rw [sub_lenR _ _ _ (by rw [toL_len]; omega)]; omega)]
     have HXt : Hid (s.extract k j = ⟨(sub s.toList k j).toArray⟩) := hide (by rw [← ext_toL, ba_of])
     have hck : 1 < (j : Int) - (k : Int) → ((s[k].toNat : Int) == 48) = false := fun hx => by
      rw [beq_eq_false_iff_ne]
      intro e
      exact h1 ⟨by omega, UInt8.toNat_inj.1 (by simpa using Int.ofNat.inj e)⟩
     have HY : Hid (numT s.toList k = .inr (j, ⟨2, sub s.toList k j, n, k⟩)) := hide (by rw [unhide HNt, hgd, unhide HLt, hn5]; simp)
     clear HNb HNt HLt hR hN hA hn2 hgd hn5
     by_cases hx : 1 < j - k
     ·have hji1 : 1 < (j : Int) - (k : Int) := by omega
      have hck2 := hck hji1
      clear hck h1
      have ew := unhide HW; subst ew; go_wp2_with (first | (go_at_call 25; refine (unhide HG _).mono ?_; rintro e w' ⟨rfl, rfl⟩) | (go_at_call 23; refine (unhide HL _).mono ?_; rintro e w' ⟨rfl, rfl⟩))
      refine bodyPost_ret (v := .tuple #[.agg #[.int .i64 2, .string (s.extract k j), .int .i64 n, .int .i64 (k : Int)], .int .i64 (j : Int), .int .i64 (-1)]) (by simp [results, Tryz.results26, go_sem]) rfl ?_
      exact TokP.good (unhide HY) (by rw [unhide HXt]; rfl) (tok_b _ _ _ _ _)
     ·have hji1 : ¬ 1 < (j : Int) - (k : Int) := by omega
      clear hck h1
      have ew := unhide HW; subst ew; go_wp2_with (first | (go_at_call 25; refine (unhide HG _).mono ?_; rintro e w' ⟨rfl, rfl⟩) | (go_at_call 23; refine (unhide HL _).mono ?_; rintro e w' ⟨rfl, rfl⟩))
      refine bodyPost_ret (v := .tuple #[.agg #[.int .i64 2, .string (s.extract k j), .int .i64 n, .int .i64 (k : Int)], .int .i64 (j : Int), .int .i64 (-1)]) (by simp [results, Tryz.results26, go_sem]) rfl ?_
      exact TokP.good (unhide HY) (by rw [unhide HXt]; rfl) (tok_b _ _ _ _ _)
open Go.RowKit Lx
theorem Lx.TxtAt.one {l : List UInt8} {a j : Nat} {xs : List UInt8} {c : UInt8} (h : TxtAt l a j xs) (hc : l[j]? = some c) (hp : isPln c = true) : TxtAt l a (j + 1) (xs ++ [c]) := by
 have ha := h.1
 refine ⟨by omega, ?_⟩
 rw [h.2, drop_cons_of l j c hc, txt_plain c _ hp]
 refine Prod.ext ?_ ?_
 ·simp only [Option.map_map]
  congr 1
  funext z
  simp
 ·simp only; omega
def textT (l : List UInt8) (k : Nat) : Sum Nat (Nat × Tok) :=
 match txt (l.drop (k + 1)) with
 | (none, n) => .inl (k + 1 + n)
 | (some m, n) => if 256 < m.length then .inl k else .inr (k + 1 + n, ⟨3, m, 0, k⟩)
theorem textT_bad {l : List UInt8} {k n : Nat} (h : txt (l.drop (k + 1)) = (none, n)) : textT l k = .inl (k + 1 + n) := by unfold textT; rw [h]
theorem textT_ok {l m : List UInt8} {k n : Nat} (h : txt (l.drop (k + 1)) = (some m, n)) : textT l k = if 256 < m.length then .inl k else .inr (k + 1 + n, ⟨3, m, 0, k⟩) := by unfold textT; rw [h]
def Ans (w wr : World) : Prop := Below w.heap.size w wr ∧ wr.heap[w.heap.size]? = some (.cells #[.int .i64 0, .string ⟨#[]⟩, .int .i64 0, .int .i64 0] 36)
theorem Ans.new (w : World) : Ans w (w.alloc (.cells #[.int .i64 0, .string ⟨#[]⟩, .int .i64 0, .int .i64 0] 36)) := ⟨(Below.refl _ _).alloc (Nat.le_refl _) _, heap_alloc_new' _ _ rfl⟩
theorem Ans.alloc {w wr : World} (h : Ans w wr) (o : Obj) : Ans w (wr.alloc o) := ⟨h.1.alloc h.1.size o, blk_alloc h.2 o⟩
theorem Ans.cells {w wr : World} (h : Ans w wr) : (wr.cell? ⟨w.heap.size, 0, none⟩ = some (.int .i64 0) ∧ wr.cell? ⟨w.heap.size, 1, none⟩ = some (.string ⟨#[]⟩) ∧ wr.cell? ⟨w.heap.size, 2, none⟩ = some (.int .i64 0) ∧ wr.cell? ⟨w.heap.size, 3, none⟩ = some (.int .i64 0)) ∧ (wr.frozen? ⟨w.heap.size, 0, none⟩ = false ∧ wr.frozen? ⟨w.heap.size, 1, none⟩ = false ∧ wr.frozen? ⟨w.heap.size, 2, none⟩ = false ∧ wr.frozen? ⟨w.heap.size, 3, none⟩ = false) :=
 ⟨⟨blk_cell h.2 0, blk_cell h.2 1, blk_cell h.2 2, blk_cell h.2 3⟩, blk_frozen h.2 0, blk_frozen h.2 1, blk_frozen h.2 2, blk_frozen h.2 3⟩
theorem Ans.set {w wr : World} (h : Below w.heap.size w wr) (j : Nat) (v : Value) : Below w.heap.size w (wr.setCell ⟨w.heap.size, j, none⟩ v) := h.setCell (p := ⟨w.heap.size, j, none⟩) (Nat.le_refl _) v
theorem conv_c (w : World) (c : UInt8) : (convert 44 9 (.slice (some ⟨w.heap.size, 0, none⟩) 1 1)).run Tryz.prog (w.alloc (.cells #[.int .u8 (c.toNat : Int)] 5)) = .ok (.string ⟨#[c]⟩) (w.alloc (.cells #[.int .u8 (c.toNat : Int)] 5)) :=
 run_convert_bytes_back (P := Tryz.prog) _ 44 9 5 ⟨w.heap.size, 0, none⟩ 1 [c] Tryz.underlying44 Tryz.underlying5 Tryz.underlying9 fun j hj => by
  have : j = 0 := by simp at hj; omega
  subst this
  exact cell_one_new w _ 5 0 _ rfl
theorem nil_toL : (⟨#[]⟩ : ByteArray).toList = [] := by rw [ByteArray.toList_eq]
theorem app_c (x : ByteArray) (c : UInt8) : (x ++ (⟨#[c]⟩ : ByteArray)).toList = x.toList ++ [c] := by simp [ByteArray.toList_eq]
theorem app_s (x : ByteArray) (c : UInt8) : (x ++ (⟨#[c]⟩ : ByteArray)).size = x.size + 1 := by rw [← toL_len, app_c]; simp [toL_len]
theorem ne_byte {c d : UInt8} (h : c ≠ d) : ¬ (c.toNat : Int) = (d.toNat : Int) := fun e => h (UInt8.toNat_inj.1 (Int.ofNat.inj e))
set_option maxRecDepth 100000 in
set_option maxHeartbeats 1000000 in
theorem quoted_r (s : ByteArray) (k : Nat) (w : World) (hs : s.size ≤ 8192) (hk : k < s.size) : Calls Tryz.prog 27 #[.string s, .int .i64 (k : Nat)] w (TokP k (textT s.toList k) w) := by
 obtain ⟨w1, hw1⟩ : ∃ w1, w1 = w.alloc (.cells #[.int .i64 0, .string ⟨#[]⟩, .int .i64 0, .int .i64 0] 36) := ⟨_, rfl⟩
 have HA1 : Hid (Ans w w1) := hide (by rw [hw1]; exact Ans.new w)
 go_enter Tryz.func27, Tryz.ntmps27
 go_wp2
 rw [← hw1]
 clear hw1
 go_loopw [7, 8] (fun v i wr => ∃ j : Nat, k + 1 ≤ j ∧ j ≤ s.size ∧ i = .int .i64 j ∧ ∃ x : ByteArray, v = .string x ∧ x.size ≤ j ∧ Hid (TxtAt s.toList (k + 1) j x.toList) ∧ Hid (Ans w wr)) (fun _ i _ => s.size - (intOf i).toNat)
 case atStart => exact ⟨k + 1, by omega, by omega, by go_num, ⟨#[]⟩, rfl, Nat.zero_le _, hide (by rw [nil_toL]; exact TxtAt.start _ _), HA1⟩
 case round =>
  obtain ⟨j, hkj, hj, rfl, x, rfl, hxs, hT, hA⟩ := hrel
  by_cases hlt : j < s.size
  ·have hgc := toL_get s j hlt
   by_cases hq : s[j] = 34
   ·have hb1 : ((s[j].toNat : Int) != 34) = false := by rw [hq]; rfl
    have hcl := (unhide hT).close (by rw [hgc, hq])
    have hn1 : k + 1 + (j + 1 - (k + 1)) = j + 1 := by omega
    have HYt := hide (textT_ok hcl)
    rw [hn1, toL_len] at HYt
    obtain ⟨⟨c0, c1, c2, c3⟩, f0, f1, f2, f3⟩ := (unhide hA).cells
    by_cases h256 : 256 < x.size
    ·have HY : Hid (textT s.toList k = .inl k) := hide (by rw [unhide HYt, if_pos h256])
     have hx6 : (256 : Int) < (x.size : Int) := by omega
     clear hcl HYt hgc hT hq
     go_wp2
     refine bodyPost_ret (v := .tuple #[.agg #[.int .i64 0, .string ⟨#[]⟩, .int .i64 0, .int .i64 0], .int .i64 (k : Int), .int .i64 (k : Int)]) (by simp [results, Tryz.results27, go_sem, *]) rfl ?_
     exact TokP.bad (unhide HY) (Ans.set (Ans.set (Ans.set (Ans.set (unhide hA).1 _ _) _ _) _ _) _ _)
    ·have HY : Hid (textT s.toList k = .inr (j + 1, ⟨3, x.toList, 0, k⟩)) := hide (by rw [unhide HYt, if_neg h256])
     have hx6 : ¬ (256 : Int) < (x.size : Int) := by omega
     clear hcl HYt hgc hT hq
     go_wp2
     refine bodyPost_ret (v := .tuple #[.agg #[.int .i64 3, .string x, .int .i64 0, .int .i64 (k : Int)], .int .i64 ((j + 1 : Nat) : Int), .int .i64 (-1)]) (by simp [results, Tryz.results27, go_sem, *]) rfl ?_
     exact TokP.good (unhide HY) (by unfold tokV; rw [ba_of]) (Ans.set (Ans.set (Ans.set (Ans.set (unhide hA).1 _ _) _ _) _ _) _ _)
   ·have hb1 : ((s[j].toNat : Int) != 34) = true := by simpa using ne_byte hq
    by_cases h92 : s[j] = 92
    ·have hb2 : ((s[j].toNat : Int) == 92) = true := by rw [h92]; rfl
     by_cases hend : j + 1 = s.size
     ·have HY : Hid (textT s.toList k = .inl j) := hide (by
       have := textT_bad ((unhide hT).bad hgc (by rw [h92]; decide) hq (by unfold escF; rw [if_pos (by rw [hgc, h92]), List.getElem?_eq_none (by rw [toL_len]; omega)]; simp))
       rw [this]; congr 1; omega)
      have hei : ((j : Int) + 1 == (s.size : Int)) = true := by simp; omega
      obtain ⟨⟨c0, c1, c2, c3⟩, f0, f1, f2, f3⟩ := (unhide hA).cells
      clear hgc hT hq h92 hend
      go_wp2
      refine bodyPost_ret (v := .tuple #[.agg #[.int .i64 0, .string ⟨#[]⟩, .int .i64 0, .int .i64 0], .int .i64 (k : Int), .int .i64 (j : Int)]) (by simp [results, Tryz.results27, go_sem, *]) rfl ?_
      exact TokP.bad (unhide HY) (Ans.set (Ans.set (Ans.set (Ans.set (unhide hA).1 _ _) _ _) _ _) _ _)
     ·have hlt2 : j + 1 < s.size := by omega
      have hgd := toL_get s (j + 1) hlt2
      have hei : ((j : Int) + 1 == (s.size : Int)) = false := by rw [beq_eq_false_iff_ne]; omega
      have hesc : escF s.toList j = escC s[j + 1] := by
       unfold escF escC
       rw [if_pos (by rw [hgc, h92]), hgd]
       simp
      have hji : (j : Int) + 1 < (s.size : Int) := by omega
      have htn : ((j : Int) + 1).toNat = j + 1 := by omega
      by_cases e1 : s[j + 1] = 110
      ·have g1 : ((s[j + 1].toNat : Int) != 110) = false := by rw [e1]; rfl
       have g2 : ((s[j + 1].toNat : Int) == 110) = true := by rw [e1]; rfl
       have HT2 : Hid (TxtAt s.toList (k + 1) (j + 2) (x ++ (⟨#[10]⟩ : ByteArray)).toList) := hide (by rw [app_c]; exact (unhide hT).esc (by rw [hesc]; simp [escC, e1]))
       have hcv := conv_c wr (10 : UInt8)
       have HA2 := hide ((unhide hA).alloc (.cells #[.int .u8 ((10 : UInt8).toNat : Int)] 5))
       have hxs2 := app_s x 10
       have hcv2 : (convert 44 9 (.slice (some ⟨wr.heap.size, 0, none⟩) 1 1)).run Tryz.prog (wr.alloc (.cells #[.int .u8 10] 5)) = .ok (.string ⟨#[10]⟩) (wr.alloc (.cells #[.int .u8 10] 5)) := hcv
       have HA3 : Hid (Ans w (wr.alloc (.cells #[.int .u8 10] 5))) := HA2
       clear hcv HA2 hgc hgd hesc hT hA hq h92 e1 hend
       go_wp2
       go_roundw
       case rel => exact ⟨j + 2, by omega, by omega, by go_num, _, rfl, by omega, HT2, HA3⟩
       case measure => simp [intOf]; omega
      ·have g1 : ((s[j + 1].toNat : Int) != 110) = true := by simpa using ne_byte e1
       have g2 : ((s[j + 1].toNat : Int) == 110) = false := by simpa using ne_byte e1
       by_cases e2 : s[j + 1] = 34
       ·have g3 : ((s[j + 1].toNat : Int) != 34) = false := by rw [e2]; rfl
        have HT2 : Hid (TxtAt s.toList (k + 1) (j + 2) (x ++ (⟨#[s[j + 1]]⟩ : ByteArray)).toList) := hide (by rw [app_c]; exact (unhide hT).esc (by rw [hesc]; simp [escC, e2]))
        have hcv := conv_c wr s[j + 1]
        have HA2 := hide ((unhide hA).alloc (.cells #[.int .u8 (s[j + 1].toNat : Int)] 5))
        have hxs2 := app_s x s[j + 1]
        clear hgc hgd hesc hT hA hq h92 e1 e2 hend
        go_wp2
        go_roundw
        case rel => exact ⟨j + 2, by omega, by omega, by go_num, _, rfl, by omega, HT2, HA2⟩
        case measure => simp [intOf]; omega
       ·have g3 : ((s[j + 1].toNat : Int) != 34) = true := by simpa using ne_byte e2
        by_cases e3 : s[j + 1] = 92
        ·have g4 : ((s[j + 1].toNat : Int) != 92) = false := by rw [e3]; rfl
         have HT2 : Hid (TxtAt s.toList (k + 1) (j + 2) (x ++ (⟨#[s[j + 1]]⟩ : ByteArray)).toList) := hide (by rw [app_c]; exact (unhide hT).esc (by rw [hesc]; simp [escC, e3]))
         have hcv := conv_c wr s[j + 1]
         have HA2 := hide ((unhide hA).alloc (.cells #[.int .u8 (s[j + 1].toNat : Int)] 5))
         have hxs2 := app_s x s[j + 1]
         clear hgc hgd hesc hT hA hq h92 e1 e2 e3 hend
         go_wp2
         go_roundw
         case rel => exact ⟨j + 2, by omega, by omega, by go_num, _, rfl, by omega, HT2, HA2⟩
         case measure => simp [intOf]; omega
        ·have g4 : ((s[j + 1].toNat : Int) != 92) = true := by simpa using ne_byte e3
         have HY : Hid (textT s.toList k = .inl j) := hide (by
          have := textT_bad ((unhide hT).bad hgc (by rw [h92]; decide) hq (by rw [hesc]; simp [escC, e1, e2, e3]))
          rw [this]; congr 1; omega)
         obtain ⟨⟨c0, c1, c2, c3⟩, f0, f1, f2, f3⟩ := (unhide hA).cells
         clear hgc hgd hesc hT hq h92 e1 e2 e3 hend
         go_wp2
         refine bodyPost_ret (v := .tuple #[.agg #[.int .i64 0, .string ⟨#[]⟩, .int .i64 0, .int .i64 0], .int .i64 (k : Int), .int .i64 (j : Int)]) (by simp [results, Tryz.results27, go_sem, *]) rfl ?_
         exact TokP.bad (unhide HY) (Ans.set (Ans.set (Ans.set (Ans.set (unhide hA).1 _ _) _ _) _ _) _ _)
    ·have hb2 : ((s[j].toNat : Int) == 92) = false := by simpa using ne_byte h92
     cases hp : isPln s[j] with
     | true =>
       have HT2 : Hid (TxtAt s.toList (k + 1) (j + 1) (x ++ (⟨#[s[j]]⟩ : ByteArray)).toList) := hide (by rw [app_c]; exact (unhide hT).one hgc hp)
       have hb3 : 32 ≤ (s[j].toNat : Int) ∧ (s[j].toNat : Int) ≤ 126 := by simp [isPln, plnZ] at hp; omega
       have hb4 : ¬ (s[j].toNat : Int) < 32 := by omega
       have hb5 : ¬ 126 < (s[j].toNat : Int) := by omega
       have hcv := conv_c wr s[j]
       have HA2 := hide ((unhide hA).alloc (.cells #[.int .u8 (s[j].toNat : Int)] 5))
       have hxs2 := app_s x s[j]
       clear hp hq h92 hgc hT hA
       go_wp2
       go_roundw
       case rel => exact ⟨j + 1, by omega, by omega, by go_num, _, rfl, by omega, HT2, HA2⟩
       case measure => simp [intOf]; omega
     | false =>
       have HY : Hid (textT s.toList k = .inl j) := hide (by
        have := textT_bad ((unhide hT).bad hgc hp hq (by unfold escF; rw [if_neg (by rw [hgc]; simpa using h92)]))
        rw [this]; congr 1; omega)
       have hb3 : (decide ((s[j].toNat : Int) < 32) || decide (126 < (s[j].toNat : Int))) = true := by
        have n1 := ne_byte hq
        have n2 := ne_byte h92
        simp [isPln, plnZ] at hp
        by_cases h1 : (s[j].toNat : Int) < 32
        ·simp [h1]
        ·simp only [decide_eq_false h1, Bool.false_or, decide_eq_true_eq]
         by_cases h2 : (s[j].toNat : Int) ≤ 126
         ·exfalso
          have n1' : ¬ s[j].toNat = 34 := fun e => n1 (by rw [e]; rfl)
          have n2' : ¬ s[j].toNat = 92 := fun e => n2 (by rw [e]; rfl)
          omega
         ·omega
       obtain ⟨⟨c0, c1, c2, c3⟩, f0, f1, f2, f3⟩ := (unhide hA).cells
       clear hgc hT hq h92 hp
       by_cases hlo : (s[j].toNat : Int) < 32
       ·go_wp2
        refine bodyPost_ret (v := .tuple #[.agg #[.int .i64 0, .string ⟨#[]⟩, .int .i64 0, .int .i64 0], .int .i64 (k : Int), .int .i64 (j : Int)]) (by simp [results, Tryz.results27, go_sem, *]) rfl ?_
        exact TokP.bad (unhide HY) (Ans.set (Ans.set (Ans.set (Ans.set (unhide hA).1 _ _) _ _) _ _) _ _)
       ·have hhi : 126 < (s[j].toNat : Int) := by simpa [hlo] using hb3
        go_wp2
        refine bodyPost_ret (v := .tuple #[.agg #[.int .i64 0, .string ⟨#[]⟩, .int .i64 0, .int .i64 0], .int .i64 (k : Int), .int .i64 (j : Int)]) (by simp [results, Tryz.results27, go_sem, *]) rfl ?_
        exact TokP.bad (unhide HY) (Ans.set (Ans.set (Ans.set (Ans.set (unhide hA).1 _ _) _ _) _ _) _ _)
  ·have HY : Hid (textT s.toList k = .inl s.size) := hide (by
    have := textT_bad ((unhide hT).out (by rw [toL_len]; omega))
    rw [this]; congr 1; omega)
   have hlt2 : ¬ (j : Int) < (s.size : Int) := by omega
   obtain ⟨⟨c0, c1, c2, c3⟩, f0, f1, f2, f3⟩ := (unhide hA).cells
   clear hT
   go_wp2
   refine bodyPost_ret (v := .tuple #[.agg #[.int .i64 0, .string ⟨#[]⟩, .int .i64 0, .int .i64 0], .int .i64 (k : Int), .int .i64 (s.size : Int)]) (by simp [results, Tryz.results27, go_sem, *]) rfl ?_
   exact TokP.bad (unhide HY) (Ans.set (Ans.set (Ans.set (Ans.set (unhide hA).1 _ _) _ _) _ _) _ _)
open Go.RowKit Lx
def Lx.nameT (l : List UInt8) (k : Nat) : Sum Nat (Nat × Tok) :=
 if 24 < runEnd isNam l k - k then .inl k else .inr (runEnd isNam l k, ⟨nmK (sub l k (runEnd isNam l k)), sub l k (runEnd isNam l k), 0, k⟩)
def Lx.markT (l : List UInt8) (k : Nat) : Sum Nat (Nat × Tok) :=
 if mLen (l.drop k) = 0 then .inl k else .inr (k + mLen (l.drop k), ⟨5, sub l k (k + mLen (l.drop k)), 0, k⟩)
def Lx.tokT (l : List UInt8) (k : Nat) (c : UInt8) : Sum Nat (Nat × Tok) :=
 if isLet c = true then nameT l k else if isDig c = true then numT l k else if c = 34 then textT l k else markT l k
theorem Lx.noB_nam (l : List UInt8) (k : Nat) : noB (sub l k (runEnd isNam l k)) = true := by
 rw [noB, List.all_eq_true]
 intro c hc
 have := run_sub_all isNam l k c hc
 simp only [bne_iff_ne, ne_eq]
 rintro rfl
 revert this
 decide
theorem Lx.two_tab : ((List.range 256).all fun n => hit (padS [UInt8.ofNat n, 32]) twoL == false) = true := by kernel_rfl
theorem Lx.one_tab : ((List.range 256).all fun n => (decide (32 < n) && decide (n < 127) && inF [UInt8.ofNat n] oneL) == (decide (mTab n = 1) || (decide (mTab n = 2) && !decide (n = 124)))) = true := by kernel_rfl
theorem Lx.in_two (c d : UInt8) (hc : c ≠ 32) : inF [c, d] twoL = isPr [c, d] := by
 by_cases hd : d = 32
 ·subst hd
  have h1 := List.all_eq_true.1 two_tab c.toNat (by simp; exact c.toNat_lt)
  have h2 : hit (padS [c, 32]) twoL = false := by simpa using h1
  have h3 : isPr [c, 32] = false := by
   cases h : isPr [c, 32] with
   | false => rfl
   | true => simp [isPr, pairList] at h
  unfold inF
  rw [h2, h3]; rfl
 ·exact in_join [c, d] (by simp [noB, hc, hd]) pairList (by decide) (by decide)
theorem Lx.in_one (c : UInt8) : (decide (32 < c.toNat) && decide (c.toNat < 127) && inF [c] oneL) = (decide (mTab c.toNat = 1) || (decide (mTab c.toNat = 2) && !decide (c.toNat = 124))) := by
 have h1 := List.all_eq_true.1 one_tab c.toNat (by simp; exact c.toNat_lt)
 simpa using h1
theorem Lx.pr_tab (c d : UInt8) (h : isPr [c, d] = true) : mTab c.toNat = 2 := by
 simp [isPr, pairList] at h
 rcases h with h | h | h | h | h | h | h | h | h | h | h | h | h <;> (rw [h.1]; decide)
theorem Lx.mlen_two (c d : UInt8) (r : List UInt8) (h : isPr [c, d] = true) : mLen (c :: d :: r) = 2 := by
 unfold mLen
 simp [pr_tab c d h, h]
theorem Lx.mlen_one (c : UInt8) (r : List UInt8) (h : ∀ d r', r = d :: r' → isPr [c, d] = false) : mLen (c :: r) = if (decide (mTab c.toNat = 1) || (decide (mTab c.toNat = 2) && !decide (c.toNat = 124))) = true then 1 else 0 := by
 have hp : isPr ((c :: r).take 2) = false := by
  cases r with
  | nil => cases hx : isPr ((c :: []).take 2) with
    | false => rfl
    | true => simp [isPr, pairList] at hx
  | cons d r' => exact h d r' rfl
 unfold mLen
 rw [hp]
 have e : (c = 124) ↔ c.toNat = 124 := ⟨fun e => by rw [e]; rfl, fun e => UInt8.toNat_inj.1 e⟩
 by_cases h2 : mTab c.toNat = 2
 ·by_cases h3 : c = 124
  ·simp [h2, h3]
   decide
  ·have h4 : ¬ c.toNat = 124 := fun x => h3 (e.2 x)
   simp [h2, h3, h4]
 ·by_cases h1 : mTab c.toNat = 1
  ·simp [h1]
  ·simp [h1, h2]
open Go.RowKit Lx
theorem Ans.below {w w1 w2 : World} (h : Ans w w1) (k : Below w1.heap.size w1 w2) : Ans w w2 :=
 ⟨h.1.trans (k.mono h.1.size), (k.block w.heap.size (blk_lt h.2)).trans h.2⟩
theorem Ans.store {w wr : World} (h : Ans w wr) (a b c d : Value) : Below w.heap.size w ((((wr.setCell ⟨w.heap.size, 0, none⟩ a).setCell ⟨w.heap.size, 1, none⟩ b).setCell ⟨w.heap.size, 2, none⟩ c).setCell ⟨w.heap.size, 3, none⟩ d) := Ans.set (Ans.set (Ans.set (Ans.set h.1 _ _) _ _) _ _) _ _
set_option maxRecDepth 100000 in
set_option maxHeartbeats 1000000 in
theorem token_name (s : ByteArray) (k : Nat) (w : World) (hs : s.size ≤ 8192) (hk : k < s.size) (hc : isLet s[k] = true) : Calls Tryz.prog 18 #[.string s, .int .i64 (k : Nat)] w (TokP k (nameT s.toList k) w) := by
 obtain ⟨w1, hw1⟩ : ∃ w1, w1 = w.alloc (.cells #[.int .i64 0, .string ⟨#[]⟩, .int .i64 0, .int .i64 0] 36) := ⟨_, rfl⟩
 have HA : Hid (Ans w w1) := hide (by rw [hw1]; exact Ans.new w)
 have HL : Hid (∀ w, Calls Tryz.prog 23 #[.int .u8 s[k].toNat] w fun e w' => e = .returned (.bool true) ∧ w = w') := hide fun w => by have := LetR_b s[k] w; rw [hc] at this; exact this
 have hE1 := re_le isNam s.toList k (by rw [toL_len]; omega)
 have hE2 := re_gt isNam s.toList k s[k] (toL_get s k hk) (by unfold isNam; rw [hc]; rfl)
 rw [toL_len] at hE1
 have HWd : Hid (∀ w, Calls Tryz.prog 24 #[.string s, .int .i64 (k : Nat)] w fun e w' => e = .returned (.int .i64 ((runEnd isNam s.toList k : Nat) : Int)) ∧ w = w') := hide fun w => word_r s k w hs (by omega)
 have HNm : Hid (nameT s.toList k = if 24 < runEnd isNam s.toList k - k then .inl k else .inr (runEnd isNam s.toList k, ⟨nmK (sub s.toList k (runEnd isNam s.toList k)), sub s.toList k (runEnd isNam s.toList k), 0, k⟩)) := hide rfl
 have HIn : Hid (∀ l w, l.size ≤ 100000 → Calls Tryz.prog 19 #[.string (s.extract k (runEnd isNam s.toList k)), .string l] w fun e w' => e = .returned (.bool (inF (s.extract k (runEnd isNam s.toList k)).toList l.toList)) ∧ w = w') := hide fun l w hl => In_r _ l w (by simp; omega) hl
 have HIw : Hid (inF (s.extract k (runEnd isNam s.toList k)).toList wordsL = isWd (sub s.toList k (runEnd isNam s.toList k))) := hide (by rw [ext_toL]; exact in_words _ (noB_nam _ _))
 have HEx : Hid (s.extract k (runEnd isNam s.toList k) = ⟨(sub s.toList k (runEnd isNam s.toList k)).toArray⟩) := hide (by rw [← ext_toL, ba_of])
 generalize runEnd isNam s.toList k = E at *
 clear hc
 by_cases h24 : 24 < E - k
 ·have HY : Hid (nameT s.toList k = .inl k) := hide (by rw [unhide HNm, if_pos h24])
  have hei : 24 < (E : Int) - (k : Int) := by omega
  clear HNm HIn HIw HEx
  go_enter Tryz.func18, Tryz.ntmps18
  go_wp2_with (first | (go_at_call 23; refine (unhide HL _).mono ?_; rintro e w' ⟨rfl, rfl⟩) | (go_at_call 24; refine (unhide HWd _).mono ?_; rintro e w' ⟨rfl, rfl⟩))
  refine bodyPost_ret (v := .tuple #[.agg #[.int .i64 0, .string ⟨#[]⟩, .int .i64 0, .int .i64 0], .int .i64 (k : Int), .int .i64 (k : Int)]) (by simp [results, Tryz.results18, go_sem, *]) rfl ?_
  exact TokP.bad (unhide HY) (tok_b _ _ _ _ _)
 ·have hei : ¬ 24 < (E : Int) - (k : Int) := by omega
  have hle1 : (k : Int) ≤ (E : Int) := by omega
  have hle2 : (E : Int) ≤ (s.size : Int) := by omega
  go_enter Tryz.func18, Tryz.ntmps18
  go_wp2_with (first | (go_at_call 23; refine (unhide HL _).mono ?_; rintro e w' ⟨rfl, rfl⟩) | (go_at_call 24; refine (unhide HWd _).mono ?_; rintro e w' ⟨rfl, rfl⟩) | (go_at_call 19; refine (unhide HIn _ _ (by decide)).mono ?_; rintro e w' ⟨rfl, rfl⟩; generalize hbb : inF (s.extract k E).toList _ = bb; have HBB := hide hbb; clear hbb))
  ·have hb : bb = true := by assumption
   have hw : isWd (sub s.toList k E) = true := by
    rw [← unhide HIw, ← hb]
    refine Eq.trans (congrArg (inF _) ?_) (unhide HBB)
    kernel_rfl
   have HY : Hid (nameT s.toList k = .inr (E, ⟨4, sub s.toList k E, 0, k⟩)) := hide (by rw [unhide HNm, if_neg h24]; unfold nmK; rw [if_pos hw])
   clear HBB
   refine bodyPost_ret (v := .tuple #[.agg #[.int .i64 4, .string (s.extract k E), .int .i64 0, .int .i64 (k : Int)], .int .i64 (E : Int), .int .i64 (-1)]) (by simp [results, Tryz.results18, go_sem, *]) rfl ?_
   exact TokP.good (unhide HY) (by unfold tokV; rw [unhide HEx]) (tok_b _ _ _ _ _)
  ·have hb : bb = false := by assumption
   have hw : isWd (sub s.toList k E) = false := by
    rw [← unhide HIw, ← hb]
    refine Eq.trans (congrArg (inF _) ?_) (unhide HBB)
    kernel_rfl
   have HY : Hid (nameT s.toList k = .inr (E, ⟨1, sub s.toList k E, 0, k⟩)) := hide (by rw [unhide HNm, if_neg h24]; unfold nmK; rw [if_neg (by rw [hw]; decide)])
   clear HBB
   refine bodyPost_ret (v := .tuple #[.agg #[.int .i64 1, .string (s.extract k E), .int .i64 0, .int .i64 (k : Int)], .int .i64 (E : Int), .int .i64 (-1)]) (by simp [results, Tryz.results18, go_sem, *]) rfl ?_
   exact TokP.good (unhide HY) (by unfold tokV; rw [unhide HEx]) (tok_b _ _ _ _ _)
set_option maxRecDepth 100000 in
set_option maxHeartbeats 1000000 in
theorem token_num (s : ByteArray) (k : Nat) (w : World) (hs : s.size ≤ 8192) (hk : k < s.size) (hc : isLet s[k] = false) (hd : isDig s[k] = true) : Calls Tryz.prog 18 #[.string s, .int .i64 (k : Nat)] w (TokP k (numT s.toList k) w) := by
 obtain ⟨w1, hw1⟩ : ∃ w1, w1 = w.alloc (.cells #[.int .i64 0, .string ⟨#[]⟩, .int .i64 0, .int .i64 0] 36) := ⟨_, rfl⟩
 have HA : Hid (Ans w w1) := hide (by rw [hw1]; exact Ans.new w)
 have HL : Hid (∀ w, Calls Tryz.prog 23 #[.int .u8 s[k].toNat] w fun e w' => e = .returned (.bool false) ∧ w = w') := hide fun w => by have := LetR_b s[k] w; rw [hc] at this; exact this
 have HG : Hid (∀ w, Calls Tryz.prog 25 #[.int .u8 s[k].toNat] w fun e w' => e = .returned (.bool true) ∧ w = w') := hide fun w => by have := digit_b s[k] w; rw [hd] at this; exact this
 have HC : Hid (Calls Tryz.prog 26 #[.string s, .int .i64 (k : Nat)] w1 (TokP k (numT s.toList k) w1)) := hide (number_r s k w1 hs hk)
 go_enter Tryz.func18, Tryz.ntmps18
 go_wp2_with (first | (go_at_call 23; refine (unhide HL _).mono ?_; rintro e w' ⟨rfl, rfl⟩) | (go_at_call 25; refine (unhide HG _).mono ?_; rintro e w' ⟨rfl, rfl⟩) | fail)
 rw [← hw1]
 refine (unhide HC).mono ?_
 rintro e w2 ⟨hb, he⟩
 have HA2 := hide ((unhide HA).below hb)
 obtain ⟨⟨c0, c1, c2, c3⟩, f0, f1, f2, f3⟩ := (unhide HA2).cells
 clear hb HC hw1
 cases hr : numT s.toList k with
 | inl p =>
   rw [hr] at he
   subst he
   have HR := hide hr
   clear hr
   unfold tok0
   go_wp2
   refine bodyPost_ret (v := .tuple #[.agg #[.int .i64 0, .string ⟨#[]⟩, .int .i64 0, .int .i64 0], .int .i64 (k : Int), .int .i64 (p : Int)]) (by simp [results, Tryz.results18, go_sem, *]) rfl ?_
   exact TokP.bad (unhide HR) ((unhide HA2).store _ _ _ _)
 | inr q =>
   obtain ⟨k', t⟩ := q
   rw [hr] at he
   simp only at he
   subst he
   have HR := hide hr
   clear hr
   unfold tokV
   go_wp2
   refine bodyPost_ret (v := .tuple #[.agg #[.int .i64 t.kind, .string ⟨t.text.toArray⟩, .int .i64 t.num, .int .i64 t.pos], .int .i64 (k' : Int), .int .i64 (-1)]) (by simp [results, Tryz.results18, go_sem, *]) rfl ?_
   exact TokP.good (unhide HR) rfl ((unhide HA2).store _ _ _ _)
set_option maxRecDepth 100000 in
set_option maxHeartbeats 1000000 in
theorem token_text (s : ByteArray) (k : Nat) (w : World) (hs : s.size ≤ 8192) (hk : k < s.size) (hc : isLet s[k] = false) (hd : isDig s[k] = false) (hq : s[k] = 34) : Calls Tryz.prog 18 #[.string s, .int .i64 (k : Nat)] w (TokP k (textT s.toList k) w) := by
 obtain ⟨w1, hw1⟩ : ∃ w1, w1 = w.alloc (.cells #[.int .i64 0, .string ⟨#[]⟩, .int .i64 0, .int .i64 0] 36) := ⟨_, rfl⟩
 have HA : Hid (Ans w w1) := hide (by rw [hw1]; exact Ans.new w)
 have HL : Hid (∀ w, Calls Tryz.prog 23 #[.int .u8 s[k].toNat] w fun e w' => e = .returned (.bool false) ∧ w = w') := hide fun w => by have := LetR_b s[k] w; rw [hc] at this; exact this
 have HG : Hid (∀ w, Calls Tryz.prog 25 #[.int .u8 s[k].toNat] w fun e w' => e = .returned (.bool false) ∧ w = w') := hide fun w => by have := digit_b s[k] w; rw [hd] at this; exact this
 have hb34 : ((s[k].toNat : Int) == 34) = true := by rw [hq]; rfl
 clear hq
 have HC : Hid (Calls Tryz.prog 27 #[.string s, .int .i64 (k : Nat)] w1 (TokP k (textT s.toList k) w1)) := hide (quoted_r s k w1 hs hk)
 go_enter Tryz.func18, Tryz.ntmps18
 go_wp2_with (first | (go_at_call 23; refine (unhide HL _).mono ?_; rintro e w' ⟨rfl, rfl⟩) | (go_at_call 25; refine (unhide HG _).mono ?_; rintro e w' ⟨rfl, rfl⟩) | fail)
 rw [← hw1]
 refine (unhide HC).mono ?_
 rintro e w2 ⟨hb, he⟩
 have HA2 := hide ((unhide HA).below hb)
 obtain ⟨⟨c0, c1, c2, c3⟩, f0, f1, f2, f3⟩ := (unhide HA2).cells
 clear hb HC hw1
 cases hr : textT s.toList k with
 | inl p =>
   rw [hr] at he
   subst he
   have HR := hide hr
   clear hr
   unfold tok0
   go_wp2
   refine bodyPost_ret (v := .tuple #[.agg #[.int .i64 0, .string ⟨#[]⟩, .int .i64 0, .int .i64 0], .int .i64 (k : Int), .int .i64 (p : Int)]) (by simp [results, Tryz.results18, go_sem, *]) rfl ?_
   exact TokP.bad (unhide HR) ((unhide HA2).store _ _ _ _)
 | inr q =>
   obtain ⟨k', t⟩ := q
   rw [hr] at he
   simp only at he
   subst he
   have HR := hide hr
   clear hr
   unfold tokV
   go_wp2
   refine bodyPost_ret (v := .tuple #[.agg #[.int .i64 t.kind, .string ⟨t.text.toArray⟩, .int .i64 t.num, .int .i64 t.pos], .int .i64 (k' : Int), .int .i64 (-1)]) (by simp [results, Tryz.results18, go_sem, *]) rfl ?_
   exact TokP.good (unhide HR) rfl ((unhide HA2).store _ _ _ _)
open Go.RowKit Lx
theorem ext_two (s : ByteArray) (k : Nat) (h : k + 1 < s.size) : (s.extract k (k + 2)).toList = [s[k], s[k + 1]] := by
 rw [ext_toL]
 unfold sub
 rw [drop_cons_of _ k s[k] (toL_get s k (by omega)), drop_cons_of _ (k + 1) s[k + 1] (toL_get s (k + 1) h), show k + 2 - k = 2 by omega]
 rfl
theorem ext_one (s : ByteArray) (k : Nat) (h : k < s.size) : (s.extract k (k + 1)).toList = [s[k]] := by
 rw [ext_toL]
 unfold sub
 rw [drop_cons_of _ k s[k] (toL_get s k h), show k + 1 - k = 1 by omega]
 rfl
theorem drop_two (s : ByteArray) (k : Nat) (h : k + 1 < s.size) : s.toList.drop k = s[k] :: s[k + 1] :: s.toList.drop (k + 2) := by
 rw [drop_cons_of _ k s[k] (toL_get s k (by omega)), drop_cons_of _ (k + 1) s[k + 1] (toL_get s (k + 1) h)]
theorem drop_one (s : ByteArray) (k : Nat) (h : k < s.size) : s.toList.drop k = s[k] :: s.toList.drop (k + 1) := drop_cons_of _ k s[k] (toL_get s k h)
theorem ext_arr (s : ByteArray) (a b : Nat) : s.extract a b = ⟨(sub s.toList a b).toArray⟩ := by rw [← ext_toL, ba_of]
set_option maxRecDepth 100000 in
set_option maxHeartbeats 1000000 in
theorem token_mark (s : ByteArray) (k : Nat) (w : World) (hs : s.size ≤ 8192) (hk : k < s.size) (hc : isLet s[k] = false) (hd : isDig s[k] = false) (hq : s[k] ≠ 34) (h32 : s[k] ≠ 32) : Calls Tryz.prog 18 #[.string s, .int .i64 (k : Nat)] w (TokP k (markT s.toList k) w) := by
 have HL : Hid (∀ w, Calls Tryz.prog 23 #[.int .u8 s[k].toNat] w fun e w' => e = .returned (.bool false) ∧ w = w') := hide fun w => by have := LetR_b s[k] w; rw [hc] at this; exact this
 have HG : Hid (∀ w, Calls Tryz.prog 25 #[.int .u8 s[k].toNat] w fun e w' => e = .returned (.bool false) ∧ w = w') := hide fun w => by have := digit_b s[k] w; rw [hd] at this; exact this
 have hb34 : ((s[k].toNat : Int) == 34) = false := by simpa using ne_byte hq
 have HI2 : Hid (∀ (_ : k + 1 < s.size) w, Calls Tryz.prog 19 #[.string (s.extract k (k + 2)), .string ⟨#[32, 58, 61, 32, 61, 61, 32, 33, 61, 32, 60, 61, 32, 62, 61, 32, 38, 38, 32, 124, 124, 32, 60, 45, 32, 43, 43, 32, 45, 45, 32, 43, 61, 32, 45, 61, 32, 42, 61, 32]⟩] w fun e w' => e = .returned (.bool (isPr [s[k], s[k + 1]])) ∧ w = w') := hide fun hk1 w => by
  have := In_r (s.extract k (k + 2)) ⟨#[32, 58, 61, 32, 61, 61, 32, 33, 61, 32, 60, 61, 32, 62, 61, 32, 38, 38, 32, 124, 124, 32, 60, 45, 32, 43, 43, 32, 45, 45, 32, 43, 61, 32, 45, 61, 32, 42, 61, 32]⟩ w (by simp; omega) (by decide)
  rw [ext_two s k hk1, show (⟨#[32, 58, 61, 32, 61, 61, 32, 33, 61, 32, 60, 61, 32, 62, 61, 32, 38, 38, 32, 124, 124, 32, 60, 45, 32, 43, 43, 32, 45, 45, 32, 43, 61, 32, 45, 61, 32, 42, 61, 32]⟩ : ByteArray).toList = twoL by kernel_rfl, in_two _ _ h32] at this
  exact this
 have HI1 : Hid (∀ w, Calls Tryz.prog 19 #[.string (s.extract k (k + 1)), .string ⟨#[32, 40, 32, 41, 32, 91, 32, 93, 32, 123, 32, 125, 32, 44, 32, 59, 32, 58, 32, 46, 32, 61, 32, 60, 32, 62, 32, 43, 32, 45, 32, 42, 32, 47, 32, 37, 32, 33, 32, 38, 32]⟩] w fun e w' => e = .returned (.bool (inF [s[k]] oneL)) ∧ w = w') := hide fun w => by
  have := In_r (s.extract k (k + 1)) ⟨#[32, 40, 32, 41, 32, 91, 32, 93, 32, 123, 32, 125, 32, 44, 32, 59, 32, 58, 32, 46, 32, 61, 32, 60, 32, 62, 32, 43, 32, 45, 32, 42, 32, 47, 32, 37, 32, 33, 32, 38, 32]⟩ w (by simp; omega) (by decide)
  rw [ext_one s k hk, show (⟨#[32, 40, 32, 41, 32, 91, 32, 93, 32, 123, 32, 125, 32, 44, 32, 59, 32, 58, 32, 46, 32, 61, 32, 60, 32, 62, 32, 43, 32, 45, 32, 42, 32, 47, 32, 37, 32, 33, 32, 38, 32]⟩ : ByteArray).toList = oneL by kernel_rfl] at this
  exact this
 have HM : Hid (markT s.toList k = if mLen (s.toList.drop k) = 0 then .inl k else .inr (k + mLen (s.toList.drop k), ⟨5, sub s.toList k (k + mLen (s.toList.drop k)), 0, k⟩)) := hide rfl
 clear hc hd hq h32
 by_cases hpair : ∃ h : k + 1 < s.size, isPr [s[k], s[k + 1]] = true
 ·obtain ⟨hk1, hp⟩ := hpair
  have HY : Hid (markT s.toList k = .inr (k + 2, ⟨5, sub s.toList k (k + 2), 0, k⟩)) := hide (by
   rw [unhide HM, drop_two s k hk1, mlen_two _ _ _ hp]; rfl)
  have HC2 : Hid (∀ w, Calls Tryz.prog 19 #[.string (s.extract k (k + 2)), .string ⟨#[32, 58, 61, 32, 61, 61, 32, 33, 61, 32, 60, 61, 32, 62, 61, 32, 38, 38, 32, 124, 124, 32, 60, 45, 32, 43, 43, 32, 45, 45, 32, 43, 61, 32, 45, 61, 32, 42, 61, 32]⟩] w fun e w' => e = .returned (.bool true) ∧ w = w') := hide fun w => by have := unhide HI2 hk1 w; rw [hp] at this; exact this
  have hle : (k : Int) + 2 ≤ (s.size : Int) := by omega
  have HEx : Hid (s.extract k (k + 2) = ⟨(sub s.toList k (k + 2)).toArray⟩) := hide (ext_arr s k (k + 2))
  clear HI2 HI1 HM hp
  go_enter Tryz.func18, Tryz.ntmps18
  go_wp2_with (first | (go_at_call 23; refine (unhide HL _).mono ?_; rintro e w' ⟨rfl, rfl⟩) | (go_at_call 25; refine (unhide HG _).mono ?_; rintro e w' ⟨rfl, rfl⟩) | (go_at_call 19; refine (unhide HC2 _).mono ?_; rintro e w' ⟨rfl, rfl⟩))
  refine bodyPost_ret (v := .tuple #[.agg #[.int .i64 5, .string (s.extract k (k + 2)), .int .i64 0, .int .i64 (k : Int)], .int .i64 ((k + 2 : Nat) : Int), .int .i64 (-1)]) (by simp [results, Tryz.results18, go_sem, *]) rfl ?_
  exact TokP.good (unhide HY) (by unfold tokV; rw [unhide HEx]) (tok_b _ _ _ _ _)
 ·have HO : Hid (mLen (s.toList.drop k) = if (decide (32 < s[k].toNat) && decide (s[k].toNat < 127) && inF [s[k]] oneL) = true then 1 else 0) := hide (by
   rw [in_one, drop_one s k hk]
   refine mlen_one _ _ fun d r hr => ?_
   have hk1 : k + 1 < s.size := by
    have := congrArg List.length hr
    rw [List.length_drop, toL_len] at this
    simp at this
    omega
   have hd : d = s[k + 1] := by
    rw [drop_one s (k + 1) hk1] at hr
    simpa using (List.cons.inj hr).1.symm
   rw [hd]
   cases hx : isPr [s[k], s[k + 1]] with
   | false => rfl
   | true => exact absurd ⟨hk1, hx⟩ hpair)
  have HC2 : Hid (∀ (_ : k + 1 < s.size) w, Calls Tryz.prog 19 #[.string (s.extract k (k + 2)), .string ⟨#[32, 58, 61, 32, 61, 61, 32, 33, 61, 32, 60, 61, 32, 62, 61, 32, 38, 38, 32, 124, 124, 32, 60, 45, 32, 43, 43, 32, 45, 45, 32, 43, 61, 32, 45, 61, 32, 42, 61, 32]⟩] w fun e w' => e = .returned (.bool false) ∧ w = w') := hide fun hk1 w => by
   have := unhide HI2 hk1 w
   cases hx : isPr [s[k], s[k + 1]] with
   | false => rw [hx] at this; exact this
   | true => exact absurd ⟨hk1, hx⟩ hpair
  have HEx : Hid (s.extract k (k + 1) = ⟨(sub s.toList k (k + 1)).toArray⟩) := hide (ext_arr s k (k + 1))
  have HYb : Hid ((decide (32 < s[k].toNat) && decide (s[k].toNat < 127) && inF [s[k]] oneL) = false → markT s.toList k = .inl k) := hide fun h => by rw [unhide HM, unhide HO, h]; rfl
  have HYg : Hid ((decide (32 < s[k].toNat) && decide (s[k].toNat < 127) && inF [s[k]] oneL) = true → markT s.toList k = .inr (k + 1, ⟨5, sub s.toList k (k + 1), 0, k⟩)) := hide fun h => by rw [unhide HM, unhide HO, h]; rfl
  clear HI2 HM HO hpair
  by_cases h1 : 32 < s[k].toNat ∧ s[k].toNat < 127
  ·have hx1 : (32 : Int) < (s[k].toNat : Int) := by omega
   have hx2 : (s[k].toNat : Int) < 127 := by omega
   cases hin : inF [s[k]] oneL with
   | true =>
     have HY := hide (unhide HYg (by rw [decide_eq_true h1.1, decide_eq_true h1.2, hin]; rfl))
     rw [hin] at HI1
     clear HYb HYg hin
     by_cases hk1 : k + 1 < s.size
     ·have HC3 := hide (unhide HC2 hk1)
      have hle : (k : Int) + 2 ≤ (s.size : Int) := by omega
      clear HC2
      go_enter Tryz.func18, Tryz.ntmps18
      go_wp2_with (first | (go_at_call 23; refine (unhide HL _).mono ?_; rintro e w' ⟨rfl, rfl⟩) | (go_at_call 25; refine (unhide HG _).mono ?_; rintro e w' ⟨rfl, rfl⟩) | (go_at_call 19; with_reducible refine (unhide HC3 _).mono ?_; rintro e w' ⟨rfl, rfl⟩) | (go_at_call 19; with_reducible refine (unhide HI1 _).mono ?_; rintro e w' ⟨rfl, rfl⟩))
      refine bodyPost_ret (v := .tuple #[.agg #[.int .i64 5, .string (s.extract k (k + 1)), .int .i64 0, .int .i64 (k : Int)], .int .i64 ((k + 1 : Nat) : Int), .int .i64 (-1)]) (by simp [results, Tryz.results18, go_sem, *]) rfl ?_
      exact TokP.good (unhide HY) (by unfold tokV; rw [unhide HEx]) (tok_b _ _ _ _ _)
     ·have hle : ¬ (k : Int) + 2 ≤ (s.size : Int) := by omega
      clear HC2
      go_enter Tryz.func18, Tryz.ntmps18
      go_wp2_with (first | (go_at_call 23; refine (unhide HL _).mono ?_; rintro e w' ⟨rfl, rfl⟩) | (go_at_call 25; refine (unhide HG _).mono ?_; rintro e w' ⟨rfl, rfl⟩) | (go_at_call 19; with_reducible refine (unhide HI1 _).mono ?_; rintro e w' ⟨rfl, rfl⟩))
      refine bodyPost_ret (v := .tuple #[.agg #[.int .i64 5, .string (s.extract k (k + 1)), .int .i64 0, .int .i64 (k : Int)], .int .i64 ((k + 1 : Nat) : Int), .int .i64 (-1)]) (by simp [results, Tryz.results18, go_sem, *]) rfl ?_
      exact TokP.good (unhide HY) (by unfold tokV; rw [unhide HEx]) (tok_b _ _ _ _ _)
   | false =>
     have HY := hide (unhide HYb (by rw [hin, Bool.and_false]))
     rw [hin] at HI1
     clear HYb HYg hin
     by_cases hk1 : k + 1 < s.size
     ·have HC3 := hide (unhide HC2 hk1)
      have hle : (k : Int) + 2 ≤ (s.size : Int) := by omega
      clear HC2
      go_enter Tryz.func18, Tryz.ntmps18
      go_wp2_with (first | (go_at_call 23; refine (unhide HL _).mono ?_; rintro e w' ⟨rfl, rfl⟩) | (go_at_call 25; refine (unhide HG _).mono ?_; rintro e w' ⟨rfl, rfl⟩) | (go_at_call 19; with_reducible refine (unhide HC3 _).mono ?_; rintro e w' ⟨rfl, rfl⟩) | (go_at_call 19; with_reducible refine (unhide HI1 _).mono ?_; rintro e w' ⟨rfl, rfl⟩))
      refine bodyPost_ret (v := .tuple #[.agg #[.int .i64 0, .string ⟨#[]⟩, .int .i64 0, .int .i64 0], .int .i64 (k : Int), .int .i64 (k : Int)]) (by simp [results, Tryz.results18, go_sem, *]) rfl ?_
      exact TokP.bad (unhide HY) (tok_b _ _ _ _ _)
     ·have hle : ¬ (k : Int) + 2 ≤ (s.size : Int) := by omega
      clear HC2
      go_enter Tryz.func18, Tryz.ntmps18
      go_wp2_with (first | (go_at_call 23; refine (unhide HL _).mono ?_; rintro e w' ⟨rfl, rfl⟩) | (go_at_call 25; refine (unhide HG _).mono ?_; rintro e w' ⟨rfl, rfl⟩) | (go_at_call 19; with_reducible refine (unhide HI1 _).mono ?_; rintro e w' ⟨rfl, rfl⟩))
      refine bodyPost_ret (v := .tuple #[.agg #[.int .i64 0, .string ⟨#[]⟩, .int .i64 0, .int .i64 0], .int .i64 (k : Int), .int .i64 (k : Int)]) (by simp [results, Tryz.results18, go_sem, *]) rfl ?_
      exact TokP.bad (unhide HY) (tok_b _ _ _ _ _)
  ·have HY := hide (unhide HYb (by
    by_cases ha : 32 < s[k].toNat
    ·rw [decide_eq_false (fun hb => h1 ⟨ha, hb⟩)]; simp
    ·rw [decide_eq_false ha]; simp))
   have hx : ¬ (32 : Int) < (s[k].toNat : Int) ∨ ¬ (s[k].toNat : Int) < 127 := by omega
   clear HYb HYg
   by_cases hk1 : k + 1 < s.size
   ·have HC3 := hide (unhide HC2 hk1)
    have hle : (k : Int) + 2 ≤ (s.size : Int) := by omega
    clear HC2
    rcases hx with hx | hx
    ·go_enter Tryz.func18, Tryz.ntmps18
     go_wp2_with (first | (go_at_call 23; refine (unhide HL _).mono ?_; rintro e w' ⟨rfl, rfl⟩) | (go_at_call 25; refine (unhide HG _).mono ?_; rintro e w' ⟨rfl, rfl⟩) | (go_at_call 19; with_reducible refine (unhide HC3 _).mono ?_; rintro e w' ⟨rfl, rfl⟩))
     refine bodyPost_ret (v := .tuple #[.agg #[.int .i64 0, .string ⟨#[]⟩, .int .i64 0, .int .i64 0], .int .i64 (k : Int), .int .i64 (k : Int)]) (by simp [results, Tryz.results18, go_sem, *]) rfl ?_
     exact TokP.bad (unhide HY) (tok_b _ _ _ _ _)
    ·have hx0 : (32 : Int) < (s[k].toNat : Int) := by omega
     go_enter Tryz.func18, Tryz.ntmps18
     go_wp2_with (first | (go_at_call 23; refine (unhide HL _).mono ?_; rintro e w' ⟨rfl, rfl⟩) | (go_at_call 25; refine (unhide HG _).mono ?_; rintro e w' ⟨rfl, rfl⟩) | (go_at_call 19; with_reducible refine (unhide HC3 _).mono ?_; rintro e w' ⟨rfl, rfl⟩))
     refine bodyPost_ret (v := .tuple #[.agg #[.int .i64 0, .string ⟨#[]⟩, .int .i64 0, .int .i64 0], .int .i64 (k : Int), .int .i64 (k : Int)]) (by simp [results, Tryz.results18, go_sem, *]) rfl ?_
     exact TokP.bad (unhide HY) (tok_b _ _ _ _ _)
   ·have hle : ¬ (k : Int) + 2 ≤ (s.size : Int) := by omega
    clear HC2
    rcases hx with hx | hx
    ·go_enter Tryz.func18, Tryz.ntmps18
     go_wp2_with (first | (go_at_call 23; refine (unhide HL _).mono ?_; rintro e w' ⟨rfl, rfl⟩) | (go_at_call 25; refine (unhide HG _).mono ?_; rintro e w' ⟨rfl, rfl⟩))
     refine bodyPost_ret (v := .tuple #[.agg #[.int .i64 0, .string ⟨#[]⟩, .int .i64 0, .int .i64 0], .int .i64 (k : Int), .int .i64 (k : Int)]) (by simp [results, Tryz.results18, go_sem, *]) rfl ?_
     exact TokP.bad (unhide HY) (tok_b _ _ _ _ _)
    ·have hx0 : (32 : Int) < (s[k].toNat : Int) := by omega
     go_enter Tryz.func18, Tryz.ntmps18
     go_wp2_with (first | (go_at_call 23; refine (unhide HL _).mono ?_; rintro e w' ⟨rfl, rfl⟩) | (go_at_call 25; refine (unhide HG _).mono ?_; rintro e w' ⟨rfl, rfl⟩))
     refine bodyPost_ret (v := .tuple #[.agg #[.int .i64 0, .string ⟨#[]⟩, .int .i64 0, .int .i64 0], .int .i64 (k : Int), .int .i64 (k : Int)]) (by simp [results, Tryz.results18, go_sem, *]) rfl ?_
     exact TokP.bad (unhide HY) (tok_b _ _ _ _ _)
theorem token_r (s : ByteArray) (k : Nat) (w : World) (hs : s.size ≤ 8192) (hk : k < s.size) (h32 : s[k] ≠ 32) : Calls Tryz.prog 18 #[.string s, .int .i64 (k : Nat)] w (TokP k (tokT s.toList k s[k]) w) := by
 unfold tokT
 cases hc : isLet s[k] with
 | true => rw [if_pos rfl]; exact token_name s k w hs hk hc
 | false =>
   rw [if_neg (by decide)]
   cases hd : isDig s[k] with
   | true => rw [if_pos rfl]; exact token_num s k w hs hk hc hd
   | false =>
     rw [if_neg (by decide)]
     by_cases hq : s[k] = 34
     ·rw [if_pos hq]; exact token_text s k w hs hk hc hd hq
     ·rw [if_neg hq]; exact token_mark s k w hs hk hc hd hq h32
open Go.RowKit Lx
def Lx.TokOk (t : Tok) : Prop := (t.kind = 1 ∨ t.kind = 2 ∨ t.kind = 3) ∨ (t.kind = 4 ∧ noB t.text = true ∧ mkEnds t.text = false ∧ t.text.length ≤ 1000) ∨ (t.kind = 5 ∧ noB t.text = true ∧ wdEnds t.text = false ∧ t.text.length ≤ 1000)
theorem Lx.ends_eq (t : Tok) (h : TokOk t) : (decide (t.kind ≤ 3) || inF t.text endersL) = tokEnds t.kind t.text := by
 unfold tokEnds
 rcases h with h | ⟨h, h1, h2, _⟩ | ⟨h, h1, h2, _⟩
 ·rw [if_pos h, decide_eq_true (by omega)]; rfl
 ·rw [if_neg (by omega), if_pos h, in_enders _ h1, h2, h]; simp
 ·rw [if_neg (by omega), if_neg (by omega), if_pos h, in_enders _ h1, h2, h]; simp
theorem Lx.wd_len (t : List UInt8) (h : wdEnds t = true) : 3 ≤ t.length := by
 simp [wdEnds, endWords] at h
 rcases h with rfl | rfl | rfl | rfl | rfl | rfl | rfl | rfl | rfl | rfl <;> simp
theorem Lx.mk_len (t : List UInt8) (h : isWd t = true) : mkEnds t = false := by
 have : (wordList.all fun t => !mkEnds t) = true := by decide
 have := List.all_eq_true.1 this t (by simpa [isWd] using h)
 simpa using this
theorem Lx.mlen_leR (l : List UInt8) : mLen l ≤ 2 := by
 unfold mLen
 split
 ·omega
 ·split
  ·split
   ·omega
   ·split <;> omega
  ·split <;> omega
theorem Lx.pr_noB (t : List UInt8) (h : isPr t = true) : noB t = true := by
 have : (pairList.all noB) = true := by decide
 exact List.all_eq_true.1 this t (by simpa [isPr] using h)
theorem Lx.sub_le (l : List UInt8) (a b : Nat) : (sub l a b).length ≤ b - a := by unfold sub; exact List.length_take_le _ _
theorem Lx.tokT_ok {l : List UInt8} {k k' : Nat} {c : UInt8} {t : Tok} (hc : l[k]? = some c) (h32 : c ≠ 32) (h : tokT l k c = .inr (k', t)) : TokOk t := by
 unfold tokT at h
 split at h
 ·unfold nameT at h
  split at h
  ·cases h
  ·rename_i h24
   cases h
   unfold nmK
   split
   ·rename_i hw
    exact .inr (.inl ⟨rfl, noB_nam _ _, mk_len _ hw, by have := sub_le l k (runEnd isNam l k); simp only; omega⟩)
   ·exact .inl (.inl rfl)
 ·split at h
  ·unfold numT at h
   split at h
   ·cases h
   ·split at h
    ·cases h
    ·cases h
     exact .inl (.inr (.inl rfl))
  ·split at h
   ·unfold textT at h
    split at h
    ·cases h
    ·split at h
     ·cases h
     ·cases h
      exact .inl (.inr (.inr rfl))
   ·unfold markT at h
    split at h
    ·cases h
    ·rename_i hm
     cases h
     have h2 := mlen_leR (l.drop k)
     have e : sub l k (k + mLen (l.drop k)) = (l.drop k).take (mLen (l.drop k)) := by unfold sub; rw [Nat.add_sub_cancel_left]
     refine .inr (.inr ⟨rfl, ?_, ?_, by have := sub_le l k (k + mLen (l.drop k)); simp only; omega⟩)
     ·simp only [e]
      rw [drop_cons_of l k c hc] at hm ⊢
      by_cases hx : mLen (c :: l.drop (k + 1)) = 2
      ·rw [hx]
       refine pr_noB _ ?_
       unfold mLen at hx
       simp only at hx
       split at hx
       ·split at hx
        ·rename_i hp; exact hp
        ·split at hx <;> omega
       ·split at hx <;> omega
      ·have hl := mlen_leR (c :: l.drop (k + 1))
       rw [show mLen (c :: l.drop (k + 1)) = 1 by omega]
       simp [noB, h32]
     ·simp only [e]
      cases hx : wdEnds ((l.drop k).take (mLen (l.drop k))) with
      | false => rfl
      | true =>
        have := wd_len _ hx
        rw [List.length_take] at this
        omega
theorem Lx.endT_ok {ts : List Tok} {k : Int} (h : ∀ t ∈ ts, TokOk t) : ∀ t ∈ endT ts k, TokOk t := by
 unfold endT
 split
 ·split
  ·intro t ht
   rcases List.mem_append.1 ht with h1 | h1
   ·exact h t h1
   ·simp at h1
    subst h1
    exact .inr (.inr ⟨rfl, (show noB [59] = true by decide), (show wdEnds [59] = false by decide), (show ([59] : List UInt8).length ≤ 1000 by decide)⟩)
  ·exact h
 ·exact h
theorem toks_mid (a : List Tok) (t : Tok) (b : List Tok) : toksCells (a ++ t :: b) = toksCells a ++ (tokCells t ++ toksCells b) := by simp [toksCells]
theorem tok_cellsR {w : World} {base n : Nat} {v : Value} {ts : List Tok} (h : w.ownsRow base 36 4 v n (toksCells ts)) (hn : n = ts.length) (j : Nat) (hj : j < ts.length) : ∃ g cap, v = .slice (some ⟨g, 0, none⟩) n cap ∧ n ≤ cap ∧
 w.cell? ⟨g, j * 4, none⟩ = some (.int .i64 ts[j].kind) ∧ w.cell? ⟨g, j * 4 + 1, none⟩ = some (.string ⟨ts[j].text.toArray⟩) ∧ w.cell? ⟨g, j * 4 + 2, none⟩ = some (.int .i64 ts[j].num) ∧ w.cell? ⟨g, j * 4 + 3, none⟩ = some (.int .i64 ts[j].pos) := by
 rcases h.2 with ⟨_, h0⟩ | ⟨g, cap, cur, rfl, _, _, hle, _⟩
 ·omega
 ·refine ⟨g, cap, rfl, hle, ?_⟩
  have hc := h.cells (g := g) rfl
  have hadd : ∀ j, (⟨g, 0, none⟩ : Addr).add j = ⟨g, j, none⟩ := fun j => by unfold Addr.add; split <;> simp_all
  have hsp : ts = ts.take j ++ ts[j] :: ts.drop (j + 1) := by rw [List.getElem_cons_drop, List.take_append_drop]
  have hlt : (ts.take j).length = j := by rw [List.length_take]; omega
  have hx : ∀ i u, (tokCells ts[j])[i]? = some u → w.cell? ⟨g, j * 4 + i, none⟩ = some u := fun i u hu => by
   rw [← hadd]
   refine hc _ _ ?_
   have e : toksCells ts = toksCells (ts.take j) ++ (tokCells ts[j] ++ toksCells (ts.drop (j + 1))) := by
    have := toks_mid (ts.take j) ts[j] (ts.drop (j + 1))
    rw [← hsp] at this
    exact this
   have hi : i < (tokCells ts[j]).length := (List.getElem?_eq_some_iff.1 hu).1
   rw [e, List.getElem?_append_right (by rw [toksCells_len, hlt]; omega), toksCells_len, hlt, Nat.add_sub_cancel_left, List.getElem?_append_left hi]
   exact hu
  exact ⟨hx 0 _ rfl, hx 1 _ rfl, hx 2 _ rfl, hx 3 _ rfl⟩
open Go.RowKit Lx
theorem row_below {w w' : World} {base n : Nat} {v : Value} {xs : List Value} (h : w.ownsRow base 36 4 v n xs) (k : Below w.heap.size w w') : w'.ownsRow base 36 4 v n xs := by
 refine ⟨h.1, ?_⟩
 rcases h.2 with h2 | ⟨g, cap, cur, rfl, h3, h4, h5⟩
 ·exact .inl h2
 ·exact .inr ⟨g, cap, cur, rfl, h3, (k.block g (blk_lt h4)).trans h4, h5⟩
theorem row_base {w : World} {base base' n : Nat} {v : Value} {xs : List Value} (hb : base' ≤ base) (h : w.ownsRow base 36 4 v n xs) : w.ownsRow base' 36 4 v n xs := by
 refine ⟨h.1, ?_⟩
 rcases h.2 with h2 | ⟨g, cap, cur, rfl, h3, h4⟩
 ·exact .inl h2
 ·exact .inr ⟨g, cap, cur, rfl, by omega, h4⟩
theorem row_form {w : World} {base n : Nat} {v : Value} {xs : List Value} (h : w.ownsRow base 36 4 v n xs) : ∃ ao cp, v = .slice ao n cp ∧ n ≤ cp := by
 rcases h.2 with ⟨h2, h3⟩ | ⟨g, cap, cur, h2, _, _, h4, _⟩
 ·exact ⟨none, 0, by rw [h2, h3], by omega⟩
 ·exact ⟨_, cap, h2, h4⟩
theorem below_grown {w0 w w' : World} {g : Option Nat} (h : Below w0.heap.size w0 w) (k : w.grownBy w' g) (hg : ∀ x, g = some x → w0.heap.size ≤ x) : Below w0.heap.size w0 w' := h.grown k h.size hg
theorem row_empty (w : World) : (w.alloc (.cells #[] 36)).ownsRow w.heap.size 36 4 (.slice (some ⟨w.heap.size, 0, none⟩) 0 0) 0 [] := World.ownsRow_made w #[] 0 (Nat.le_refl _) (Nat.zero_le _) rfl
theorem toks_one (ts : List Tok) : ∀ u ∈ toksCells ts, u.oneCell' = true := by
 intro u hu
 obtain ⟨t, _, ht⟩ := List.mem_flatMap.1 hu
 simp [tokCells] at ht
 rcases ht with rfl | rfl | rfl | rfl <;> simp [Value.oneCell']
theorem four_new (w : World) (a b c d : Value) : ∀ j u, [a, b, c, d][j]? = some u → (w.alloc (.cells #[a, b, c, d] 36)).cell? ((⟨w.heap.size, 0, none⟩ : Addr).add j) = some u :=
 World.news_of_block (w := w.alloc (.cells #[a, b, c, d] 36)) (B := w.heap.size) (cs := #[a, b, c, d]) (t := 36) (fr := (0, 0)) (by rw [heap_alloc_new' _ _ rfl])
def EndP (base : Nat) (ts : List Tok) (w : World) (e : Ending) (w' : World) : Prop := ∃ ao cp, e = .returned (.slice ao ts.length cp) ∧ w'.ownsRow base 36 4 (.slice ao ts.length cp) ts.length (toksCells ts) ∧ Below w.heap.size w w'
set_option maxRecDepth 100000 in
set_option maxHeartbeats 1000000 in
theorem ended_r (base : Nat) (ao : Option Addr) (cp n : Nat) (ts : List Tok) (k : Nat) (w : World) (hn : n = ts.length) (h : w.ownsRow base 36 4 (.slice ao n cp) n (toksCells ts)) (hb : base ≤ w.heap.size) (hl : ts.length ≤ 10000) (hok : ∀ t ∈ ts, TokOk t) :
 Calls Tryz.prog 17 #[.slice ao n cp, .int .i64 (k : Nat)] w (EndP base (endT ts k) w) := by
 by_cases h0 : ts = []
 ·subst h0
  have hn0 : n = 0 := hn
  subst hn0
  have HP : Hid (EndP base (endT [] k) w (.returned (.slice ao 0 cp)) w) := hide ⟨ao, cp, rfl, h, Below.refl _ _⟩
  clear h hok hn
  go_enter Tryz.func17, Tryz.ntmps17
  go_wp2
  go_ret
  exact unhide HP
 ·obtain ⟨i0, hi, hz0, hz1, hz2⟩ := info_parts Tryz.info33
  have hpos : 0 < ts.length := List.length_pos_iff.2 h0
  obtain ⟨m, hm⟩ : ∃ m, ts.length = m + 1 := ⟨ts.length - 1, by omega⟩
  obtain ⟨g, cap, hv, hle, d0, d1, d2, d3⟩ := tok_cellsR h hn m (by omega)
  simp only [Value.slice.injEq] at hv
  obtain ⟨rfl, _, rfl⟩ := hv
  have hlast : ts.getLast? = some ts[m] := by rw [List.getLast?_eq_getElem?, show ts.length - 1 = m by omega, List.getElem?_eq_getElem]
  have htok := hok _ (List.getElem_mem (l := ts) (n := m) (by omega))
  obtain ⟨t, ht⟩ : ∃ t, t = ts[m] := ⟨_, rfl⟩
  rw [← ht] at d0 d1 d2 d3 hlast htok
  have hE := ends_eq t htok
  have HT : Hid (endT ts k = if tokEnds t.kind t.text then ts ++ [⟨5, [59], 1, k⟩] else ts) := hide (by unfold endT; rw [hlast])
  have htl : (⟨t.text.toArray⟩ : ByteArray).toList = t.text := ByteArray.toList_mk t.text
  have HIn : Hid (¬ t.kind ≤ 3 → ∀ l w, l.size ≤ 100000 → Calls Tryz.prog 19 #[.string ⟨t.text.toArray⟩, .string l] w fun e w' => e = .returned (.bool (inF t.text l.toList)) ∧ w = w') := hide fun h3 l w hl => by
   have hsz : (⟨t.text.toArray⟩ : ByteArray).size ≤ 100000 := by
    rw [← toL_len, htl]
    rcases htok with h | ⟨_, _, _, h⟩ | ⟨_, _, _, h⟩ <;> omega
   have := In_r ⟨t.text.toArray⟩ l w hsz hl
   rw [htl] at this
   exact this
  have hn1 : n = m + 1 := by omega
  have HO := hide h
  have HLen : Hid (ts.length = m + 1) := hide hm
  have hmb : m < 10000 := by omega
  have hbw : Hid (base ≤ w.heap.size) := hide hb
  have hgl : g < w.heap.size := World.block_lt_of_cell? w ⟨g, m * 4, none⟩ d0
  subst hn1
  have w1 : IntKind.i64.wrap (m : Int) = m := by rw [IntKind.wrap_i64]; omega
  have w2 : IntKind.i64.wrap ((m : Int) + 1 - 1) = m := by rw [IntKind.wrap_i64]; omega
  have w4 : (m : Int) < (m : Int) + 1 := by omega
  obtain ⟨wb, hwb⟩ : ∃ wb, wb = w.alloc (.cells #[.int .i64 t.kind, .string ⟨t.text.toArray⟩, .int .i64 t.num, .int .i64 t.pos] 36) := ⟨_, rfl⟩
  have HB1 : Hid (Below w.heap.size w wb) := hide (by rw [hwb]; exact (Below.refl _ _).alloc (Nat.le_refl _) _)
  clear h hok hn hm hlast htok ht hb htl hl hpos h0
  cases hte : tokEnds t.kind t.text with
  | false =>
    rw [hte] at hE
    have h3 : ¬ t.kind ≤ 3 := by
     intro hx; rw [decide_eq_true hx] at hE; cases hE
    have hin : inF t.text endersL = false := by rw [decide_eq_false h3] at hE; exact hE
    have HP : Hid (EndP base (endT ts k) w (.returned (.slice (some ⟨g, 0, none⟩) (m + 1) cp)) wb) := hide (by
     rw [unhide HT, hte]
     have e := unhide HLen
     refine ⟨some ⟨g, 0, none⟩, cp, ?_, ?_, unhide HB1⟩
     ·simp [e]
     ·simp only [Bool.false_eq_true, if_false, e]; exact row_below (unhide HO) (unhide HB1))
    have HI3 := hide (unhide HIn h3)
    have HIv := hide hin
    clear hE hin hte HT HIn
    go_enter Tryz.func17, Tryz.ntmps17
    go_wp2_with (go_at_call 19; refine (unhide HI3 _ _ (by decide)).mono ?_; rintro e w' ⟨rfl, rfl⟩; generalize hbb : inF t.text _ = bb; have hbf : bb = false := (Eq.trans hbb.symm (Eq.trans (congrArg (inF _) (by kernel_rfl)) (unhide HIv))); clear hbb; subst hbf)
    go_ret
    rw [← hwb]
    exact unhide HP
  | true =>
    have hwbs : wb.heap.size = w.heap.size + 1 := by rw [hwb]; simp
    obtain ⟨we, hwe⟩ : ∃ we, we = wb.alloc (.cells #[] 36) := ⟨_, rfl⟩
    have HX0 : Hid (we.ownsRow wb.heap.size 36 4 (.slice (some ⟨w.heap.size + 1, 0, none⟩) 0 0) 0 [] ∧ (toksCells ts).length = (m + 1) * 4 ∧ (∀ j u, (toksCells ts)[j]? = some u → we.cell? ((⟨g, 0, none⟩ : Addr).add j) = some u) ∧ ∀ u ∈ toksCells ts, u.oneCell' = true) := hide (by
     refine ⟨by rw [hwe, ← hwbs]; exact row_empty wb, by rw [toksCells_len, unhide HLen], ?_, toks_one ts⟩
     have hb2 : Below w.heap.size w we := by rw [hwe]; exact (unhide HB1).alloc (unhide HB1).size _
     exact (row_below (unhide HO) hb2).cells (g := g) rfl)
    have HX1 : Hid (∀ v6 w6, w6.ownsRow wb.heap.size 36 4 v6 (0 + (m + 1)) ([] ++ toksCells ts) → we.grownBy w6 (Value.ownBlock (.slice (some ⟨w.heap.size + 1, 0, none⟩) 0 0)) → ∃ ao6 cp6, v6 = .slice ao6 (m + 1) cp6 ∧ w6.ownsRow wb.heap.size 36 4 (.slice ao6 (m + 1) cp6) (m + 1) (toksCells ts) ∧ Below wb.heap.size wb w6) := hide fun v6 w6 ho hg => by
     rw [Nat.zero_add, List.nil_append] at ho
     obtain ⟨ao6, cp6, rfl, _⟩ := row_form ho
     refine ⟨ao6, cp6, rfl, ho, below_grown (by rw [hwe]; exact (Below.refl _ _).alloc (Nat.le_refl _) _) hg fun x hx => ?_⟩
     simp [Value.ownBlock] at hx
     omega
    have HX2 : Hid (∀ ao6 cp6 w6 v8 w8, w6.ownsRow wb.heap.size 36 4 (.slice ao6 (m + 1) cp6) (m + 1) (toksCells ts) ∧ Below wb.heap.size wb w6 → w8.ownsRow wb.heap.size 36 4 v8 (m + 1 + 1) (toksCells ts ++ [.int .i64 5, .string ⟨#[59]⟩, .int .i64 1, .int .i64 (k : Int)]) → (w6.alloc (.cells #[.int .i64 5, .string ⟨#[59]⟩, .int .i64 1, .int .i64 (k : Int)] 36)).grownBy w8 (Value.ownBlock (.slice ao6 (m + 1) cp6)) → ∃ ao8 cp8, v8 = .slice ao8 (m + 1 + 1) cp8 ∧ EndP base (endT ts k) w (.returned (.slice ao8 (m + 1 + 1) cp8)) w8) := hide fun ao6 cp6 w6 v8 w8 h6 ho hg => by
     obtain ⟨ao8, cp8, rfl, _⟩ := row_form ho
     refine ⟨ao8, cp8, rfl, ?_⟩
     rw [unhide HT, hte]
     have e : (ts ++ [(⟨5, [59], 1, k⟩ : Tok)]).length = m + 1 + 1 := by rw [List.length_append, unhide HLen]; rfl
     have e2 : toksCells (ts ++ [(⟨5, [59], 1, k⟩ : Tok)]) = toksCells ts ++ [.int .i64 5, .string ⟨#[59]⟩, .int .i64 1, .int .i64 (k : Int)] := by rw [toksCells_snoc]; rfl
     have hwl := (unhide HB1).size
     have hb8 : Below wb.heap.size wb w8 := below_grown (h6.2.alloc h6.2.size _) hg fun x hx => ((h6.1.lt x hx).1)
     refine ⟨ao8, cp8, ?_, ?_, (unhide HB1).trans (hb8.mono hwl)⟩
     ·simp only [if_true, e]
     ·simp only [if_true, e, e2]
      exact row_base (Nat.le_trans (unhide hbw) hwl) ho
    rw [hte] at hE
    clear HT HO hte
    by_cases h3 : t.kind ≤ 3
    ·clear HIn hE
     go_enter Tryz.func17, Tryz.ntmps17
     go_wp2_with (first | (at_builtin; refine wpList_append_own_at _ rfl _ _ 30 rfl wb.heap.size 36 i0 _ 4 40 Tryz.underlying30 hi hz0 hz1 hz2 rfl (by decide) (.slice ao6 (m + 1) cp6) (m + 1) (toksCells ts) rfl ((unhide HF6).1.alloc _) ⟨w6.heap.size, 0, none⟩ 1 1 [.int .i64 5, .string ⟨#[59]⟩, .int .i64 1, .int .i64 (k : Int)] rfl rfl (four_new w6 _ _ _ _) (by simp [Value.oneCell']) (by unfold maxLen; omega) (by omega) (by have := (unhide HF6).2.size; simp; omega) ?_; intro v8 w8 hown8 hgrow8 hnil8 hat8; obtain ⟨ao8, cp8, hv8, hP8⟩ := unhide HX2 ao6 cp6 w6 v8 w8 (unhide HF6) hown8 hgrow8; subst hv8; have HP8 := hide hP8; clear hown8 hgrow8 hnil8 hat8 hP8) | (at_builtin; rw [← hwb, ← hwe]; refine wpList_append_own_at _ rfl _ _ 30 rfl wb.heap.size 36 i0 _ 4 40 Tryz.underlying30 hi hz0 hz1 hz2 rfl (by decide) (.slice (some ⟨w.heap.size + 1, 0, none⟩) 0 0) 0 [] rfl (unhide HX0).1 ⟨g, 0, none⟩ (m + 1) cp (toksCells ts) rfl (unhide HX0).2.1 (unhide HX0).2.2.1 (unhide HX0).2.2.2 (by unfold maxLen; omega) (by omega) (by rw [hwe]; simp) ?_; intro v6 w6 hown6 hgrow6 hnil6 hat6; obtain ⟨ao6, cp6, hv6, hF6, hB6⟩ := unhide HX1 v6 w6 hown6 hgrow6; subst hv6; have HF6 := hide (And.intro hF6 hB6); clear hown6 hgrow6 hnil6 hat6 hF6 hB6))
     go_ret
     exact unhide HP8
    ·have hin : inF t.text endersL = true := by rw [decide_eq_false h3] at hE; exact hE
     have HI3 := hide (unhide HIn h3)
     have HIv := hide hin
     clear hE hin HIn
     go_enter Tryz.func17, Tryz.ntmps17
     go_wp2_with (first | (go_at_call 19; refine (unhide HI3 _ _ (by decide)).mono ?_; rintro e w' ⟨rfl, rfl⟩; generalize hbb : inF t.text _ = bb; have hbf : bb = true := (Eq.trans hbb.symm (Eq.trans (congrArg (inF _) (by kernel_rfl)) (unhide HIv))); clear hbb; subst hbf) | (at_builtin; refine wpList_append_own_at _ rfl _ _ 30 rfl wb.heap.size 36 i0 _ 4 40 Tryz.underlying30 hi hz0 hz1 hz2 rfl (by decide) (.slice ao6 (m + 1) cp6) (m + 1) (toksCells ts) rfl ((unhide HF6).1.alloc _) ⟨w6.heap.size, 0, none⟩ 1 1 [.int .i64 5, .string ⟨#[59]⟩, .int .i64 1, .int .i64 (k : Int)] rfl rfl (four_new w6 _ _ _ _) (by simp [Value.oneCell']) (by unfold maxLen; omega) (by omega) (by have := (unhide HF6).2.size; simp; omega) ?_; intro v8 w8 hown8 hgrow8 hnil8 hat8; obtain ⟨ao8, cp8, hv8, hP8⟩ := unhide HX2 ao6 cp6 w6 v8 w8 (unhide HF6) hown8 hgrow8; subst hv8; have HP8 := hide hP8; clear hown8 hgrow8 hnil8 hat8 hP8) | (at_builtin; rw [← hwb, ← hwe]; refine wpList_append_own_at _ rfl _ _ 30 rfl wb.heap.size 36 i0 _ 4 40 Tryz.underlying30 hi hz0 hz1 hz2 rfl (by decide) (.slice (some ⟨w.heap.size + 1, 0, none⟩) 0 0) 0 [] rfl (unhide HX0).1 ⟨g, 0, none⟩ (m + 1) cp (toksCells ts) rfl (unhide HX0).2.1 (unhide HX0).2.2.1 (unhide HX0).2.2.2 (by unfold maxLen; omega) (by omega) (by rw [hwe]; simp) ?_; intro v6 w6 hown6 hgrow6 hnil6 hat6; obtain ⟨ao6, cp6, hv6, hF6, hB6⟩ := unhide HX1 v6 w6 hown6 hgrow6; subst hv6; have HF6 := hide (And.intro hF6 hB6); clear hown6 hgrow6 hnil6 hat6 hF6 hB6))
     go_ret
     exact unhide HP8
open Go.RowKit Lx
theorem Lx.part_tok (l : List UInt8) (k : Nat) (c : UInt8) (ts : List Tok) (hc : l[k]? = some c) (h32 : c ≠ 32) (h9 : c ≠ 9) (h10 : c ≠ 10) (hm : cmt l k = false) :
 partF l k ts = match tokT l k c with | .inl p => .inl p | .inr (k', t) => .inr (k', ts ++ [t]) := by
 unfold partF tokT
 rw [hc]
 simp only [h32, h9, h10, or_self, if_false, hm, Bool.false_eq_true]
 split
 ·unfold nameF nameT
  split <;> rfl
 ·split
  ·unfold numF numT
   split
   ·rfl
   ·split <;> rfl
  ·split
   ·unfold textF textT
    rcases txt (l.drop (k + 1)) with ⟨a, n⟩
    cases a with
    | none => rfl
    | some m => simp only; split <;> rfl
   ·unfold markF markT
    split <;> rfl
theorem Lx.part_nlR (l : List UInt8) (k : Nat) (ts : List Tok) (hc : l[k]? = some 10) : partF l k ts = .inr (k + 1, endT ts k) := by
 unfold partF; rw [hc]; simp
theorem Lx.part_bl (l : List UInt8) (k : Nat) (c : UInt8) (ts : List Tok) (hc : l[k]? = some c) (h : c = 32 ∨ c = 9) : partF l k ts = .inr (k + 1, ts) := by
 unfold partF; rw [hc]; simp [h]
theorem Lx.part_cm (l : List UInt8) (k : Nat) (c : UInt8) (ts : List Tok) (hc : l[k]? = some c) (h32 : c ≠ 32) (h9 : c ≠ 9) (h10 : c ≠ 10) (hm : cmt l k = true) : partF l k ts = .inr (runEnd notNl l k, ts) := by
 unfold partF; rw [hc]; simp [h32, h9, h10, hm]
def Lx.openL : List UInt8 := joinW [[40], [91], [123]]
def Lx.closeL : List UInt8 := joinW [[41], [93], [125]]
theorem Lx.in_open (s : List UInt8) (hs : noB s = true) : inF s openL = opens s := by
 rw [openL, in_join s hs _ (by decide) (by decide)]
 unfold opens
 simp only [List.contains_cons, List.contains_nil, Bool.or_false, Bool.or_assoc]
theorem Lx.in_close (s : List UInt8) (hs : noB s = true) : inF s closeL = closes s := by
 rw [closeL, in_join s hs _ (by decide) (by decide)]
 unfold closes
 simp only [List.contains_cons, List.contains_nil, Bool.or_false, Bool.or_assoc]
theorem Lx.open_not_close (s : List UInt8) (h : opens s = true) : closes s = false := by
 simp [opens] at h
 rcases h with (rfl | rfl) | rfl <;> decide
structure ScS (w wr : World) (s : ByteArray) (k : Nat) (v : Value) (ts : List Tok) : Prop where
 own : wr.ownsRow (w.heap.size + 1) 36 4 v ts.length (toksCells ts)
 blk : wr.heap[w.heap.size]? = some (.cells #[.int .i64 0, .int .i64 0] 32)
 bel : Below w.heap.size w wr
 ok : ∀ t ∈ ts, TokOk t
 len : ts.length ≤ k
 all : scanAll s.toList k ts = scanAll s.toList 0 []
theorem ScS.lt {w wr : World} {s : ByteArray} {k : Nat} {v : Value} {ts : List Tok} (h : ScS w wr s k v ts) : w.heap.size + 1 ≤ wr.heap.size := blk_lt h.blk
theorem ScS.start (w : World) (s : ByteArray) : ScS w (w.alloc (.cells #[.int .i64 0, .int .i64 0] 32)) s 0 (.slice none 0 0) [] :=
 ⟨World.ownsRow_nil _ _ _ _, heap_alloc_new' _ _ rfl, (Below.refl _ _).alloc (Nat.le_refl _) _, (fun t h => by cases h), Nat.le_refl _, rfl⟩
theorem ScS.skip {w wr : World} {s : ByteArray} {k k' : Nat} {v : Value} {ts : List Tok} (h : ScS w wr s k v ts) (hk : k < s.size) (hp : partF s.toList k ts = .inr (k', ts)) : ScS w wr s k' v ts := by
 obtain ⟨h1, _, _⟩ := partF_prog s.toList k ts (by rw [toL_len]; exact hk) k' ts hp
 exact ⟨h.own, h.blk, h.bel, h.ok, by have := h.len; omega, by rw [← scanAll_inr s.toList k ts k' ts (by rw [toL_len]; exact hk) hp]; exact h.all⟩
theorem ScS.far {w wr w2 : World} {s : ByteArray} {k : Nat} {v : Value} {ts : List Tok} (h : ScS w wr s k v ts) (hb : Below wr.heap.size wr w2) : ScS w w2 s k v ts :=
 ⟨row_below h.own hb, (hb.block _ (blk_lt h.blk)).trans h.blk, h.bel.trans (hb.mono h.bel.size), h.ok, h.len, h.all⟩
theorem ScS.ends {w wr w2 : World} {s : ByteArray} {k : Nat} {v v2 : Value} {ts : List Tok} (h : ScS w wr s k v ts) (hk : k < s.size) (hp : partF s.toList k ts = .inr (k + 1, endT ts k)) (ho : w2.ownsRow (w.heap.size + 1) 36 4 v2 (endT ts k).length (toksCells (endT ts k))) (hb : Below wr.heap.size wr w2) : ScS w w2 s (k + 1) v2 (endT ts k) := by
 refine ⟨ho, (hb.block _ (blk_lt h.blk)).trans h.blk, h.bel.trans (hb.mono h.bel.size), endT_ok h.ok, ?_, ?_⟩
 ·have := endT_len ts k; have := h.len; omega
 ·rw [← scanAll_inr s.toList k ts (k + 1) (endT ts k) (by rw [toL_len]; exact hk) hp]; exact h.all
theorem ScS.push {w wr w2 : World} {s : ByteArray} {k k' : Nat} {v v2 : Value} {ts : List Tok} {t : Tok} (h : ScS w wr s k v ts) (hk : k < s.size) (hp : partF s.toList k ts = .inr (k', ts ++ [t])) (ht : TokOk t) (ho : w2.ownsRow (w.heap.size + 1) 36 4 v2 (ts.length + 1) (toksCells ts ++ tokCells t)) (hbl : w2.heap[w.heap.size]? = some (.cells #[.int .i64 0, .int .i64 0] 32)) (hb : Below w.heap.size w w2) : ScS w w2 s k' v2 (ts ++ [t]) := by
 obtain ⟨h1, h2, _⟩ := partF_prog s.toList k ts (by rw [toL_len]; exact hk) k' (ts ++ [t]) hp
 refine ⟨by rw [List.length_append, toksCells_snoc]; exact ho, hbl, hb, fun x hx => ?_, ?_, ?_⟩
 ·rcases List.mem_append.1 hx with h3 | h3
  ·exact h.ok x h3
  ·simp at h3; rw [h3]; exact ht
 ·have := h.len; simp; omega
 ·rw [← scanAll_inr s.toList k ts k' (ts ++ [t]) (by rw [toL_len]; exact hk) hp]; exact h.all
open Go.RowKit Lx
theorem Lx.notNl_of {c : UInt8} (h : c ≠ 10) : notNl c = true := by
 have h1 : ¬ (c.toNat : Int) = 10 := ne_byte h
 unfold notNl
 rw [decide_eq_false h1]; rfl
set_option maxRecDepth 100000 in
set_option maxHeartbeats 1000000 in
theorem ScanR_big (s : ByteArray) (w : World) (hs : 8192 < s.size) : Calls Tryz.prog 13 #[.string s] w (ScanXPost s.toList w) := by
 have HP : Hid (∀ w', Below w.heap.size w w' → ScanXPost s.toList w (.returned (.tuple #[.slice none 0 0, .agg #[.int .i64 1, .int .i64 8192]])) w') := hide fun w' hb => scanx_none (lexR_big _ (by rw [toL_len]; exact hs)) hb
 have hsi : (8192 : Int) < (s.size : Int) := by omega
 have hsb : (s.size : Int) < 9223372036854775808 ∨ True := .inr trivial
 clear hsb
 go_enter Tryz.func13, Tryz.ntmps13
 go_wp2
 refine bodyPost_ret (v := .tuple #[.slice none 0 0, .agg #[.int .i64 1, .int .i64 8192]]) (by simp [results, Tryz.results13, go_sem]) rfl ?_
 exact unhide HP _ ((Below.refl _ _).alloc (Nat.le_refl _) _)
set_option maxRecDepth 100000 in
set_option maxHeartbeats 2000000 in
theorem ScanR_in (s : ByteArray) (w : World) (hs : s.size ≤ 8192) : Calls Tryz.prog 13 #[.string s] w (ScanXPost s.toList w) := by
 obtain ⟨i0, hi, hz0, hz1, hz2⟩ := info_parts Tryz.info33
 obtain ⟨w1, hw1⟩ : ∃ w1, w1 = w.alloc (.cells #[.int .i64 0, .int .i64 0] 32) := ⟨_, rfl⟩
 have HS1 : Hid (ScS w w1 s 0 (.slice none 0 0) []) := hide (by rw [hw1]; exact ScS.start w s)
 have hsi : ¬ (8192 : Int) < (s.size : Int) := by omega
 go_enter Tryz.func13, Tryz.ntmps13
 go_wp2
 rw [← hw1]
 clear hw1
 go_loopw [4, 5] (fun v i wr => ∃ k : Nat, k ≤ s.size ∧ i = .int .i64 k ∧ ∃ ao n cp ts, v = .slice ao n cp ∧ n ≤ 8192 ∧ Hid (n = ts.length) ∧ Hid (ScS w wr s k (.slice ao n cp) ts)) (fun _ i _ => s.size - (intOf i).toNat)
 case atStart => exact ⟨0, by omega, rfl, none, 0, 0, [], rfl, by omega, hide rfl, HS1⟩
 case round =>
  obtain ⟨k, hk, rfl, ao, n, cp, ts, rfl, hn8, hN, hS⟩ := hrel
  by_cases hlt : k < s.size
  ·have hgc := toL_get s k hlt
   by_cases h10 : s[k] = 10
   ·have hb10 : ((s[k].toNat : Int) == 10) = true := by rw [h10]; rfl
    have HE : Hid (Calls Tryz.prog 17 #[.slice ao n cp, .int .i64 (k : Nat)] wr (EndP (w.heap.size + 1) (endT ts k) wr)) := hide (by
     have ho := (unhide hS).own
     rw [← unhide hN] at ho
     exact ended_r _ ao cp n ts k wr (unhide hN) ho (unhide hS).lt (by have := (unhide hS).len; omega) (unhide hS).ok)
    have HX : Hid (∀ ao2 cp2 w2, w2.ownsRow (w.heap.size + 1) 36 4 (.slice ao2 (endT ts k).length cp2) (endT ts k).length (toksCells (endT ts k)) → Below wr.heap.size wr w2 → (endT ts k).length ≤ 8192 ∧ ScS w w2 s (k + 1) (.slice ao2 (endT ts k).length cp2) (endT ts k)) := hide fun ao2 cp2 w2 ho hb => by
     have := (unhide hS).ends hlt (part_nlR _ _ _ (by rw [hgc, h10])) ho hb
     exact ⟨by have := this.len; omega, this⟩
    clear hgc h10 hS hN
    obtain ⟨E, hE⟩ : ∃ E, E = endT ts k := ⟨_, rfl⟩
    rw [← hE] at HE HX
    clear hE
    go_wp2_with (go_at_call 17; refine (unhide HE).mono ?_; rintro e w2 ⟨ao2, cp2, rfl, ho2, hb2⟩; obtain ⟨hl2, hS2⟩ := unhide HX ao2 cp2 w2 ho2 hb2; have HS2 := hide hS2; clear hS2 ho2 hb2)
    go_roundw
    case rel => exact ⟨k + 1, by omega, by go_num, ao2, E.length, cp2, E, rfl, hl2, hide rfl, HS2⟩
    case measure => simp [intOf]; omega
   ·have hb10 : ((s[k].toNat : Int) == 10) = false := by simpa using ne_byte h10
    by_cases h32 : s[k] = 32
    ·have hb32 : ((s[k].toNat : Int) == 32) = true := by rw [h32]; rfl
     have HS2 := hide ((unhide hS).skip hlt (part_bl _ _ _ _ hgc (.inl h32)))
     clear hgc h10 h32 hS
     go_wp2
     go_roundw
     case rel => exact ⟨k + 1, by omega, by go_num, ao, n, cp, ts, rfl, hn8, hN, HS2⟩
     case measure => simp [intOf]; omega
    ·have hb32 : ((s[k].toNat : Int) == 32) = false := by simpa using ne_byte h32
     by_cases h9 : s[k] = 9
     ·have hb9 : ((s[k].toNat : Int) == 9) = true := by rw [h9]; rfl
      have HS2 := hide ((unhide hS).skip hlt (part_bl _ _ _ _ hgc (.inr h9)))
      clear hgc h10 h32 h9 hS
      go_wp2
      go_roundw
      case rel => exact ⟨k + 1, by omega, by go_num, ao, n, cp, ts, rfl, hn8, hN, HS2⟩
      case measure => simp [intOf]; omega
     ·have hb9 : ((s[k].toNat : Int) == 9) = false := by simpa using ne_byte h9
      cases hcm : cmt s.toList k with
      | true =>
        have hxc : ((s.extract k (k + 2)).toList == [47, 47]) = true := by rw [cmt_of, hcm]
        have hk2 : k + 2 ≤ s.size := by
         have h1 : (s.extract k (k + 2)).toList = [47, 47] := by simpa using hxc
         have h2 := congrArg List.length h1
         rw [toL_len] at h2
         simp at h2
         omega
        have hki : (k : Int) + 2 ≤ (s.size : Int) := by omega
        have HS2 := hide ((unhide hS).skip hlt (part_cm _ _ _ _ hgc h32 h9 h10 hcm))
        have hrl := re_le notNl s.toList k (by rw [toL_len]; omega)
        have hrg := re_gt notNl s.toList k s[k] hgc (notNl_of h10)
        rw [toL_len] at hrl
        clear hgc h10 h32 h9 hS hcm
        go_wp2
        obtain ⟨wm, rfl⟩ : ∃ wm, wm = wr := ⟨_, rfl⟩
        go_loopw [5] (fun i wr => ∃ j : Nat, k ≤ j ∧ j ≤ s.size ∧ i = .int .i64 j ∧ wm = wr ∧ Hid (runEnd notNl s.toList j = runEnd notNl s.toList k)) (fun i _ => s.size - (intOf i).toNat)
        case atStart => exact ⟨k, Nat.le_refl _, by omega, rfl, rfl, hide rfl⟩
        case round =>
         obtain ⟨j, hkj, hj, rfl, rfl, hR⟩ := hrel
         by_cases hjl : j < s.size
         ·by_cases hj10 : s[j] = 10
          ·have hjb : ((s[j].toNat : Int) != 10) = false := by rw [hj10]; rfl
           have HE : Hid (runEnd notNl s.toList k = j) := hide (by rw [← unhide hR, toL_stop notNl s j hjl (by unfold notNl; rw [hj10]; rfl)])
           have HS3 : Hid (ScS w wm s j (.slice ao n cp) ts) := hide (by have := unhide HS2; rwa [unhide HE] at this)
           have hkj2 : k < j := by have := unhide HE; omega
           clear hR hj10 HS2 HE
           go_wp2
           go_roundw
           case rel => exact ⟨j, by omega, rfl, ao, n, cp, ts, rfl, hn8, hN, HS3⟩
           case measure => simp [intOf]; omega
          ·have hjb : ((s[j].toNat : Int) != 10) = true := by simpa using ne_byte hj10
           have HR2 : Hid (runEnd notNl s.toList (j + 1) = runEnd notNl s.toList k) := hide (by rw [toL_step notNl s j hjl (notNl_of hj10)]; exact unhide hR)
           clear hR hj10
           go_wp2
           go_roundw
           case rel => exact ⟨j + 1, by omega, by omega, by go_num, trivial, HR2⟩
           case measure => simp [intOf]; omega
         ·have HE : Hid (runEnd notNl s.toList k = j) := hide (by rw [← unhide hR, toL_end notNl s j (by omega)])
          have HS3 : Hid (ScS w wm s j (.slice ao n cp) ts) := hide (by have := unhide HS2; rwa [unhide HE] at this)
          have hkj2 : k < j := by have := unhide HE; omega
          have hji : ¬ (j : Int) < (s.size : Int) := by omega
          clear hR HS2 HE
          go_wp2
          go_roundw
          case rel => exact ⟨j, by omega, rfl, ao, n, cp, ts, rfl, hn8, hN, HS3⟩
          case measure => simp [intOf]; omega
      | false =>
        have hxc : ((s.extract k (k + 2)).toList == [47, 47]) = false := by rw [cmt_of, hcm]
        have hpt := part_tok s.toList k s[k] ts hgc h32 h9 h10 hcm
        have HC : Hid (Calls Tryz.prog 18 #[.string s, .int .i64 (k : Nat)] wr (TokP k (tokT s.toList k s[k]) wr)) := hide (token_r s k wr hs hlt h32)
        have HTk : Hid (∀ k' t, tokT s.toList k s[k] = .inr (k', t) → TokOk t) := hide fun k' t h => tokT_ok hgc h32 h
        have stp : Calls Tryz.prog 18 #[.string s, .int .i64 (k : Nat)] wr (TokP k (tokT s.toList k s[k]) wr) := unhide HC
        obtain ⟨r, hr⟩ : ∃ r, r = tokT s.toList k s[k] := ⟨_, rfl⟩
        rw [← hr] at hpt HC HTk
        clear stp hgc h10 h32 h9 hcm hr
        obtain ⟨wm, rfl⟩ : ∃ wm, wm = wr := ⟨_, rfl⟩
        cases r with
        | inl p =>
          have HP : Hid (∀ w', Below w.heap.size w w' → ScanXPost s.toList w (.returned (.tuple #[.slice none 0 0, .agg #[.int .i64 2, .int .i64 (p : Int)]])) w') := hide fun w' hb => scanx_none (lexR_bad _ (by rw [toL_len]; exact hs) p (by rw [← (unhide hS).all]; exact scanAll_inl _ _ _ p (by rw [toL_len]; exact hlt) hpt)) hb
          have HB : Hid (∀ w2, Below wm.heap.size wm w2 → ((w2.alloc (.cells #[.int .i64 0, .string ⟨#[]⟩, .int .i64 0, .int .i64 0] 36)).cell? ⟨w.heap.size, 0, none⟩ = some (.int .i64 0) ∧ (w2.alloc (.cells #[.int .i64 0, .string ⟨#[]⟩, .int .i64 0, .int .i64 0] 36)).cell? ⟨w.heap.size, 1, none⟩ = some (.int .i64 0) ∧ (w2.alloc (.cells #[.int .i64 0, .string ⟨#[]⟩, .int .i64 0, .int .i64 0] 36)).frozen? ⟨w.heap.size, 0, none⟩ = false ∧ (w2.alloc (.cells #[.int .i64 0, .string ⟨#[]⟩, .int .i64 0, .int .i64 0] 36)).frozen? ⟨w.heap.size, 1, none⟩ = false) ∧ Below w.heap.size w (w2.alloc (.cells #[.int .i64 0, .string ⟨#[]⟩, .int .i64 0, .int .i64 0] 36))) := hide fun w2 hb => by
           have h2 := (unhide hS).far hb
           have hbk := blk_alloc h2.blk (.cells #[.int .i64 0, .string ⟨#[]⟩, .int .i64 0, .int .i64 0] 36)
           exact ⟨⟨blk_cell hbk 0, blk_cell hbk 1, blk_frozen hbk 0, blk_frozen hbk 1⟩, h2.bel.alloc h2.bel.size _⟩
          have hp0 : (0 : Int) ≤ (p : Int) := by omega
          clear hpt HTk hS hN
          go_wp2_with (go_at_call 18; refine (unhide HC).mono ?_; rintro e w2 ⟨hb2, he2⟩; simp only at he2; subst he2; obtain ⟨⟨c30, c31, f30, f31⟩, hbb⟩ := unhide HB w2 hb2; have HBB := hide hbb; clear hb2 hbb; unfold tok0)
          all_goals
           refine bodyPost_ret (v := .tuple #[.slice none 0 0, .agg #[.int .i64 2, .int .i64 (p : Int)]]) (by simp [results, Tryz.results13, go_sem, *]) rfl ?_
           exact unhide HP _ (Ans.set (Ans.set (unhide HBB) _ _) _ _)
        | inr q =>
          obtain ⟨k', t⟩ := q
          have htk := unhide HTk k' t rfl
          have hpt' : partF s.toList k ts = .inr (k', ts ++ [t]) := hpt
          obtain ⟨hkk, hkl, _⟩ := partF_prog s.toList k ts (by rw [toL_len]; exact hlt) k' _ hpt'
          rw [toL_len] at hkl
          have hn1 : n + 1 ≤ 8192 := by have h1 := (unhide hS).len; have h2 := unhide hN; omega
          have HB : Hid (∀ w2, Below wm.heap.size wm w2 → ((w2.alloc (.cells #[.int .i64 t.kind, .string ⟨t.text.toArray⟩, .int .i64 t.num, .int .i64 t.pos] 36)).alloc (.cells #[.int .i64 t.kind, .string ⟨t.text.toArray⟩, .int .i64 t.num, .int .i64 t.pos] 36)).ownsRow (w.heap.size + 1) 36 4 (.slice ao n cp) n (toksCells ts) ∧ (∀ j u, [Value.int .i64 t.kind, .string ⟨t.text.toArray⟩, .int .i64 t.num, .int .i64 t.pos][j]? = some u → ((w2.alloc (.cells #[.int .i64 t.kind, .string ⟨t.text.toArray⟩, .int .i64 t.num, .int .i64 t.pos] 36)).alloc (.cells #[.int .i64 t.kind, .string ⟨t.text.toArray⟩, .int .i64 t.num, .int .i64 t.pos] 36)).cell? ((⟨w2.heap.size + 1, 0, none⟩ : Addr).add j) = some u) ∧ w.heap.size + 1 ≤ ((w2.alloc (.cells #[.int .i64 t.kind, .string ⟨t.text.toArray⟩, .int .i64 t.num, .int .i64 t.pos] 36)).alloc (.cells #[.int .i64 t.kind, .string ⟨t.text.toArray⟩, .int .i64 t.num, .int .i64 t.pos] 36)).heap.size ∧ ∀ v5 w5, w5.ownsRow (w.heap.size + 1) 36 4 v5 (n + 1) (toksCells ts ++ [.int .i64 t.kind, .string ⟨t.text.toArray⟩, .int .i64 t.num, .int .i64 t.pos]) → ((w2.alloc (.cells #[.int .i64 t.kind, .string ⟨t.text.toArray⟩, .int .i64 t.num, .int .i64 t.pos] 36)).alloc (.cells #[.int .i64 t.kind, .string ⟨t.text.toArray⟩, .int .i64 t.num, .int .i64 t.pos] 36)).grownBy w5 (Value.ownBlock (.slice ao n cp)) → ∃ ao5 cp5, v5 = .slice ao5 (n + 1) cp5 ∧ ScS w w5 s k' (.slice ao5 (n + 1) cp5) (ts ++ [t])) := hide fun w2 hb => by
           have h2 := (unhide hS).far hb
           have e : n = ts.length := unhide hN
           have hb3 : Below w2.heap.size w2 ((w2.alloc (.cells #[.int .i64 t.kind, .string ⟨t.text.toArray⟩, .int .i64 t.num, .int .i64 t.pos] 36)).alloc (.cells #[.int .i64 t.kind, .string ⟨t.text.toArray⟩, .int .i64 t.num, .int .i64 t.pos] 36)) := ((Below.refl _ _).alloc (Nat.le_refl _) _).alloc (by simp) _
           have h4 := h2.far hb3
           refine ⟨by have := h4.own; rwa [← e] at this, ?_, h4.lt, fun v5 w5 ho hg => ?_⟩
           ·have := four_new (w2.alloc (.cells #[.int .i64 t.kind, .string ⟨t.text.toArray⟩, .int .i64 t.num, .int .i64 t.pos] 36)) (.int .i64 t.kind) (.string ⟨t.text.toArray⟩) (.int .i64 t.num) (.int .i64 t.pos)
            simpa using this
           ·obtain ⟨ao5, cp5, rfl, _⟩ := row_form ho
            have hne : some w.heap.size ≠ (Value.slice ao n cp).ownBlock := fun hx => by
             have := (h4.own.lt _ hx.symm).1; omega
            refine ⟨ao5, cp5, rfl, (unhide hS).push hlt hpt' htk (by rw [← e]; exact ho) ((hg.block _ (blk_lt h4.blk) hne).trans h4.blk) (below_grown h4.bel hg fun x hx => ?_)⟩
            have := (h4.own.lt x hx).1; omega
          have HL5 : Hid (n + 1 = (ts ++ [t]).length) := hide (by rw [List.length_append, ← unhide hN]; rfl)
          clear hpt hpt' HTk hS hN htk
          by_cases hk2 : (k : Int) + 2 ≤ (s.size : Int)
          ·go_wp2_with (first | (at_builtin; refine wpList_append_own_at _ rfl _ _ 30 rfl (w.heap.size + 1) 36 i0 _ 4 40 Tryz.underlying30 hi hz0 hz1 hz2 rfl (by decide) (.slice ao n cp) n (toksCells ts) rfl (unhide HO2) ⟨w2.heap.size + 1, 0, none⟩ 1 1 [.int .i64 t.kind, .string ⟨t.text.toArray⟩, .int .i64 t.num, .int .i64 t.pos] rfl rfl (unhide HN2) (by simp [Value.oneCell']) (by unfold maxLen; omega) (by omega) (unhide HL2) ?_; intro v5 w5 hown5 hgrow5 hnil5 hat5; obtain ⟨ao5, cp5, hv5, hS5⟩ := unhide HX2 v5 w5 hown5 hgrow5; subst hv5; have HS5 := hide hS5; clear hown5 hgrow5 hnil5 hat5 hS5) | (go_at_call 18; refine (unhide HC).mono ?_; rintro e w2 ⟨hb2, he2⟩; simp only at he2; subst he2; obtain ⟨ho2, hn2, hl2, hx2⟩ := unhide HB w2 hb2; have HO2 := hide ho2; have HN2 := hide hn2; have HL2 := hide hl2; have HX2 := hide hx2; clear hb2 ho2 hn2 hl2 hx2; unfold tokV))
           go_roundw
           case rel => exact ⟨k', by omega, rfl, ao5, n + 1, cp5, ts ++ [t], rfl, hn1, HL5, HS5⟩
           case measure => simp [intOf]; omega
          ·go_wp2_with (first | (at_builtin; refine wpList_append_own_at _ rfl _ _ 30 rfl (w.heap.size + 1) 36 i0 _ 4 40 Tryz.underlying30 hi hz0 hz1 hz2 rfl (by decide) (.slice ao n cp) n (toksCells ts) rfl (unhide HO2) ⟨w2.heap.size + 1, 0, none⟩ 1 1 [.int .i64 t.kind, .string ⟨t.text.toArray⟩, .int .i64 t.num, .int .i64 t.pos] rfl rfl (unhide HN2) (by simp [Value.oneCell']) (by unfold maxLen; omega) (by omega) (unhide HL2) ?_; intro v5 w5 hown5 hgrow5 hnil5 hat5; obtain ⟨ao5, cp5, hv5, hS5⟩ := unhide HX2 v5 w5 hown5 hgrow5; subst hv5; have HS5 := hide hS5; clear hown5 hgrow5 hnil5 hat5 hS5) | (go_at_call 18; refine (unhide HC).mono ?_; rintro e w2 ⟨hb2, he2⟩; simp only at he2; subst he2; obtain ⟨ho2, hn2, hl2, hx2⟩ := unhide HB w2 hb2; have HO2 := hide ho2; have HN2 := hide hn2; have HL2 := hide hl2; have HX2 := hide hx2; clear hb2 ho2 hn2 hl2 hx2; unfold tokV))
           go_roundw
           case rel => exact ⟨k', by omega, rfl, ao5, n + 1, cp5, ts ++ [t], rfl, hn1, HL5, HS5⟩
           case measure => simp [intOf]; omega
  ·have hkz : k = s.size := by omega
   have HAll : Hid (scanAll s.toList 0 [] = .inr ts) := hide (by rw [← (unhide hS).all]; exact scanAll_end _ _ _ (by rw [toL_len]; omega))
   have HE : Hid (Calls Tryz.prog 17 #[.slice ao n cp, .int .i64 ((s.size : Nat) : Int)] wr (EndP (w.heap.size + 1) (endT ts (s.size : Nat)) wr)) := hide (by
    have ho := (unhide hS).own
    rw [← unhide hN] at ho
    exact ended_r _ ao cp n ts s.size wr (unhide hN) ho (unhide hS).lt (by have := (unhide hS).len; omega) (unhide hS).ok)
   have hel : (endT ts (s.size : Nat)).length ≤ 8193 := by have h1 := endT_len ts (s.size : Nat); have h2 := (unhide hS).len; omega
   have HOk : Hid (∀ t ∈ endT ts (s.size : Nat), TokOk t) := hide (endT_ok (unhide hS).ok)
   have HAp : Hid (allP ts s.size = endT ts (s.size : Nat) ++ [⟨6, [], 0, s.size⟩]) := hide rfl
   have HBk : Hid (∀ w2, Below wr.heap.size wr w2 → w2.heap[w.heap.size]? = some (.cells #[.int .i64 0, .int .i64 0] 32) ∧ Below w.heap.size w w2) := hide fun w2 hb => ⟨(hb.block _ (blk_lt (unhide hS).blk)).trans (unhide hS).blk, (unhide hS).bel.trans (hb.mono (unhide hS).bel.size)⟩
   clear hS hN hkz
   obtain ⟨E, hE⟩ : ∃ E, E = endT ts (s.size : Nat) := ⟨_, rfl⟩
   rw [← hE] at HE hel HOk HAp
   clear hE
   obtain ⟨wm, rfl⟩ : ∃ wm, wm = wr := ⟨_, rfl⟩
   have hki : ¬ (k : Int) < (s.size : Int) := by omega
   obtain ⟨ne, hne⟩ : ∃ ne, ne = E.length := ⟨_, rfl⟩
   have HNe : Hid (E.length = ne) := hide hne.symm
   rw [← hne] at hel
   clear hne
   have HX6 : Hid (∀ ao5 cp5 w5 v6 w6, w5.ownsRow (w.heap.size + 1) 36 4 (.slice ao5 ne cp5) ne (toksCells E) → Below wm.heap.size wm w5 → w6.ownsRow (w.heap.size + 1) 36 4 v6 (ne + 1) (toksCells E ++ [.int .i64 6, .string ⟨#[]⟩, .int .i64 0, .int .i64 ((s.size : Nat) : Int)]) → (w5.alloc (.cells #[.int .i64 6, .string ⟨#[]⟩, .int .i64 0, .int .i64 ((s.size : Nat) : Int)] 36)).grownBy w6 (Value.ownBlock (.slice ao5 ne cp5)) → ∃ ao6 cp6, v6 = .slice ao6 (ne + 1) cp6 ∧ w6.ownsRow (w.heap.size + 1) 36 4 (.slice ao6 (ne + 1) cp6) (allP ts s.size).length (toksCells (allP ts s.size)) ∧ (allP ts s.size).length = ne + 1 ∧ w6.heap[w.heap.size]? = some (.cells #[.int .i64 0, .int .i64 0] 32) ∧ Below w.heap.size w w6) := hide fun ao5 cp5 w5 v6 w6 h5 hb5 ho hg => by
    obtain ⟨ao6, cp6, rfl, _⟩ := row_form ho
    obtain ⟨hbk, hbl⟩ := unhide HBk w5 hb5
    have hl : (allP ts s.size).length = ne + 1 := by rw [unhide HAp, List.length_append, unhide HNe]; rfl
    have hc : toksCells (allP ts s.size) = toksCells E ++ [.int .i64 6, .string ⟨#[]⟩, .int .i64 0, .int .i64 ((s.size : Nat) : Int)] := by rw [unhide HAp, toksCells_snoc]; rfl
    have hnb : some w.heap.size ≠ (Value.slice ao5 ne cp5).ownBlock := fun hx => by have := (h5.lt _ hx.symm).1; omega
    have hbk2 := blk_alloc hbk (.cells #[.int .i64 6, .string ⟨#[]⟩, .int .i64 0, .int .i64 ((s.size : Nat) : Int)] 36)
    exact ⟨ao6, cp6, rfl, by rw [hl, hc]; exact ho, hl, (hg.block _ (blk_lt hbk2) hnb).trans hbk2, below_grown (hbl.alloc hbl.size _) hg fun x hx => by have := (h5.lt x hx).1; omega⟩
   have HL5 : Hid (∀ w5, Below wm.heap.size wm w5 → w.heap.size + 1 ≤ w5.heap.size) := hide fun w5 hb => blk_lt (unhide HBk w5 hb).1
   go_wp2_with (first | (at_builtin; refine wpList_append_own_at _ rfl _ _ 30 rfl (w.heap.size + 1) 36 i0 _ 4 40 Tryz.underlying30 hi hz0 hz1 hz2 rfl (by decide) (.slice ao5 ne cp5) ne (toksCells E) rfl ((unhide HO5).1.alloc _) ⟨w5.heap.size, 0, none⟩ 1 1 [.int .i64 6, .string ⟨#[]⟩, .int .i64 0, .int .i64 ((s.size : Nat) : Int)] rfl rfl (four_new w5 _ _ _ _) (by simp [Value.oneCell']) (by unfold maxLen; omega) (by omega) (by have := unhide HL5 w5 (unhide HO5).2; simp; omega) ?_; intro v6 w6 hown6 hgrow6 hnil6 hat6; obtain ⟨ao6, cp6, hv6, hS6⟩ := unhide HX6 ao5 cp5 w5 v6 w6 (unhide HO5).1 (unhide HO5).2 hown6 hgrow6; subst hv6; have HS6 := hide hS6; clear hown6 hgrow6 hnil6 hat6 hS6) | (go_at_call 17; refine (unhide HE).mono ?_; rintro e w5 ⟨ao5, cp5, rfl, ho5, hb5⟩; rw [unhide HNe] at ho5 ⊢; have HO5 := hide (And.intro ho5 hb5); clear ho5 hb5))
   have HA6 : Hid (∀ t ∈ allP ts s.size, t.kind = 5 → TokOk t) := hide fun t ht h5 => by
    rw [unhide HAp] at ht
    rcases List.mem_append.1 ht with h | h
    ·exact unhide HOk t h
    ·simp at h; subst h; cases h5
   have HLex : Hid (∀ a, deepF 0 (allP ts s.size) = some a → lexR s.toList = ([], 3, a)) := hide fun a h => lexR_deep _ (by rw [toL_len]; exact hs) ts (unhide HAll) a (by rw [toL_len]; exact h)
   have HLok : Hid (deepF 0 (allP ts s.size) = none → lexR s.toList = (allP ts s.size, 0, 0)) := hide fun h => by
    have := lexR_ok s.toList (by rw [toL_len]; exact hs) ts (unhide HAll) (by rw [toL_len]; exact h)
    rwa [toL_len] at this
   obtain ⟨L, hL⟩ : ∃ L, L = allP ts s.size := ⟨_, rfl⟩
   rw [← hL] at HS6 HA6 HLex HLok
   clear hL HAp HOk HAll HE HX6 HL5 HO5 HBk HNe
   go_loopw [9, 10] (fun v i wr => ∃ i' : Nat, i' ≤ ne + 1 ∧ i = .int .i64 i' ∧ ∃ o : Int, v = .int .i64 o ∧ 0 ≤ o ∧ o ≤ 40 ∧ w6 = wr ∧ Hid (deepF 0 L = deepF o (L.drop i'))) (fun _ i _ => ne + 1 - (intOf i).toNat)
   case atStart => exact ⟨0, by omega, rfl, 0, rfl, by omega, by omega, rfl, hide (by simp)⟩
   case round =>
    obtain ⟨i, hi', rfl, o, rfl, ho0, ho1, rfl, hD⟩ := hrel
    by_cases hil : i < ne + 1
    ·obtain ⟨hrow, hlen, hblk, hbel⟩ := unhide HS6
     have hiL : i < L.length := by omega
     obtain ⟨t, ht⟩ : ∃ t, t = L[i] := ⟨_, rfl⟩
     have hti : L[i]? = some t := by rw [List.getElem?_eq_getElem hiL, ht]
     obtain ⟨g, cap, hv, _, _, d0, d1, d2, d3⟩ := tok_cells hrow i t hti
     simp only [Value.slice.injEq] at hv
     obtain ⟨rfl, hxx, rfl⟩ := hv
     clear hxx
     have HDc : Hid (deepF o (L.drop i) = if t.kind = 5 ∧ 40 < openAft o t then some t.pos else deepF (openAft o t) (L.drop (i + 1))) := hide (by rw [List.drop_eq_getElem_cons hiL, ← ht]; rfl)
     have htk := unhide HA6 t (List.mem_of_getElem? hti)
     clear hrow hlen hblk hbel hiL ht hti
     have hii : (i : Int) < (ne : Int) + 1 := by omega
     by_cases h5 : t.kind = 5
     ·obtain ⟨hnb, htl⟩ : noB t.text = true ∧ t.text.length ≤ 1000 := by
       rcases htk h5 with h | ⟨_, h1, _, h2⟩ | ⟨_, h1, _, h2⟩
       ·omega
       ·exact ⟨h1, h2⟩
       ·exact ⟨h1, h2⟩
      have hb5 : (t.kind != 5) = false := by rw [h5]; rfl
      have htt : (⟨t.text.toArray⟩ : ByteArray).toList = t.text := ByteArray.toList_mk t.text
      have hts : (⟨t.text.toArray⟩ : ByteArray).size ≤ 100000 := by rw [← toL_len, htt]; omega
      obtain ⟨bo, hbo⟩ : ∃ bo, opens t.text = bo := ⟨_, rfl⟩
      obtain ⟨bc, hbc⟩ : ∃ bc, closes t.text = bc := ⟨_, rfl⟩
      have HIo : Hid (∀ wx, Calls Tryz.prog 19 #[.string ⟨t.text.toArray⟩, .string ⟨#[32, 40, 32, 91, 32, 123, 32]⟩] wx fun e w' => e = .returned (.bool bo) ∧ wx = w') := hide fun wx => by
       have h := In_r ⟨t.text.toArray⟩ ⟨#[32, 40, 32, 91, 32, 123, 32]⟩ wx hts (by decide)
       rw [htt, show (⟨#[32, 40, 32, 91, 32, 123, 32]⟩ : ByteArray).toList = openL from by kernel_rfl, in_open _ hnb, hbo] at h
       exact h
      have HIc : Hid (∀ wx, Calls Tryz.prog 19 #[.string ⟨t.text.toArray⟩, .string ⟨#[32, 41, 32, 93, 32, 125, 32]⟩] wx fun e w' => e = .returned (.bool bc) ∧ wx = w') := hide fun wx => by
       have h := In_r ⟨t.text.toArray⟩ ⟨#[32, 41, 32, 93, 32, 125, 32]⟩ wx hts (by decide)
       rw [htt, show (⟨#[32, 41, 32, 93, 32, 125, 32]⟩ : ByteArray).toList = closeL from by kernel_rfl, in_close _ hnb, hbc] at h
       exact h
      clear hts htt hnb htl
      cases bo with
      | true =>
        have hoa : openAft o t = o + 1 := oa_open h5 hbo
        have hbf : bc = false := by rw [← hbc]; exact open_not_close _ hbo
        subst hbf
        by_cases h40 : o = 40
        ·subst h40
         have HY := hide (unhide HLex t.pos (by rw [unhide hD, unhide HDc, if_pos ⟨h5, by rw [hoa]; omega⟩]))
         obtain ⟨hrow, hlen, hblk, hbel⟩ := unhide HS6
         have c0 : w6.cell? ⟨w.heap.size, 0, none⟩ = some (.int .i64 0) := blk_cell hblk 0
         have c1 : w6.cell? ⟨w.heap.size, 1, none⟩ = some (.int .i64 0) := blk_cell hblk 1
         have f0 : w6.frozen? ⟨w.heap.size, 0, none⟩ = false := blk_frozen hblk 0
         have f1 : w6.frozen? ⟨w.heap.size, 1, none⟩ = false := blk_frozen hblk 1
         have HP : Hid (∀ w', Below w.heap.size w w' → ScanXPost s.toList w (.returned (.tuple #[.slice none 0 0, .agg #[.int .i64 3, .int .i64 t.pos]])) w') := hide fun w' hb => scanx_none (unhide HY) hb
         have HBl := hide hbel
         clear hrow hlen hblk hbel hD HY HDc htk hbo hbc hoa h5
         go_wp2_with (first | (go_at_call 19; with_reducible refine (unhide HIo _).mono ?_; rintro e w' ⟨rfl, rfl⟩) | (go_at_call 19; with_reducible refine (unhide HIc _).mono ?_; rintro e w' ⟨rfl, rfl⟩))
         go_region
         go_wp2
         refine bodyPost_ret (v := .tuple #[.slice none 0 0, .agg #[.int .i64 3, .int .i64 t.pos]]) (by simp [results, Tryz.results13, go_sem, *]) rfl ?_
         exact unhide HP _ (Below.drew (Ans.set (Ans.set (unhide HBl) _ _) _ _))
        ·have HD2 : Hid (deepF 0 L = deepF (o + 1) (L.drop (i + 1))) := hide (by rw [unhide hD, unhide HDc, if_neg (fun h => by have := h.2; omega), hoa])
         clear HDc hD htk hbo hbc hoa h5
         have h41 : ¬ 40 < o + 1 := by omega
         go_wp2_with (first | (go_at_call 19; with_reducible refine (unhide HIo _).mono ?_; rintro e w' ⟨rfl, rfl⟩) | (go_at_call 19; with_reducible refine (unhide HIc _).mono ?_; rintro e w' ⟨rfl, rfl⟩))
         go_roundw
         case rel => exact ⟨i + 1, by omega, by go_num, o + 1, by go_num, by omega, by omega, trivial, HD2⟩
         case measure => simp [intOf]; omega
      | false =>
        by_cases h0 : o = 0
        ·subst h0
         have hoa : openAft 0 t = 0 := by
          cases bc with
          | true => exact oa_close h5 hbc hbo
          | false => exact oa_else h5 hbc hbo
         have HD2 : Hid (deepF 0 L = deepF 0 (L.drop (i + 1))) := hide (by rw [unhide hD, unhide HDc, if_neg (fun h => by have := h.2; omega), hoa])
         clear HDc hD htk hbo hbc hoa h5
         go_wp2_with (first | (go_at_call 19; with_reducible refine (unhide HIo _).mono ?_; rintro e w' ⟨rfl, rfl⟩) | (go_at_call 19; with_reducible refine (unhide HIc _).mono ?_; rintro e w' ⟨rfl, rfl⟩))
         go_roundw
         case rel => exact ⟨i + 1, by omega, by go_num, 0, rfl, by omega, by omega, trivial, HD2⟩
         case measure => simp [intOf]; omega
        ·have hop : 0 < o := by omega
         have h41 : ¬ 40 < o := by omega
         cases bc with
         | true =>
           have hoa : openAft o t = o - 1 := by rw [oa_close h5 hbc hbo]; omega
           have HD2 : Hid (deepF 0 L = deepF (o - 1) (L.drop (i + 1))) := hide (by rw [unhide hD, unhide HDc, if_neg (fun h => by have := h.2; omega), hoa])
           clear HDc hD htk hbo hbc hoa h5
           go_wp2_with (first | (go_at_call 19; with_reducible refine (unhide HIo _).mono ?_; rintro e w' ⟨rfl, rfl⟩) | (go_at_call 19; with_reducible refine (unhide HIc _).mono ?_; rintro e w' ⟨rfl, rfl⟩))
           go_roundw
           case rel => exact ⟨i + 1, by omega, by go_num, o - 1, by go_num, by omega, by omega, trivial, HD2⟩
           case measure => simp [intOf]; omega
         | false =>
           have hoa : openAft o t = o := oa_else h5 hbc hbo
           have HD2 : Hid (deepF 0 L = deepF o (L.drop (i + 1))) := hide (by rw [unhide hD, unhide HDc, if_neg (fun h => by have := h.2; omega), hoa])
           clear HDc hD htk hbo hbc hoa h5
           go_wp2_with (first | (go_at_call 19; with_reducible refine (unhide HIo _).mono ?_; rintro e w' ⟨rfl, rfl⟩) | (go_at_call 19; with_reducible refine (unhide HIc _).mono ?_; rintro e w' ⟨rfl, rfl⟩))
           go_roundw
           case rel => exact ⟨i + 1, by omega, by go_num, o, rfl, by omega, by omega, trivial, HD2⟩
           case measure => simp [intOf]; omega
     ·have HD2 : Hid (deepF 0 L = deepF o (L.drop (i + 1))) := hide (by
       rw [unhide hD, unhide HDc, if_neg (fun h => h5 h.1)]
       unfold openAft
       rw [if_neg h5])
      have hb5 : (t.kind != 5) = true := by simpa using h5
      clear HDc hD htk
      go_wp2
      go_roundw
      case rel => exact ⟨i + 1, by omega, by go_num, o, rfl, by omega, by omega, trivial, HD2⟩
      case measure => simp [intOf]; omega
    ·have hie : i = ne + 1 := by omega
     obtain ⟨hrow, hlen, hblk, hbel⟩ := unhide HS6
     have HY := hide (unhide HLok (by rw [unhide hD, List.drop_eq_nil_of_le (by omega)]; rfl))
     have c0 : w6.cell? ⟨w.heap.size, 0, none⟩ = some (.int .i64 0) := blk_cell hblk 0
     have c1 : w6.cell? ⟨w.heap.size, 1, none⟩ = some (.int .i64 0) := blk_cell hblk 1
     have f0 : w6.frozen? ⟨w.heap.size, 0, none⟩ = false := blk_frozen hblk 0
     have f1 : w6.frozen? ⟨w.heap.size, 1, none⟩ = false := blk_frozen hblk 1
     have HP : Hid (∀ a b, ScanXPost s.toList w (.returned (.tuple #[.slice ao6 (ne + 1) cp6, .agg #[.int .i64 0, .int .i64 0]])) ((w6.setCell ⟨w.heap.size, 0, none⟩ a).setCell ⟨w.heap.size, 1, none⟩ b)) := hide fun a b => by
      refine ⟨.slice ao6 (ne + 1) cp6, by rw [unhide HY], ?_, Ans.set (Ans.set hbel _ _) _ _⟩
      rw [unhide HY]
      exact row_base (Nat.le_succ _) (ownsRow_setCell_below (ownsRow_setCell_below hrow (Nat.lt_succ_self _) _) (Nat.lt_succ_self _) _)
     clear hrow hlen hblk hbel hD HY
     have hii : ¬ (i : Int) < (ne : Int) + 1 := by omega
     clear hie
     go_wp2
     refine bodyPost_ret (v := .tuple #[.slice ao6 (ne + 1) cp6, .agg #[.int .i64 0, .int .i64 0]]) (by simp [results, Tryz.results13, go_sem, *]) rfl ?_
     exact unhide HP _ _
theorem ScanR_any (s : ByteArray) (w : World) : Calls Tryz.prog 13 #[.string s] w (ScanXPost s.toList w) := by
 by_cases h : 8192 < s.size
 ·exact ScanR_big s w h
 ·exact ScanR_in s w (by omega)
end Go.Proofs.YtgckmkiiheaeaaaGreatDoor
