/- A quicker lexer for the kernel, alike with the one of the proofs; the sources of ParseNests; its walks. -/
import Derived.Test.YtnlmgifjmlpgoaaGreatDoorQe
import Derived.KernelRfl
set_option linter.unusedVariables false
set_option linter.unusedSimpArgs false
set_option maxRecDepth 100000
namespace Go.Proofs.YtnlmgifjmlpgoaaGreatDoor

namespace Lx
/-- What a line's end puts behind the last token. -/
def endD (last : Option Tok) (k : Int) : List Tok :=
  match last with
  | some t => if tokEnds t.kind t.text then [⟨5, [59], 1, k⟩] else []
  | none => []
theorem endD_eq (ts : List Tok) (k : Int) : endT ts k = ts ++ endD ts.getLast? k := by
  unfold endT endD
  cases ts.getLast? with
  | none => simp
  | some t => simp only; split <;> simp
/-- One part, by what is left of the source alone. -/
def partD (d : List UInt8) (k : Nat) (last : Option Tok) : Sum Nat (Nat × List Tok) :=
  match d with
  | [] => .inl 0
  | c :: _ =>
    if c = 32 ∨ c = 9 then .inr (1, [])
    else if c = 10 then .inr (1, endD last k)
    else if d.take 2 == [47, 47] then .inr ((d.takeWhile notNl).length, [])
    else if isLet c = true then (if 24 < (d.takeWhile isNam).length then .inl k else .inr ((d.takeWhile isNam).length, [⟨nmK (d.takeWhile isNam), d.takeWhile isNam, 0, k⟩]))
    else if isDig c = true then (match numF d 0 [] with | .inl p => .inl (k + p) | .inr q => .inr (q.1, q.2.map fun t => { t with pos := k }))
    else if c = 34 then (match textF d 0 [] with | .inl p => .inl (k + p) | .inr q => .inr (q.1, q.2.map fun t => { t with pos := k }))
    else if mLen d = 0 then .inl k else .inr (mLen d, [⟨5, d.take (mLen d), 0, k⟩])
def scanD : Nat → List UInt8 → Nat → Option Tok → Sum Nat (List Tok)
  | 0, _, _, _ => .inr []
  | f + 1, d, k, last =>
    match d with
    | [] => .inr []
    | _ :: _ =>
      match partD d k last with
      | .inl p => .inl p
      | .inr (a, ns) =>
        match scanD f (d.drop a) (k + a) (ns.getLast?.or last) with
        | .inl p => .inl p
        | .inr r => .inr (ns ++ r)

theorem tw_take (p : UInt8 → Bool) : ∀ d : List UInt8, d.take (d.takeWhile p).length = d.takeWhile p
  | [] => rfl
  | c :: r => by
    by_cases h : p c = true
    · simp [h, tw_take p r]
    · simp [h]
theorem re_D (p : UInt8 → Bool) (l : List UInt8) (k : Nat) : runEnd p l k = k + ((l.drop k).takeWhile p).length := rfl
theorem sub_D (l : List UInt8) (k n : Nat) : sub l k (k + n) = (l.drop k).take n := by unfold sub; rw [Nat.add_sub_cancel_left]
theorem letAt_D (l : List UInt8) (k n : Nat) : letAt l (k + n) = letAt (l.drop k) n := by unfold letAt; rw [List.getElem?_drop]
def upD (k : Nat) (ts : List Tok) : Sum Nat (Nat × List Tok) → Sum Nat (Nat × List Tok)
  | .inl p => .inl p
  | .inr q => .inr (k + q.1, ts ++ q.2)
theorem num_D (l : List UInt8) (k : Nat) (ts : List Tok) : numF l k ts = upD k ts (match numF (l.drop k) 0 [] with | .inl p => .inl (k + p) | .inr q => .inr (q.1, q.2.map fun t => { t with pos := k })) := by
  unfold numF
  have e0 : runEnd isDig (l.drop k) 0 = 0 + ((l.drop k).takeWhile isDig).length := rfl
  rw [re_D, e0, sub_D, sub_D, letAt_D, letAt_D, List.drop_zero]
  generalize ((l.drop k).takeWhile isDig).length = n
  split
  · rfl
  · rw [Nat.zero_add]
    split <;> rfl
theorem text_D (l : List UInt8) (k : Nat) (ts : List Tok) : textF l k ts = upD k ts (match textF (l.drop k) 0 [] with | .inl p => .inl (k + p) | .inr q => .inr (q.1, q.2.map fun t => { t with pos := k })) := by
  unfold textF
  rw [List.drop_drop]
  generalize txt (l.drop (k + (0 + 1))) = x
  obtain ⟨m, n⟩ := x
  cases m with
  | none => simp only [upD]; congr 1; omega
  | some m =>
    simp only
    split
    · rfl
    · simp only [upD, List.nil_append, List.map_cons, List.map_nil]; congr 2; omega
theorem part_D (l : List UInt8) (k : Nat) (ts : List Tok) (hk : k < l.length) : partF l k ts = upD k ts (partD (l.drop k) k ts.getLast?) := by
  have hd : l.drop k = l[k] :: l.drop (k + 1) := List.drop_eq_getElem_cons hk
  have hc : l[k]? = some l[k] := List.getElem?_eq_getElem hk
  unfold partF partD
  rw [hc]
  generalize hl : l[k] = c at *
  rw [hd]
  simp only
  rw [← hd]
  by_cases h1 : c = 32 ∨ c = 9
  · rw [if_pos h1, if_pos h1]; simp [upD]
  rw [if_neg h1, if_neg h1]
  by_cases h2 : c = 10
  · rw [if_pos h2, if_pos h2, endD_eq]; rfl
  rw [if_neg h2, if_neg h2]
  have e : cmt l k = ((l.drop k).take 2 == [47, 47]) := rfl
  rw [e]
  by_cases h3 : ((l.drop k).take 2 == [47, 47]) = true
  · rw [if_pos h3, if_pos h3, re_D]; simp [upD]
  rw [if_neg h3, if_neg h3]
  by_cases h4 : isLet c = true
  · rw [if_pos h4, if_pos h4]
    unfold nameF
    rw [re_D, sub_D, tw_take, Nat.add_sub_cancel_left]
    split <;> rfl
  rw [if_neg h4, if_neg h4]
  by_cases h5 : isDig c = true
  · rw [if_pos h5, if_pos h5]; exact num_D l k ts
  rw [if_neg h5, if_neg h5]
  by_cases h6 : c = 34
  · rw [if_pos h6, if_pos h6]; exact text_D l k ts
  rw [if_neg h6, if_neg h6]
  unfold markF
  rw [sub_D]
  split <;> rfl
theorem last_app (ts ns : List Tok) : (ts ++ ns).getLast? = ns.getLast?.or ts.getLast? := by
  rw [List.getLast?_append]
theorem scan_D : ∀ (f : Nat) (l : List UInt8) (k : Nat) (ts : List Tok), scanF f l k ts = match scanD f (l.drop k) k ts.getLast? with | .inl p => .inl p | .inr r => .inr (ts ++ r)
  | 0, l, k, ts => by simp [scanF, scanD]
  | f + 1, l, k, ts => by
    unfold scanF scanD
    by_cases hk : k < l.length
    · rw [if_pos hk, part_D l k ts hk]
      have hd : l.drop k = l[k] :: l.drop (k + 1) := List.drop_eq_getElem_cons hk
      rw [hd]
      simp only
      rw [← hd]
      cases hp : partD (l.drop k) k ts.getLast? with
      | inl p => rfl
      | inr q =>
        obtain ⟨a, ns⟩ := q
        simp only [upD]
        rw [scan_D f l (k + a) (ts ++ ns), List.drop_drop, last_app]
        cases scanD f (l.drop (k + a)) (k + a) (ns.getLast?.or ts.getLast?) with
        | inl p => rfl
        | inr r => simp
    · rw [if_neg hk, List.drop_eq_nil_of_le (by omega)]
      simp
/-- Layer 1 once more, each part taken off the front: quicker for the kernel. -/
def lexD (l : List UInt8) : List Tok × Int × Int :=
  if 8192 < l.length then ([], 1, 8192)
  else match scanD (l.length + 1) l 0 none with
    | .inl p => ([], 2, (p : Int))
    | .inr ts =>
      match deepF 0 (allP ts l.length) with
      | some a => ([], 3, a)
      | none => (allP ts l.length, 0, 0)
theorem lex_D (l : List UInt8) : lexR l = lexD l := by
  unfold lexR lexD scanAll
  rw [scan_D, List.drop_zero, List.getLast?_nil, Nat.sub_zero]
  cases scanD (l.length + 1) l 0 none with
  | inl p => rfl
  | inr r => rfl
end Lx

open Go.RowKit Go.Proofs.YtnlmgifjmlpgoaaGreatDoor.Lx Go.Proofs.YtnlmgifjmlpgoaaGreatDoor.Px
def faultD (l : List UInt8) : Int × Int := match lexD l with | (ts, a, b) => if a = 0 then (match runF ts with | .bad p => (4, p) | _ => (0, 0)) else (a, b)
theorem fault_D (l : List UInt8) : faultR l = faultD l := by
  unfold faultR faultD
  rw [lex_D] <;> (generalize lexD l = x; obtain ⟨ts, a, b⟩ := x; rfl)
theorem appL (a b : ByteArray) : (a ++ b).toList = a.toList ++ b.toList := by
  rw [ByteArray.toList_eq, ByteArray.toList_eq, ByteArray.toList_eq, ByteArray.data_append, Array.toList_append]
theorem mkL (a : Array UInt8) : (⟨a⟩ : ByteArray).toList = a.toList := by rw [ByteArray.toList_eq]
/-- s with n times o ahead of it and n times c behind it. -/
def nestN (o c s : List UInt8) : Nat → List UInt8
  | 0 => s
  | n + 1 => o ++ nestN o c s n ++ c
theorem nestN_len (o c s : List UInt8) : ∀ n, (nestN o c s n).length = s.length + (o.length + c.length) * n
  | 0 => by simp [nestN]
  | n + 1 => by rw [nestN, List.length_append, List.length_append, nestN_len o c s n, Nat.mul_succ]; omega
def opns : List (List UInt8) := [[123, 10], [40], [102, 40], [105, 102, 32, 120, 32, 123, 10], [115, 119, 105, 116, 99, 104, 32, 123, 32, 99, 97, 115, 101, 32, 120, 58, 32]]
def shts : List (List UInt8) := [[125, 10], [41], [41], [125, 10], [125, 10]]
def nestB (k d : Nat) : List UInt8 := if k = 1 ∨ k = 2 then [120, 32, 61, 32] ++ nestN (opns.getD k []) (shts.getD k []) [120] d ++ [10] else nestN (opns.getD k []) (shts.getD k []) [] d
def nestS (k d : Nat) : List UInt8 := [102, 117, 110, 99, 32, 102, 40, 41, 32, 123, 10] ++ nestB k d ++ [125, 10]
def nestOk (k d : Nat) : Bool := if 40 < d + 1 then (faultD (nestS k d)).1 == 3 else faultD (nestS k d) == (0, 0)
def nestAll (k a n : Nat) : Bool := (List.range n).all fun i => nestOk k (a + i)
theorem nestAll_at {k a n d : Nat} (h : nestAll k a n = true) (h1 : a ≤ d) (h2 : d < a + n) : nestOk k d = true := by
  have := List.all_eq_true.1 h (d - a) (List.mem_range.2 (by omega))
  rwa [Nat.add_sub_cancel' h1] at this
theorem nestOk_deep {k d : Nat} (h : nestOk k d = true) (hd : 40 < d + 1) : (faultR (nestS k d)).1 = 3 := by
  unfold nestOk at h
  rw [if_pos hd] at h
  rw [fault_D]
  simpa using h
theorem nestOk_fine {k d : Nat} (h : nestOk k d = true) (hd : ¬ 40 < d + 1) : faultR (nestS k d) = (0, 0) := by
  unfold nestOk at h
  rw [if_neg hd] at h
  rw [fault_D]
  simpa using h
set_option maxHeartbeats 4000000 in
theorem nests_out (a b : Int) (w : World) (hv : Vars w) (h : a < 0 ∨ 4 < a ∨ b < 0 ∨ 100 < b) : Calls Tryz.prog 5 #[.int .i64 a, .int .i64 b] w fun e w' => e = .returned (.bool true) ∧ Below w.heap.size w w' := by
  have HA := hide (anchor_any w hv)
  clear hv
  by_cases h1 : a < 0
  · skip
    clear h
    go_enter Tryz.func5, Tryz.ntmps5
    go_wp2_with fail
    refine (unhide HA).mono ?_
    rintro e w1 ⟨rfl, B1⟩
    go_wp2
    exact bodyPost_ret (v := .bool true) (by simp [results, Tryz.results5, go_sem]) rfl ⟨rfl, B1⟩
  by_cases h2 : 4 < a
  · skip
    clear h
    go_enter Tryz.func5, Tryz.ntmps5
    go_wp2_with fail
    refine (unhide HA).mono ?_
    rintro e w1 ⟨rfl, B1⟩
    go_wp2
    exact bodyPost_ret (v := .bool true) (by simp [results, Tryz.results5, go_sem]) rfl ⟨rfl, B1⟩
  by_cases h3 : b < 0
  · skip
    clear h
    go_enter Tryz.func5, Tryz.ntmps5
    go_wp2_with fail
    refine (unhide HA).mono ?_
    rintro e w1 ⟨rfl, B1⟩
    go_wp2
    exact bodyPost_ret (v := .bool true) (by simp [results, Tryz.results5, go_sem]) rfl ⟨rfl, B1⟩
  · have h4 : 100 < b := by omega
    clear h
    go_enter Tryz.func5, Tryz.ntmps5
    go_wp2_with fail
    refine (unhide HA).mono ?_
    rintro e w1 ⟨rfl, B1⟩
    go_wp2
    exact bodyPost_ret (v := .bool true) (by simp [results, Tryz.results5, go_sem]) rfl ⟨rfl, B1⟩

set_option maxHeartbeats 4000000 in
theorem nests_0 (d : Nat) (hd : d ≤ 100) (hok : nestOk 0 d = true) (w : World) (hv : Vars w) : Calls Tryz.prog 5 #[.int .i64 0, .int .i64 d] w fun e w' => e = .returned (.bool true) ∧ Below w.heap.size w w' := by
  have HA := hide (anchor_any w hv)
  have HV := hide hv
  have HOK := hide hok
  clear hv hok
  have d0 : ¬ (d : Int) < 0 := by omega
  have d1 : ¬ (100 : Int) < d := by omega
  go_enter Tryz.func5, Tryz.ntmps5
  go_wp2_with fail
  refine (unhide HA).mono ?_
  rintro e w1 ⟨rfl, B1⟩
  have hz1 := B1.size
  go_wp2
  go_loopg [7, 59] d (fun g v7 vc wr => ∃ (j : Nat) (t : ByteArray), g = d - j ∧ j ≤ d ∧ vc = .int .i64 j ∧ v7 = .string t ∧ t.toList = nestN [123, 10] [125, 10] [] j ∧ Below w.heap.size w wr)
  case atStart => exact ⟨0, _, by omega, by omega, rfl, rfl, mkL _, by (repeat (first | with_reducible assumption | with_reducible refine Below.drew ?_ | (with_reducible refine Below.alloc ?_ (by first | omega | (simp <;> omega)) _)))⟩
  case round =>
    obtain ⟨j, t, rfl, hj, rfl, rfl, ht, hB⟩ := hrel
    have HT := hide ht
    have hsz : t.size ≤ 2000 := by rw [← toL_len, ht, nestN_len]; simp; omega
    clear ht
    have hzr := hB.size
    by_cases hlt : j < d
    · have hltz : (j : Int) < d := by omega
      go_wp2_with fail
      go_roundg (d - (j + 1))
      case measure => omega
      case rel => exact ⟨j + 1, _, rfl, by omega, by go_num, rfl, by rw [appL, appL, unhide HT, mkL, mkL, nestN], by (repeat (first | with_reducible assumption | with_reducible refine Below.drew ?_ | (with_reducible refine Below.alloc ?_ (by first | omega | (simp <;> omega)) _)))⟩
    · have hltz : ¬ (j : Int) < d := by omega
      obtain rfl : j = d := by omega
      clear hlt
      have HP := hide (Parse_fault (⟨#[102, 117, 110, 99, 32, 102, 40, 41, 32, 123, 10]⟩ ++ t ++ ⟨#[125, 10]⟩ : ByteArray))
      have hs : (⟨#[102, 117, 110, 99, 32, 102, 40, 41, 32, 123, 10]⟩ ++ t ++ ⟨#[125, 10]⟩ : ByteArray).toList = nestS 0 j := by
        simp only [appL, mkL, unhide HT]; simp [nestS, nestB, opns, shts]
      rw [hs] at HP
      clear hs
      go_wp2_with fail
      refine (unhide HP _ ((unhide HV).below (unhide HV).lt (by (repeat (first | with_reducible assumption | with_reducible refine Below.drew ?_ | (with_reducible refine Below.alloc ?_ (by first | omega | (simp <;> omega)) _)))))).mono ?_
      rintro e w2 ⟨B2, kd, tx, nm, ps, ao, n, cp, rfl⟩
      have hz2 := B2.size
      have B2' : Below w.heap.size w w2 := Below.trans (b := _) (by (repeat (first | with_reducible assumption | with_reducible refine Below.drew ?_ | (with_reducible refine Below.alloc ?_ (by first | omega | (simp <;> omega)) _)))) ⟨B2.os, B2.tape, B2.output, B2.size, fun k hk => B2.block k (by first | omega | (simp <;> omega))⟩
      have hz3 := B2'.size
      clear B2 HP
      by_cases h40 : 40 < j + 1
      · have h40z : (40 : Int) < (j : Int) + 1 := by omega
        have e3 := nestOk_deep (unhide HOK) h40
        rw [e3]
        go_wp2
        exact bodyPost_ret (v := .bool true) (by simp [results, Tryz.results5, go_sem]) rfl ⟨rfl, by (repeat (first | with_reducible assumption | with_reducible refine Below.drew ?_ | (with_reducible refine Below.alloc ?_ (by first | omega | (simp <;> omega)) _)))⟩
      · have h40z : ¬ (40 : Int) < (j : Int) + 1 := by omega
        have e3 := nestOk_fine (unhide HOK) h40
        rw [e3]
        go_wp2
        exact bodyPost_ret (v := .bool true) (by simp [results, Tryz.results5, go_sem]) rfl ⟨rfl, by (repeat (first | with_reducible assumption | with_reducible refine Below.drew ?_ | (with_reducible refine Below.alloc ?_ (by first | omega | (simp <;> omega)) _)))⟩

set_option maxHeartbeats 4000000 in
theorem nests_1 (d : Nat) (hd : d ≤ 100) (hok : nestOk 1 d = true) (w : World) (hv : Vars w) : Calls Tryz.prog 5 #[.int .i64 1, .int .i64 d] w fun e w' => e = .returned (.bool true) ∧ Below w.heap.size w w' := by
  have HA := hide (anchor_any w hv)
  have HV := hide hv
  have HOK := hide hok
  clear hv hok
  have d0 : ¬ (d : Int) < 0 := by omega
  have d1 : ¬ (100 : Int) < d := by omega
  go_enter Tryz.func5, Tryz.ntmps5
  go_wp2_with fail
  refine (unhide HA).mono ?_
  rintro e w1 ⟨rfl, B1⟩
  have hz1 := B1.size
  go_wp2
  go_loopg [7, 42] d (fun g v7 vc wr => ∃ (j : Nat) (t : ByteArray), g = d - j ∧ j ≤ d ∧ vc = .int .i64 j ∧ v7 = .string t ∧ t.toList = nestN [40] [41] [120] j ∧ Below w.heap.size w wr)
  case atStart => exact ⟨0, _, by omega, by omega, rfl, rfl, mkL _, by (repeat (first | with_reducible assumption | with_reducible refine Below.drew ?_ | (with_reducible refine Below.alloc ?_ (by first | omega | (simp <;> omega)) _)))⟩
  case round =>
    obtain ⟨j, t, rfl, hj, rfl, rfl, ht, hB⟩ := hrel
    have HT := hide ht
    have hsz : t.size ≤ 2000 := by rw [← toL_len, ht, nestN_len]; simp; omega
    clear ht
    have hzr := hB.size
    by_cases hlt : j < d
    · have hltz : (j : Int) < d := by omega
      go_wp2_with fail
      go_roundg (d - (j + 1))
      case measure => omega
      case rel => exact ⟨j + 1, _, rfl, by omega, by go_num, rfl, by rw [appL, appL, unhide HT, mkL, mkL, nestN], by (repeat (first | with_reducible assumption | with_reducible refine Below.drew ?_ | (with_reducible refine Below.alloc ?_ (by first | omega | (simp <;> omega)) _)))⟩
    · have hltz : ¬ (j : Int) < d := by omega
      obtain rfl : j = d := by omega
      clear hlt
      have HP := hide (Parse_fault (⟨#[102, 117, 110, 99, 32, 102, 40, 41, 32, 123, 10]⟩ ++ (⟨#[120, 32, 61, 32]⟩ ++ t ++ ⟨#[10]⟩) ++ ⟨#[125, 10]⟩ : ByteArray))
      have hs : (⟨#[102, 117, 110, 99, 32, 102, 40, 41, 32, 123, 10]⟩ ++ (⟨#[120, 32, 61, 32]⟩ ++ t ++ ⟨#[10]⟩) ++ ⟨#[125, 10]⟩ : ByteArray).toList = nestS 1 j := by
        simp only [appL, mkL, unhide HT]; simp [nestS, nestB, opns, shts]
      rw [hs] at HP
      clear hs
      go_wp2_with fail
      refine (unhide HP _ ((unhide HV).below (unhide HV).lt (by (repeat (first | with_reducible assumption | with_reducible refine Below.drew ?_ | (with_reducible refine Below.alloc ?_ (by first | omega | (simp <;> omega)) _)))))).mono ?_
      rintro e w2 ⟨B2, kd, tx, nm, ps, ao, n, cp, rfl⟩
      have hz2 := B2.size
      have B2' : Below w.heap.size w w2 := Below.trans (b := _) (by (repeat (first | with_reducible assumption | with_reducible refine Below.drew ?_ | (with_reducible refine Below.alloc ?_ (by first | omega | (simp <;> omega)) _)))) ⟨B2.os, B2.tape, B2.output, B2.size, fun k hk => B2.block k (by first | omega | (simp <;> omega))⟩
      have hz3 := B2'.size
      clear B2 HP
      by_cases h40 : 40 < j + 1
      · have h40z : (40 : Int) < (j : Int) + 1 := by omega
        have e3 := nestOk_deep (unhide HOK) h40
        rw [e3]
        go_wp2
        exact bodyPost_ret (v := .bool true) (by simp [results, Tryz.results5, go_sem]) rfl ⟨rfl, by (repeat (first | with_reducible assumption | with_reducible refine Below.drew ?_ | (with_reducible refine Below.alloc ?_ (by first | omega | (simp <;> omega)) _)))⟩
      · have h40z : ¬ (40 : Int) < (j : Int) + 1 := by omega
        have e3 := nestOk_fine (unhide HOK) h40
        rw [e3]
        go_wp2
        exact bodyPost_ret (v := .bool true) (by simp [results, Tryz.results5, go_sem]) rfl ⟨rfl, by (repeat (first | with_reducible assumption | with_reducible refine Below.drew ?_ | (with_reducible refine Below.alloc ?_ (by first | omega | (simp <;> omega)) _)))⟩

set_option maxHeartbeats 4000000 in
theorem nests_2 (d : Nat) (hd : d ≤ 100) (hok : nestOk 2 d = true) (w : World) (hv : Vars w) : Calls Tryz.prog 5 #[.int .i64 2, .int .i64 d] w fun e w' => e = .returned (.bool true) ∧ Below w.heap.size w w' := by
  have HA := hide (anchor_any w hv)
  have HV := hide hv
  have HOK := hide hok
  clear hv hok
  have d0 : ¬ (d : Int) < 0 := by omega
  have d1 : ¬ (100 : Int) < d := by omega
  go_enter Tryz.func5, Tryz.ntmps5
  go_wp2_with fail
  refine (unhide HA).mono ?_
  rintro e w1 ⟨rfl, B1⟩
  have hz1 := B1.size
  go_wp2
  go_loopg [7, 42] d (fun g v7 vc wr => ∃ (j : Nat) (t : ByteArray), g = d - j ∧ j ≤ d ∧ vc = .int .i64 j ∧ v7 = .string t ∧ t.toList = nestN [102, 40] [41] [120] j ∧ Below w.heap.size w wr)
  case atStart => exact ⟨0, _, by omega, by omega, rfl, rfl, mkL _, by (repeat (first | with_reducible assumption | with_reducible refine Below.drew ?_ | (with_reducible refine Below.alloc ?_ (by first | omega | (simp <;> omega)) _)))⟩
  case round =>
    obtain ⟨j, t, rfl, hj, rfl, rfl, ht, hB⟩ := hrel
    have HT := hide ht
    have hsz : t.size ≤ 2000 := by rw [← toL_len, ht, nestN_len]; simp; omega
    clear ht
    have hzr := hB.size
    by_cases hlt : j < d
    · have hltz : (j : Int) < d := by omega
      go_wp2_with fail
      go_roundg (d - (j + 1))
      case measure => omega
      case rel => exact ⟨j + 1, _, rfl, by omega, by go_num, rfl, by rw [appL, appL, unhide HT, mkL, mkL, nestN], by (repeat (first | with_reducible assumption | with_reducible refine Below.drew ?_ | (with_reducible refine Below.alloc ?_ (by first | omega | (simp <;> omega)) _)))⟩
    · have hltz : ¬ (j : Int) < d := by omega
      obtain rfl : j = d := by omega
      clear hlt
      have HP := hide (Parse_fault (⟨#[102, 117, 110, 99, 32, 102, 40, 41, 32, 123, 10]⟩ ++ (⟨#[120, 32, 61, 32]⟩ ++ t ++ ⟨#[10]⟩) ++ ⟨#[125, 10]⟩ : ByteArray))
      have hs : (⟨#[102, 117, 110, 99, 32, 102, 40, 41, 32, 123, 10]⟩ ++ (⟨#[120, 32, 61, 32]⟩ ++ t ++ ⟨#[10]⟩) ++ ⟨#[125, 10]⟩ : ByteArray).toList = nestS 2 j := by
        simp only [appL, mkL, unhide HT]; simp [nestS, nestB, opns, shts]
      rw [hs] at HP
      clear hs
      go_wp2_with fail
      refine (unhide HP _ ((unhide HV).below (unhide HV).lt (by (repeat (first | with_reducible assumption | with_reducible refine Below.drew ?_ | (with_reducible refine Below.alloc ?_ (by first | omega | (simp <;> omega)) _)))))).mono ?_
      rintro e w2 ⟨B2, kd, tx, nm, ps, ao, n, cp, rfl⟩
      have hz2 := B2.size
      have B2' : Below w.heap.size w w2 := Below.trans (b := _) (by (repeat (first | with_reducible assumption | with_reducible refine Below.drew ?_ | (with_reducible refine Below.alloc ?_ (by first | omega | (simp <;> omega)) _)))) ⟨B2.os, B2.tape, B2.output, B2.size, fun k hk => B2.block k (by first | omega | (simp <;> omega))⟩
      have hz3 := B2'.size
      clear B2 HP
      by_cases h40 : 40 < j + 1
      · have h40z : (40 : Int) < (j : Int) + 1 := by omega
        have e3 := nestOk_deep (unhide HOK) h40
        rw [e3]
        go_wp2
        exact bodyPost_ret (v := .bool true) (by simp [results, Tryz.results5, go_sem]) rfl ⟨rfl, by (repeat (first | with_reducible assumption | with_reducible refine Below.drew ?_ | (with_reducible refine Below.alloc ?_ (by first | omega | (simp <;> omega)) _)))⟩
      · have h40z : ¬ (40 : Int) < (j : Int) + 1 := by omega
        have e3 := nestOk_fine (unhide HOK) h40
        rw [e3]
        go_wp2
        exact bodyPost_ret (v := .bool true) (by simp [results, Tryz.results5, go_sem]) rfl ⟨rfl, by (repeat (first | with_reducible assumption | with_reducible refine Below.drew ?_ | (with_reducible refine Below.alloc ?_ (by first | omega | (simp <;> omega)) _)))⟩

set_option maxHeartbeats 4000000 in
theorem nests_3 (d : Nat) (hd : d ≤ 100) (hok : nestOk 3 d = true) (w : World) (hv : Vars w) : Calls Tryz.prog 5 #[.int .i64 3, .int .i64 d] w fun e w' => e = .returned (.bool true) ∧ Below w.heap.size w w' := by
  have HA := hide (anchor_any w hv)
  have HV := hide hv
  have HOK := hide hok
  clear hv hok
  have d0 : ¬ (d : Int) < 0 := by omega
  have d1 : ¬ (100 : Int) < d := by omega
  go_enter Tryz.func5, Tryz.ntmps5
  go_wp2_with fail
  refine (unhide HA).mono ?_
  rintro e w1 ⟨rfl, B1⟩
  have hz1 := B1.size
  go_wp2
  go_loopg [7, 59] d (fun g v7 vc wr => ∃ (j : Nat) (t : ByteArray), g = d - j ∧ j ≤ d ∧ vc = .int .i64 j ∧ v7 = .string t ∧ t.toList = nestN [105, 102, 32, 120, 32, 123, 10] [125, 10] [] j ∧ Below w.heap.size w wr)
  case atStart => exact ⟨0, _, by omega, by omega, rfl, rfl, mkL _, by (repeat (first | with_reducible assumption | with_reducible refine Below.drew ?_ | (with_reducible refine Below.alloc ?_ (by first | omega | (simp <;> omega)) _)))⟩
  case round =>
    obtain ⟨j, t, rfl, hj, rfl, rfl, ht, hB⟩ := hrel
    have HT := hide ht
    have hsz : t.size ≤ 2000 := by rw [← toL_len, ht, nestN_len]; simp; omega
    clear ht
    have hzr := hB.size
    by_cases hlt : j < d
    · have hltz : (j : Int) < d := by omega
      go_wp2_with fail
      go_roundg (d - (j + 1))
      case measure => omega
      case rel => exact ⟨j + 1, _, rfl, by omega, by go_num, rfl, by rw [appL, appL, unhide HT, mkL, mkL, nestN], by (repeat (first | with_reducible assumption | with_reducible refine Below.drew ?_ | (with_reducible refine Below.alloc ?_ (by first | omega | (simp <;> omega)) _)))⟩
    · have hltz : ¬ (j : Int) < d := by omega
      obtain rfl : j = d := by omega
      clear hlt
      have HP := hide (Parse_fault (⟨#[102, 117, 110, 99, 32, 102, 40, 41, 32, 123, 10]⟩ ++ t ++ ⟨#[125, 10]⟩ : ByteArray))
      have hs : (⟨#[102, 117, 110, 99, 32, 102, 40, 41, 32, 123, 10]⟩ ++ t ++ ⟨#[125, 10]⟩ : ByteArray).toList = nestS 3 j := by
        simp only [appL, mkL, unhide HT]; simp [nestS, nestB, opns, shts]
      rw [hs] at HP
      clear hs
      go_wp2_with fail
      refine (unhide HP _ ((unhide HV).below (unhide HV).lt (by (repeat (first | with_reducible assumption | with_reducible refine Below.drew ?_ | (with_reducible refine Below.alloc ?_ (by first | omega | (simp <;> omega)) _)))))).mono ?_
      rintro e w2 ⟨B2, kd, tx, nm, ps, ao, n, cp, rfl⟩
      have hz2 := B2.size
      have B2' : Below w.heap.size w w2 := Below.trans (b := _) (by (repeat (first | with_reducible assumption | with_reducible refine Below.drew ?_ | (with_reducible refine Below.alloc ?_ (by first | omega | (simp <;> omega)) _)))) ⟨B2.os, B2.tape, B2.output, B2.size, fun k hk => B2.block k (by first | omega | (simp <;> omega))⟩
      have hz3 := B2'.size
      clear B2 HP
      by_cases h40 : 40 < j + 1
      · have h40z : (40 : Int) < (j : Int) + 1 := by omega
        have e3 := nestOk_deep (unhide HOK) h40
        rw [e3]
        go_wp2
        exact bodyPost_ret (v := .bool true) (by simp [results, Tryz.results5, go_sem]) rfl ⟨rfl, by (repeat (first | with_reducible assumption | with_reducible refine Below.drew ?_ | (with_reducible refine Below.alloc ?_ (by first | omega | (simp <;> omega)) _)))⟩
      · have h40z : ¬ (40 : Int) < (j : Int) + 1 := by omega
        have e3 := nestOk_fine (unhide HOK) h40
        rw [e3]
        go_wp2
        exact bodyPost_ret (v := .bool true) (by simp [results, Tryz.results5, go_sem]) rfl ⟨rfl, by (repeat (first | with_reducible assumption | with_reducible refine Below.drew ?_ | (with_reducible refine Below.alloc ?_ (by first | omega | (simp <;> omega)) _)))⟩

set_option maxHeartbeats 4000000 in
theorem nests_4 (d : Nat) (hd : d ≤ 100) (hok : nestOk 4 d = true) (w : World) (hv : Vars w) : Calls Tryz.prog 5 #[.int .i64 4, .int .i64 d] w fun e w' => e = .returned (.bool true) ∧ Below w.heap.size w w' := by
  have HA := hide (anchor_any w hv)
  have HV := hide hv
  have HOK := hide hok
  clear hv hok
  have d0 : ¬ (d : Int) < 0 := by omega
  have d1 : ¬ (100 : Int) < d := by omega
  go_enter Tryz.func5, Tryz.ntmps5
  go_wp2_with fail
  refine (unhide HA).mono ?_
  rintro e w1 ⟨rfl, B1⟩
  have hz1 := B1.size
  go_wp2
  go_loopg [7, 59] d (fun g v7 vc wr => ∃ (j : Nat) (t : ByteArray), g = d - j ∧ j ≤ d ∧ vc = .int .i64 j ∧ v7 = .string t ∧ t.toList = nestN [115, 119, 105, 116, 99, 104, 32, 123, 32, 99, 97, 115, 101, 32, 120, 58, 32] [125, 10] [] j ∧ Below w.heap.size w wr)
  case atStart => exact ⟨0, _, by omega, by omega, rfl, rfl, mkL _, by (repeat (first | with_reducible assumption | with_reducible refine Below.drew ?_ | (with_reducible refine Below.alloc ?_ (by first | omega | (simp <;> omega)) _)))⟩
  case round =>
    obtain ⟨j, t, rfl, hj, rfl, rfl, ht, hB⟩ := hrel
    have HT := hide ht
    have hsz : t.size ≤ 2000 := by rw [← toL_len, ht, nestN_len]; simp; omega
    clear ht
    have hzr := hB.size
    by_cases hlt : j < d
    · have hltz : (j : Int) < d := by omega
      go_wp2_with fail
      go_roundg (d - (j + 1))
      case measure => omega
      case rel => exact ⟨j + 1, _, rfl, by omega, by go_num, rfl, by rw [appL, appL, unhide HT, mkL, mkL, nestN], by (repeat (first | with_reducible assumption | with_reducible refine Below.drew ?_ | (with_reducible refine Below.alloc ?_ (by first | omega | (simp <;> omega)) _)))⟩
    · have hltz : ¬ (j : Int) < d := by omega
      obtain rfl : j = d := by omega
      clear hlt
      have HP := hide (Parse_fault (⟨#[102, 117, 110, 99, 32, 102, 40, 41, 32, 123, 10]⟩ ++ t ++ ⟨#[125, 10]⟩ : ByteArray))
      have hs : (⟨#[102, 117, 110, 99, 32, 102, 40, 41, 32, 123, 10]⟩ ++ t ++ ⟨#[125, 10]⟩ : ByteArray).toList = nestS 4 j := by
        simp only [appL, mkL, unhide HT]; simp [nestS, nestB, opns, shts]
      rw [hs] at HP
      clear hs
      go_wp2_with fail
      refine (unhide HP _ ((unhide HV).below (unhide HV).lt (by (repeat (first | with_reducible assumption | with_reducible refine Below.drew ?_ | (with_reducible refine Below.alloc ?_ (by first | omega | (simp <;> omega)) _)))))).mono ?_
      rintro e w2 ⟨B2, kd, tx, nm, ps, ao, n, cp, rfl⟩
      have hz2 := B2.size
      have B2' : Below w.heap.size w w2 := Below.trans (b := _) (by (repeat (first | with_reducible assumption | with_reducible refine Below.drew ?_ | (with_reducible refine Below.alloc ?_ (by first | omega | (simp <;> omega)) _)))) ⟨B2.os, B2.tape, B2.output, B2.size, fun k hk => B2.block k (by first | omega | (simp <;> omega))⟩
      have hz3 := B2'.size
      clear B2 HP
      by_cases h40 : 40 < j + 1
      · have h40z : (40 : Int) < (j : Int) + 1 := by omega
        have e3 := nestOk_deep (unhide HOK) h40
        rw [e3]
        go_wp2
        exact bodyPost_ret (v := .bool true) (by simp [results, Tryz.results5, go_sem]) rfl ⟨rfl, by (repeat (first | with_reducible assumption | with_reducible refine Below.drew ?_ | (with_reducible refine Below.alloc ?_ (by first | omega | (simp <;> omega)) _)))⟩
      · have h40z : ¬ (40 : Int) < (j : Int) + 1 := by omega
        have e3 := nestOk_fine (unhide HOK) h40
        rw [e3]
        go_wp2
        exact bodyPost_ret (v := .bool true) (by simp [results, Tryz.results5, go_sem]) rfl ⟨rfl, by (repeat (first | with_reducible assumption | with_reducible refine Below.drew ?_ | (with_reducible refine Below.alloc ?_ (by first | omega | (simp <;> omega)) _)))⟩

end Go.Proofs.YtnlmgifjmlpgoaaGreatDoor
