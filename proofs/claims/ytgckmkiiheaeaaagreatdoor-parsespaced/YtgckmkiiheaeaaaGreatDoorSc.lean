import Derived.Test.YtgckmkiiheaeaaaGreatDoorRk
import Derived.Deep.LoopGhost
set_option linter.unusedVariables false
set_option linter.unusedSimpArgs false
set_option maxRecDepth 100000
namespace Go.Proofs.YtgckmkiiheaeaaaGreatDoor.Lx.Sp
def endD (last : Option Tok) (k : Int) : List Tok :=
 match last with
 | some t => if tokEnds t.kind t.text then [⟨5, [59], 1, k⟩] else []
 | none => []
theorem endD_eq (ts : List Tok) (k : Int) : endT ts k = ts ++ endD ts.getLast? k := by
 unfold endT endD
 cases ts.getLast? with
 | none => simp
 | some t => simp only; split <;> simp
def partD (d : List UInt8) (k : Nat) (last : Option Tok) : Sum Nat (Nat × List Tok) :=
 match d with
 | [] => .inl 0
 | c :: _ =>
   if c = 32 ∨ c = 9 then .inr (1, [])
   else if c = 10 then .inr (1, endD last k)
   else if d.take 2 == [47, 47] then .inr ((d.takeWhile notNl).length, [])
   else if isLet c = true then (if 24 < (d.takeWhile isNam).length then .inl k else .inr ((d.takeWhile isNam).length, [⟨nmK (d.takeWhile isNam), d.takeWhile isNam, 0, k⟩]))
   else if isDig c = true then (match numF d 0 [] with | .inl p => .inl (k + p) | .inr q => .inr (q.1, q.2.map fun t => { t with pos := k }))
   else if c = 34 then (match textF d 0 [] with | .inl p => .inl (k + p) | .inr q => .inr (q.1, q.2.map fun t => { t with pos := k }))
   else if mLen d = 0 then .inl k else .inr (mLen d, [⟨5, d.take (mLen d), 0, k⟩])
def scanD : Nat → List UInt8 → Nat → Option Tok → Sum Nat (List Tok)
 | 0, _, _, _ => .inr []
 | f + 1, d, k, last =>
   match d with
   | [] => .inr []
   | _ :: _ =>
     match partD d k last with
     | .inl p => .inl p
     | .inr (a, ns) =>
       match scanD f (d.drop a) (k + a) (ns.getLast?.or last) with
       | .inl p => .inl p
       | .inr r => .inr (ns ++ r)
theorem tw_take (p : UInt8 → Bool) : ∀ d : List UInt8, d.take (d.takeWhile p).length = d.takeWhile p
 | [] => rfl
 | c :: r => by
   by_cases h : p c = true
   ·simp [h, tw_take p r]
   ·simp [h]
theorem re_D (p : UInt8 → Bool) (l : List UInt8) (k : Nat) : runEnd p l k = k + ((l.drop k).takeWhile p).length := rfl
theorem sub_D (l : List UInt8) (k n : Nat) : sub l k (k + n) = (l.drop k).take n := by unfold sub; rw [Nat.add_sub_cancel_left]
theorem letAt_D (l : List UInt8) (k n : Nat) : letAt l (k + n) = letAt (l.drop k) n := by unfold letAt; rw [List.getElem?_drop]
def upD (k : Nat) (ts : List Tok) : Sum Nat (Nat × List Tok) → Sum Nat (Nat × List Tok)
 | .inl p => .inl p
 | .inr q => .inr (k + q.1, ts ++ q.2)
theorem num_D (l : List UInt8) (k : Nat) (ts : List Tok) : numF l k ts = upD k ts (match numF (l.drop k) 0 [] with | .inl p => .inl (k + p) | .inr q => .inr (q.1, q.2.map fun t => { t with pos := k })) := by
 unfold numF
 have e0 : runEnd isDig (l.drop k) 0 = 0 + ((l.drop k).takeWhile isDig).length := rfl
 rw [re_D, e0, sub_D, sub_D, letAt_D, letAt_D, List.drop_zero]
 generalize ((l.drop k).takeWhile isDig).length = n
 split
 ·rfl
 ·rw [Nat.zero_add]
  split <;> rfl
theorem text_D (l : List UInt8) (k : Nat) (ts : List Tok) : textF l k ts = upD k ts (match textF (l.drop k) 0 [] with | .inl p => .inl (k + p) | .inr q => .inr (q.1, q.2.map fun t => { t with pos := k })) := by
 unfold textF
 rw [List.drop_drop]
 generalize txt (l.drop (k + (0 + 1))) = x
 obtain ⟨m, n⟩ := x
 cases m with
 | none => simp only [upD]; congr 1; omega
 | some m =>
   simp only
   split
   ·rfl
   ·simp only [upD, List.nil_append, List.map_cons, List.map_nil]; congr 2; omega
theorem part_D (l : List UInt8) (k : Nat) (ts : List Tok) (hk : k < l.length) : partF l k ts = upD k ts (partD (l.drop k) k ts.getLast?) := by
 have hd : l.drop k = l[k] :: l.drop (k + 1) := List.drop_eq_getElem_cons hk
 have hc : l[k]? = some l[k] := List.getElem?_eq_getElem hk
 unfold partF partD
 rw [hc]
 generalize hl : l[k] = c at *
 rw [hd]
 simp only
 rw [← hd]
 by_cases h1 : c = 32 ∨ c = 9
 ·rw [if_pos h1, if_pos h1]; simp [upD]
 rw [if_neg h1, if_neg h1]
 by_cases h2 : c = 10
 ·rw [if_pos h2, if_pos h2, endD_eq]; rfl
 rw [if_neg h2, if_neg h2]
 have e : cmt l k = ((l.drop k).take 2 == [47, 47]) := rfl
 rw [e]
 by_cases h3 : ((l.drop k).take 2 == [47, 47]) = true
 ·rw [if_pos h3, if_pos h3, re_D]; simp [upD]
 rw [if_neg h3, if_neg h3]
 by_cases h4 : isLet c = true
 ·rw [if_pos h4, if_pos h4]
  unfold nameF
  rw [re_D, sub_D, tw_take, Nat.add_sub_cancel_left]
  split <;> rfl
 rw [if_neg h4, if_neg h4]
 by_cases h5 : isDig c = true
 ·rw [if_pos h5, if_pos h5]; exact num_D l k ts
 rw [if_neg h5, if_neg h5]
 by_cases h6 : c = 34
 ·rw [if_pos h6, if_pos h6]; exact text_D l k ts
 rw [if_neg h6, if_neg h6]
 unfold markF
 rw [sub_D]
 split <;> rfl
theorem last_app (ts ns : List Tok) : (ts ++ ns).getLast? = ns.getLast?.or ts.getLast? := by
 rw [List.getLast?_append]
theorem scan_D : ∀ (f : Nat) (l : List UInt8) (k : Nat) (ts : List Tok), scanF f l k ts = match scanD f (l.drop k) k ts.getLast? with | .inl p => .inl p | .inr r => .inr (ts ++ r)
 | 0, l, k, ts => by simp [scanF, scanD]
 | f + 1, l, k, ts => by
   unfold scanF scanD
   by_cases hk : k < l.length
   ·rw [if_pos hk, part_D l k ts hk]
    have hd : l.drop k = l[k] :: l.drop (k + 1) := List.drop_eq_getElem_cons hk
    rw [hd]
    simp only
    rw [← hd]
    cases hp : partD (l.drop k) k ts.getLast? with
    | inl p => rfl
    | inr q =>
      obtain ⟨a, ns⟩ := q
      simp only [upD]
      rw [scan_D f l (k + a) (ts ++ ns), List.drop_drop, last_app]
      cases scanD f (l.drop (k + a)) (k + a) (ns.getLast?.or ts.getLast?) with
      | inl p => rfl
      | inr r => simp
   ·rw [if_neg hk, List.drop_eq_nil_of_le (by omega)]
    simp
def lexD (l : List UInt8) : List Tok × Int × Int :=
 if 8192 < l.length then ([], 1, 8192)
 else match scanD (l.length + 1) l 0 none with
  | .inl p => ([], 2, (p : Int))
  | .inr ts =>
    match deepF 0 (allP ts l.length) with
    | some a => ([], 3, a)
    | none => (allP ts l.length, 0, 0)
theorem lex_D (l : List UInt8) : lexR l = lexD l := by
 unfold lexR lexD scanAll
 rw [scan_D, List.drop_zero, List.getLast?_nil, Nat.sub_zero]
 cases scanD (l.length + 1) l 0 none with
 | inl p => rfl
 | inr r => rfl
def encB (c : UInt8) : List UInt8 := if c = 10 then [92, 110] else if c = 34 ∨ c = 92 then [92, c] else [c]
def okB (c : UInt8) : Bool := c == 10 || (decide (32 ≤ (c.toNat : Int)) && decide ((c.toNat : Int) ≤ 126))
def encL (xs : List UInt8) : List UInt8 := xs.flatMap encB
theorem txt_enc (q : List UInt8) : ∀ (xs : List UInt8), (∀ c ∈ xs, okB c = true) → txt (encL xs ++ 34 :: q) = (some xs, (encL xs).length + 1)
 | [], _ => by simp [encL, txt_quote]
 | c :: r, h => by
   have hc := h c (by simp)
   have ih := txt_enc q r (fun d hd => h d (by simp [hd]))
   have e : encL (c :: r) = encB c ++ encL r := by simp [encL]
   rw [e]
   by_cases h1 : c = 10
   ·subst h1
    have e2 : encB 10 = [92, 110] := by decide
    rw [e2]
    show txt (92 :: 110 :: (encL r ++ 34 :: q)) = _
    rw [txt_esc 110 10 _ (by decide), ih]
    simp
   ·by_cases h2 : c = 34 ∨ c = 92
    ·have e2 : encB c = [92, c] := by simp [encB, h1, h2]
     rw [e2]
     show txt (92 :: c :: (encL r ++ 34 :: q)) = _
     have he : escC c = some c := by rcases h2 with rfl | rfl <;> decide
     rw [txt_esc c c _ he, ih]
     simp
    ·have e2 : encB c = [c] := by simp [encB, h1, h2]
     rw [e2]
     show txt (c :: (encL r ++ 34 :: q)) = _
     have hp : isPln c = true := by
      have n1 : ¬ (c.toNat : Int) = 34 := fun e => h2 (.inl (UInt8.toNat_inj.1 (by simpa using Int.ofNat.inj e)))
      have n2 : ¬ (c.toNat : Int) = 92 := fun e => h2 (.inr (UInt8.toNat_inj.1 (by simpa using Int.ofNat.inj e)))
      simp [okB, h1] at hc
      simp only [isPln, plnZ, decide_eq_false n1, decide_eq_false n2]
      simp
      omega
     rw [txt_plain c _ hp, ih]
     simp
theorem okB_pln {c : UInt8} (h : isPln c = true) : okB c = true := by
 simp [isPln, plnZ] at h
 simp [okB]
 omega
theorem txt_okB : ∀ (n : Nat) (d m : List UInt8) (j : Nat), d.length ≤ n → txt d = (some m, j) → ∀ c ∈ m, okB c = true
 | n, [], m, j, _, h => by simp [txt] at h
 | 0, c :: r, m, j, hl, h => by simp at hl
 | n + 1, c :: r, m, j, hl, h => by
   simp only [List.length_cons] at hl
   by_cases h1 : c = 34
   ·subst h1
    rw [txt_quote] at h
    have : m = [] := by simpa using (Prod.mk.inj h).1.symm
    subst this
    simp
   ·by_cases h2 : c = 92
    ·subst h2
     cases r with
     | nil => rw [txt_bad [] (by simp)] at h; simp at h
     | cons d r =>
       cases he : escC d with
       | none => rw [txt_bad (d :: r) (by intro d' r' e; cases e; exact he)] at h; simp at h
       | some x =>
         rw [txt_esc d x r he] at h
         cases hm : txt r with
         | mk a b =>
           rw [hm] at h
           cases a with
           | none => simp at h
           | some m' =>
             have e : m = x :: m' := by simpa using (Prod.mk.inj h).1.symm
             subst e
             have ih := txt_okB n r m' b (by simp only [List.length_cons] at hl; omega) hm
             intro c hc
             rcases List.mem_cons.1 hc with rfl | hc
             ·revert he
              unfold escC
              split
              ·intro e; cases e; decide
              ·split
               ·intro e; cases e; decide
               ·split
                ·intro e; cases e; decide
                ·intro e; cases e
             ·exact ih c hc
    ·by_cases h3 : isPln c = true
     ·rw [txt_plain c r h3] at h
      cases hm : txt r with
      | mk a b =>
        rw [hm] at h
        cases a with
        | none => simp at h
        | some m' =>
          have e : m = c :: m' := by simpa using (Prod.mk.inj h).1.symm
          subst e
          have ih := txt_okB n r m' b (by omega) hm
          intro d hd
          rcases List.mem_cons.1 hd with rfl | hd
          ·exact okB_pln h3
          ·exact ih d hd
     ·rw [txt_stop c r (by simpa using h3) h1 h2] at h
      simp at h
def bodyT (t : Tok) : List UInt8 := if t.kind = 3 then 34 :: (encL t.text ++ [34]) else t.text
def wrT (t : Tok) : List UInt8 := if t.kind = 3 then 32 :: bodyT t else if t.kind = 5 ∧ t.num = 1 then [32, 47, 47, 32, 59, 10, 10] else 9 :: bodyT t
def spell (ts : List Tok) : List UInt8 := ts.flatMap wrT
def Bl : List UInt8 → Prop
 | [] => True
 | c :: _ => c = 32 ∨ c = 9
def Rd1 (t : Tok) : Prop := bodyT t ≠ [] ∧ ∀ (r : List UInt8) (k : Nat) (last : Option Tok), Bl r → partD (bodyT t ++ r) k last = .inr ((bodyT t).length, [⟨t.kind, t.text, t.num, k⟩])
def autoT (t : Tok) : Prop := t.kind = 5 ∧ t.num = 1
def Good (last : Option Tok) (t : Tok) : Prop := (autoT t ∧ t.text = [59] ∧ ∃ u, last = some u ∧ tokEnds u.kind u.text = true) ∨ (¬ autoT t ∧ Rd1 t)
theorem partD_cons (c : UInt8) (d : List UInt8) (k : Nat) (last : Option Tok) : partD (c :: d) k last = (if c = 32 ∨ c = 9 then .inr (1, []) else if c = 10 then .inr (1, endD last k)
 else if (c :: d).take 2 == [47, 47] then .inr (((c :: d).takeWhile notNl).length, [])
 else if isLet c = true then (if 24 < ((c :: d).takeWhile isNam).length then .inl k else .inr (((c :: d).takeWhile isNam).length, [⟨nmK ((c :: d).takeWhile isNam), (c :: d).takeWhile isNam, 0, k⟩]))
 else if isDig c = true then (match numF (c :: d) 0 [] with | .inl p => .inl (k + p) | .inr q => .inr (q.1, q.2.map fun t => { t with pos := k }))
 else if c = 34 then (match textF (c :: d) 0 [] with | .inl p => .inl (k + p) | .inr q => .inr (q.1, q.2.map fun t => { t with pos := k }))
 else if mLen (c :: d) = 0 then .inl k else .inr (mLen (c :: d), [⟨5, (c :: d).take (mLen (c :: d)), 0, k⟩])) := rfl
theorem tw_bl {p : UInt8 → Bool} (h32 : p 32 = false) (h9 : p 9 = false) {r : List UInt8} (hr : Bl r) : ∀ x : List UInt8, (∀ c ∈ x, p c = true) → (x ++ r).takeWhile p = x
 | [], _ => by
   cases r with
   | nil => rfl
   | cons c r =>
     rcases hr with rfl | rfl
     ·simp [h32]
     ·simp [h9]
 | c :: x, h => by
   rw [List.cons_append, List.takeWhile_cons, if_pos (h c (by simp)), tw_bl h32 h9 hr x fun d hd => h d (by simp [hd])]
theorem tw_all (p : UInt8 → Bool) (d : List UInt8) : ∀ c ∈ d.takeWhile p, p c = true := by
 intro c hc
 induction d with
 | nil => simp at hc
 | cons e d ih =>
   by_cases h : p e = true
   ·rw [List.takeWhile_cons_of_pos h] at hc
    rcases List.mem_cons.1 hc with rfl | hc
    ·exact h
    ·exact ih hc
   ·rw [List.takeWhile_cons_of_neg h] at hc
    simp at hc
theorem two_no {c : UInt8} (h : c ≠ 47) (d : List UInt8) : ((c :: d).take 2 == [47, 47]) = false := by
 rw [beq_eq_false_iff_ne]
 intro h2
 cases d with
 | nil => simp at h2
 | cons e d => simp at h2; exact h h2.1
theorem rd_name {c : UInt8} {d : List UInt8} {k : Nat} (h0 : ¬ (c = 32 ∨ c = 9)) (h10 : c ≠ 10) (hc : isLet c = true) (hl : ¬ 24 < ((c :: d).takeWhile isNam).length) : Rd1 ⟨nmK ((c :: d).takeWhile isNam), (c :: d).takeWhile isNam, 0, k⟩ := by
 have hn : isNam c = true := by simp [isNam, hc]
 have hb : bodyT ⟨nmK ((c :: d).takeWhile isNam), (c :: d).takeWhile isNam, 0, k⟩ = (c :: d).takeWhile isNam := by
  unfold bodyT
  rw [if_neg]
  show ¬ nmK _ = 3
  unfold nmK
  split <;> decide
 have e : (c :: d).takeWhile isNam = c :: d.takeWhile isNam := List.takeWhile_cons_of_pos hn
 refine ⟨by rw [hb, e]; simp, fun r k' last hr => ?_⟩
 rw [hb]
 have ha := tw_all isNam (c :: d)
 generalize hx : (c :: d).takeWhile isNam = x at *
 have tw := tw_bl (p := isNam) (by decide) (by decide) hr x ha
 subst e
 have h47 : c ≠ 47 := by rintro rfl; revert hc; decide
 rw [List.cons_append] at tw ⊢
 rw [partD_cons, if_neg h0, if_neg h10, if_neg (by rw [two_no h47]; simp), if_pos hc, tw, if_neg hl]
theorem rd_mark {c : UInt8} {d : List UInt8} {k : Nat} (h0 : ¬ (c = 32 ∨ c = 9)) (h10 : c ≠ 10) (h2 : ¬ ((c :: d).take 2 == [47, 47]) = true) (h3 : ¬ isLet c = true) (h4 : ¬ isDig c = true) (h5 : c ≠ 34) (hm : ¬ mLen (c :: d) = 0) : Rd1 ⟨5, (c :: d).take (mLen (c :: d)), 0, k⟩ := by
 have hb : bodyT ⟨5, (c :: d).take (mLen (c :: d)), 0, k⟩ = (c :: d).take (mLen (c :: d)) := by unfold bodyT; rw [if_neg (show ¬ (5 : Int) = 3 by decide)]
 rw [Rd1, hb]
 by_cases hp : ∃ e d', d = e :: d' ∧ isPr [c, e] = true
 ·obtain ⟨e, d', rfl, hp⟩ := hp
  rw [mlen_two c e d' hp]
  refine ⟨by simp, fun r k' last hr => ?_⟩
  show partD (c :: (e :: r)) k' last = _
  have hm2 := mlen_two c e r hp
  rw [partD_cons, if_neg h0, if_neg h10, if_neg (by simpa using h2), if_neg h3, if_neg h4, if_neg h5, hm2, if_neg (by decide)]
  rfl
 ·have hp1 : ∀ e d', d = e :: d' → isPr [c, e] = false := fun e d' he => by
   cases hx : isPr [c, e] with
   | false => rfl
   | true => exact absurd ⟨e, d', he, hx⟩ hp
  have e1 := mlen_one c d hp1
  have e2 : mLen (c :: d) = 1 := by
   rw [e1] at hm ⊢
   split
   ·rfl
   ·rename_i h; rw [if_neg h] at hm; exact absurd rfl hm
  rw [e2]
  refine ⟨by simp, fun r k' last hr => ?_⟩
  show partD (c :: r) k' last = _
  have hr2 : ∀ e r', r = e :: r' → isPr [c, e] = false := fun e r' he => by
   subst he
   cases hx : isPr [c, e] with
   | false => rfl
   | true =>
     exfalso
     rcases hr with rfl | rfl <;> simp [isPr, pairList] at hx
  have e3 : mLen (c :: r) = 1 := by rw [mlen_one c r hr2, ← e1, e2]
  have e4 : ¬ ((c :: r).take 2 == [47, 47]) = true := by
   intro h
   cases r with
   | nil => simp at h
   | cons a r =>
     simp at h
     rcases hr with rfl | rfl
     ·exact absurd h.2 (by decide)
     ·exact absurd h.2 (by decide)
  rw [partD_cons, if_neg h0, if_neg h10, if_neg e4, if_neg h3, if_neg h4, if_neg h5, e3, if_neg (by decide)]
  rfl
theorem num_form (d : List UInt8) : numF d 0 [] = if numBad (d.takeWhile isDig) = true then .inl 0 else if letAt d (d.takeWhile isDig).length = true then .inl (d.takeWhile isDig).length else .inr ((d.takeWhile isDig).length, [⟨2, d.takeWhile isDig, numV (d.takeWhile isDig), (0 : Nat)⟩]) := by
 unfold numF
 have e : runEnd isDig d 0 = (d.takeWhile isDig).length := by rw [re_D]; simp
 have e2 : sub d 0 (d.takeWhile isDig).length = d.takeWhile isDig := by
  have := sub_D d 0 (d.takeWhile isDig).length
  rw [Nat.zero_add] at this
  rw [this, List.drop_zero, tw_take]
 rw [e, e2]
 rfl
theorem rd_num {c : UInt8} {d : List UInt8} {k : Nat} (h0 : ¬ (c = 32 ∨ c = 9)) (h10 : c ≠ 10) (h3 : ¬ isLet c = true) (hc : isDig c = true) (hb : ¬ numBad ((c :: d).takeWhile isDig) = true) : Rd1 ⟨2, (c :: d).takeWhile isDig, numV ((c :: d).takeWhile isDig), k⟩ := by
 have hbd : bodyT ⟨2, (c :: d).takeWhile isDig, numV ((c :: d).takeWhile isDig), k⟩ = (c :: d).takeWhile isDig := by
  unfold bodyT
  rw [if_neg (show ¬ (2 : Int) = 3 by decide)]
 have e : (c :: d).takeWhile isDig = c :: d.takeWhile isDig := List.takeWhile_cons_of_pos hc
 refine ⟨by rw [hbd, e]; simp, fun r k' last hr => ?_⟩
 rw [hbd]
 have ha := tw_all isDig (c :: d)
 generalize hx : (c :: d).takeWhile isDig = x at *
 have tw := tw_bl (p := isDig) (by decide) (by decide) hr x ha
 have hl : letAt (x ++ r) x.length = false := by
  unfold letAt
  rw [List.getElem?_append_right (Nat.le_refl _), Nat.sub_self]
  cases r with
  | nil => rfl
  | cons a r => rcases hr with rfl | rfl <;> rfl
 have hn : numF (x ++ r) 0 [] = .inr (x.length, [⟨2, x, numV x, (0 : Nat)⟩]) := by
  rw [num_form, tw, if_neg hb, if_neg (by rw [hl]; simp)]
 subst e
 have h47 : c ≠ 47 := by rintro rfl; revert hc; decide
 rw [List.cons_append] at hn ⊢
 rw [partD_cons, if_neg h0, if_neg h10, if_neg (by rw [two_no h47]; simp), if_neg h3, if_pos hc, hn]
 rfl
theorem rd_text {m : List UInt8} {k : Nat} (hm : ∀ c ∈ m, okB c = true) (hl : ¬ 256 < m.length) : Rd1 ⟨3, m, 0, k⟩ := by
 have hbd : bodyT ⟨3, m, 0, k⟩ = 34 :: (encL m ++ [34]) := by
  unfold bodyT
  rw [if_pos rfl]
 refine ⟨by rw [hbd]; simp, fun r k' last hr => ?_⟩
 rw [hbd]
 have e : 34 :: (encL m ++ [34]) ++ r = 34 :: (encL m ++ 34 :: r) := by simp
 rw [e, partD_cons, if_neg (by decide), if_neg (by decide), if_neg (by rw [two_no (by decide)]; simp), if_neg (by decide), if_neg (by decide), if_pos rfl]
 have ht : textF (34 :: (encL m ++ 34 :: r)) 0 [] = .inr (0 + 1 + ((encL m).length + 1), [⟨3, m, 0, (0 : Nat)⟩]) := by
  unfold textF
  have e2 : (34 :: (encL m ++ 34 :: r)).drop (0 + 1) = encL m ++ 34 :: r := rfl
  rw [e2, txt_enc r m hm]
  simp only
  rw [if_neg hl]
  rfl
 rw [ht]
 have e3 : 0 + 1 + ((encL m).length + 1) = (34 :: (encL m ++ [34])).length := by simp; omega
 rw [e3]
 rfl
theorem part_good {d : List UInt8} {k a : Nat} {last : Option Tok} {ns : List Tok} (h : partD d k last = .inr (a, ns)) : ns = [] ∨ ∃ t, ns = [t] ∧ Good last t := by
 cases d with
 | nil => simp [partD] at h
 | cons c d =>
   rw [partD_cons] at h
   by_cases h0 : c = 32 ∨ c = 9
   ·rw [if_pos h0] at h; exact .inl (Prod.mk.inj (Sum.inr.inj h)).2.symm
   rw [if_neg h0] at h
   by_cases h10 : c = 10
   ·rw [if_pos h10] at h
    have e : endD last k = ns := by simpa using (Prod.mk.inj (Sum.inr.inj h)).2
    unfold endD at e
    cases last with
    | none => exact .inl e.symm
    | some u =>
      simp only at e
      split at e
      ·rename_i hu
       exact .inr ⟨_, e.symm, .inl ⟨⟨rfl, rfl⟩, rfl, u, rfl, hu⟩⟩
      ·exact .inl e.symm
   rw [if_neg h10] at h
   by_cases h2 : ((c :: d).take 2 == [47, 47]) = true
   ·rw [if_pos h2] at h; exact .inl (Prod.mk.inj (Sum.inr.inj h)).2.symm
   rw [if_neg h2] at h
   by_cases h3 : isLet c = true
   ·rw [if_pos h3] at h
    by_cases hl : 24 < ((c :: d).takeWhile isNam).length
    ·rw [if_pos hl] at h; cases h
    ·rw [if_neg hl] at h
     refine .inr ⟨_, (Prod.mk.inj (Sum.inr.inj h)).2.symm, .inr ⟨?_, rd_name h0 h10 h3 hl⟩⟩
     rintro ⟨h1, h2⟩
     cases h2
   rw [if_neg h3] at h
   by_cases h4 : isDig c = true
   ·rw [if_pos h4, num_form] at h
    by_cases hb : numBad ((c :: d).takeWhile isDig) = true
    ·rw [if_pos hb] at h; cases h
    rw [if_neg hb] at h
    by_cases hl : letAt (c :: d) ((c :: d).takeWhile isDig).length = true
    ·rw [if_pos hl] at h; cases h
    rw [if_neg hl] at h
    have e := (Prod.mk.inj (Sum.inr.inj h)).2.symm
    refine .inr ⟨⟨2, (c :: d).takeWhile isDig, numV ((c :: d).takeWhile isDig), k⟩, e, .inr ⟨?_, rd_num h0 h10 h3 h4 hb⟩⟩
    rintro ⟨h1, h2⟩
    cases h1
   rw [if_neg h4] at h
   by_cases h5 : c = 34
   ·rw [if_pos h5] at h
    unfold textF at h
    cases hx : txt ((c :: d).drop (0 + 1)) with
    | mk m n =>
      rw [hx] at h
      cases m with
      | none => simp only at h; cases h
      | some m =>
        simp only at h
        by_cases hl : 256 < m.length
        ·rw [if_pos hl] at h; cases h
        ·rw [if_neg hl] at h
         have e := (Prod.mk.inj (Sum.inr.inj h)).2.symm
         refine .inr ⟨⟨3, m, 0, k⟩, e, .inr ⟨?_, rd_text (txt_okB _ _ m n (Nat.le_refl _) hx) hl⟩⟩
         rintro ⟨h1, h2⟩
         cases h1
   rw [if_neg h5] at h
   by_cases hm : mLen (c :: d) = 0
   ·rw [if_pos hm] at h; cases h
   rw [if_neg hm] at h
   refine .inr ⟨_, (Prod.mk.inj (Sum.inr.inj h)).2.symm, .inr ⟨?_, rd_mark h0 h10 h2 h3 h4 h5 hm⟩⟩
   rintro ⟨h1, h2⟩
   cases h2
def Ch : Option Tok → List Tok → Prop
 | _, [] => True
 | last, t :: r => Good last t ∧ Ch (some t) r
theorem scan_ch : ∀ (f : Nat) (d : List UInt8) (k : Nat) (last : Option Tok) (r : List Tok), scanD f d k last = .inr r → Ch last r
 | 0, d, k, last, r, h => by
   simp only [scanD] at h
   cases h
   trivial
 | f + 1, [], k, last, r, h => by
   simp only [scanD] at h
   cases h
   trivial
 | f + 1, c :: d, k, last, r, h => by
   simp only [scanD] at h
   cases hp : partD (c :: d) k last with
   | inl p => rw [hp] at h; cases h
   | inr q =>
     obtain ⟨a, ns⟩ := q
     rw [hp] at h
     simp only at h
     cases hs : scanD f ((c :: d).drop a) (k + a) (ns.getLast?.or last) with
     | inl p => rw [hs] at h; cases h
     | inr r' =>
       rw [hs] at h
       simp only at h
       have e := (Sum.inr.inj h).symm
       subst e
       have ih := scan_ch f _ _ _ _ hs
       rcases part_good hp with rfl | ⟨t, rfl, hg⟩
       ·simpa using ih
       ·exact ⟨hg, by simpa using ih⟩
theorem ch_snoc : ∀ (last : Option Tok) (ts : List Tok) (t : Tok), Ch last ts → Good (ts.getLast?.or last) t → Ch last (ts ++ [t])
 | last, [], t, _, h => ⟨by simpa using h, trivial⟩
 | last, u :: r, t, hc, h => by
   refine ⟨hc.1, ch_snoc (some u) r t hc.2 ?_⟩
   cases r with
   | nil => simpa using h
   | cons v r =>
     rw [List.getLast?_cons_cons] at h
     cases hq : (v :: r).getLast? with
     | none => simp at hq
     | some z => rw [hq] at h; simpa using h
theorem ch_end (ts : List Tok) (n : Int) (h : Ch none ts) : Ch none (endT ts n) := by
 rw [endD_eq]
 unfold endD
 cases hq : ts.getLast? with
 | none => simpa using h
 | some u =>
   simp only
   split
   ·rename_i hu
    exact ch_snoc none ts _ h (.inl ⟨⟨rfl, rfl⟩, rfl, u, by rw [hq]; rfl, hu⟩)
   ·simpa using h
def er3 (t : Tok) : Int × List UInt8 × Int := (t.kind, t.text, t.num)
theorem scanD_part {f : Nat} {d : List UInt8} {k a : Nat} {last : Option Tok} {ns r : List Tok} (hd : d ≠ []) (h : partD d k last = .inr (a, ns)) (h2 : scanD f (d.drop a) (k + a) (ns.getLast?.or last) = .inr r) : scanD (f + 1) d k last = .inr (ns ++ r) := by
 cases d with
 | nil => exact absurd rfl hd
 | cons c d => simp only [scanD, h, h2]
theorem bl_spell (r : List Tok) : Bl (spell r ++ [9]) := by
 cases r with
 | nil => exact .inr rfl
 | cons t r =>
   unfold spell
   rw [List.flatMap_cons]
   unfold wrT
   split
   ·exact .inl rfl
   ·split
    ·exact .inl rfl
    ·exact .inr rfl
theorem spell_scan : ∀ (ts : List Tok) (f k : Nat) (last last' : Option Tok), Ch last ts → last.map er3 = last'.map er3 → (spell ts ++ [9]).length ≤ f → ∃ ts', scanD f (spell ts ++ [9]) k last' = .inr ts' ∧ ts'.map er3 = ts.map er3
 | [], f, k, last, last', _, _, hf => by
   obtain ⟨f, rfl⟩ : ∃ g, f = g + 1 := ⟨f - 1, by simp [spell] at hf; omega⟩
   refine ⟨[], ?_, rfl⟩
   have := scanD_part (f := f) (d := [9]) (k := k) (a := 1) (last := last') (ns := []) (r := []) (by simp) rfl (by cases f <;> rfl)
   simpa [spell] using this
 | t :: r, f, k, last, last', hc, hl, hf => by
   have es : spell (t :: r) ++ [9] = wrT t ++ (spell r ++ [9]) := by simp [spell]
   rw [es] at hf ⊢
   have hbl := bl_spell r
   rcases hc.1 with ⟨ha, ht, u, rfl, hu⟩ | ⟨hna, hne, hrd⟩
   ·have e1 : wrT t = [32, 47, 47, 32, 59, 10, 10] := by
     unfold wrT
     rw [if_neg (by rw [ha.1]; decide), if_pos (show t.kind = 5 ∧ t.num = 1 from ha)]
    rw [e1] at hf ⊢
    simp only [List.length_append, List.length_cons, List.length_nil] at hf
    obtain ⟨f, rfl⟩ : ∃ g, f = g + 4 := ⟨f - 4, by omega⟩
    cases last' with
    | none => simp at hl
    | some v =>
      have hv : tokEnds v.kind v.text = true := by
       have h1 : er3 u = er3 v := by simpa using hl
       have h2 : u.kind = v.kind := congrArg Prod.fst h1
       have h3 : u.text = v.text := congrArg (fun x => x.2.1) h1
       rw [← h2, ← h3]; exact hu
      obtain ⟨r', h1, h2⟩ := spell_scan r f (k + 1 + 4 + 1 + 1) (some t) (some ⟨5, [59], 1, ((k + 1 + 4 : Nat) : Int)⟩) hc.2 (by simp [er3, ha.1, ha.2, ht]) (by simp only [List.length_append, List.length_cons, List.length_nil]; omega)
      generalize spell r ++ [9] = q at *
      refine ⟨⟨5, [59], 1, ((k + 1 + 4 : Nat) : Int)⟩ :: r', ?_, by simp [er3, ha.1, ha.2, ht]; exact h2⟩
      have s4 : scanD (f + 1) (10 :: q) (k + 1 + 4 + 1) (some ⟨5, [59], 1, ((k + 1 + 4 : Nat) : Int)⟩) = .inr r' := by
       have := scanD_part (f := f) (d := 10 :: q) (k := k + 1 + 4 + 1) (a := 1) (last := some ⟨5, [59], 1, ((k + 1 + 4 : Nat) : Int)⟩) (ns := []) (r := r') (by simp) (by rw [partD_cons, if_neg (by decide), if_pos rfl]; rfl) h1
       simpa using this
      have s3 : scanD (f + 2) (10 :: 10 :: q) (k + 1 + 4) (some v) = .inr (⟨5, [59], 1, ((k + 1 + 4 : Nat) : Int)⟩ :: r') := by
       have := scanD_part (f := f + 1) (d := 10 :: 10 :: q) (k := k + 1 + 4) (a := 1) (last := some v) (ns := [⟨5, [59], 1, ((k + 1 + 4 : Nat) : Int)⟩]) (r := r') (by simp) (by rw [partD_cons, if_neg (by decide), if_pos rfl]; simp only [endD]; rw [if_pos hv]) s4
       simpa using this
      have s2 : scanD (f + 3) (47 :: 47 :: 32 :: 59 :: 10 :: 10 :: q) (k + 1) (some v) = .inr (⟨5, [59], 1, ((k + 1 + 4 : Nat) : Int)⟩ :: r') := by
       have := scanD_part (f := f + 2) (d := 47 :: 47 :: 32 :: 59 :: 10 :: 10 :: q) (k := k + 1) (a := 4) (last := some v) (ns := []) (r := ⟨5, [59], 1, ((k + 1 + 4 : Nat) : Int)⟩ :: r') (by simp) (by rw [partD_cons, if_neg (by decide), if_neg (by decide), if_pos (by simp)]; simp [notNl]) s3
       simpa using this
      have := scanD_part (f := f + 3) (d := 32 :: 47 :: 47 :: 32 :: 59 :: 10 :: 10 :: q) (k := k) (a := 1) (last := some v) (ns := []) (r := ⟨5, [59], 1, ((k + 1 + 4 : Nat) : Int)⟩ :: r') (by simp) (by rw [partD_cons, if_pos (.inl rfl)]) s2
      simpa using this
   ·obtain ⟨b, hb, e1⟩ : ∃ b, (b = 32 ∨ b = 9) ∧ wrT t = b :: bodyT t := by
     unfold wrT
     by_cases h3 : t.kind = 3
     ·exact ⟨32, .inl rfl, by rw [if_pos h3]⟩
     ·exact ⟨9, .inr rfl, by rw [if_neg h3, if_neg (show ¬ (t.kind = 5 ∧ t.num = 1) from hna)]⟩
    rw [e1] at hf ⊢
    have hpos : 0 < (bodyT t).length := List.length_pos_iff.2 hne
    simp only [List.length_append, List.length_cons, List.length_nil] at hf
    obtain ⟨f, rfl⟩ : ∃ g, f = g + 2 := ⟨f - 2, by omega⟩
    obtain ⟨r', h1, h2⟩ := spell_scan r f (k + 1 + (bodyT t).length) (some t) (some ⟨t.kind, t.text, t.num, ((k + 1 : Nat) : Int)⟩) hc.2 (by simp [er3]) (by simp only [List.length_append, List.length_cons, List.length_nil]; omega)
    have hp := hrd (spell r ++ [9]) (k + 1) last' hbl
    generalize spell r ++ [9] = q at *
    refine ⟨⟨t.kind, t.text, t.num, ((k + 1 : Nat) : Int)⟩ :: r', ?_, by simp [er3]; exact h2⟩
    have s2 : scanD (f + 1) (bodyT t ++ q) (k + 1) last' = .inr (⟨t.kind, t.text, t.num, ((k + 1 : Nat) : Int)⟩ :: r') := by
     have := scanD_part (f := f) (d := bodyT t ++ q) (k := k + 1) (a := (bodyT t).length) (last := last') (ns := [⟨t.kind, t.text, t.num, ((k + 1 : Nat) : Int)⟩]) (r := r') (by simp [hne]) hp (by rw [List.drop_left]; exact h1)
     simpa using this
    have := scanD_part (f := f + 1) (d := b :: (bodyT t ++ q)) (k := k) (a := 1) (last := last') (ns := []) (r := ⟨t.kind, t.text, t.num, ((k + 1 : Nat) : Int)⟩ :: r') (by simp) (by rw [partD_cons, if_pos hb]) s2
    simpa using this
theorem deep_er : ∀ (a b : List Tok) (o : Int), a.map er3 = b.map er3 → (deepF o a).isSome = (deepF o b).isSome
 | [], b, o, h => by
   have : b = [] := by simpa using h.symm
   subst this; rfl
 | t :: r, [], o, h => by simp at h
 | t :: r, u :: q, o, h => by
   rw [List.map_cons, List.map_cons] at h
   obtain ⟨h1, h2⟩ := List.cons.inj h
   have hk : t.kind = u.kind := congrArg Prod.fst h1
   have ht : t.text = u.text := congrArg (fun x => x.2.1) h1
   have ho : openAft o t = openAft o u := by unfold openAft; rw [hk, ht]
   rw [deepF, deepF, ho, hk]
   split
   ·rfl
   ·exact deep_er r q _ h2
theorem end_stays (ts : List Tok) (n m : Int) : endT (endT ts n) m = endT ts n := by
 rw [endD_eq ts n, endD_eq]
 have : endD (ts ++ endD ts.getLast? n).getLast? m = [] := by
  rw [last_app]
  cases hq : ts.getLast? with
  | none => rfl
  | some u =>
    by_cases hu : tokEnds u.kind u.text = true
    ·have e : endD (some u) n = [⟨5, [59], 1, n⟩] := by unfold endD; simp only; rw [if_pos hu]
     rw [e]; rfl
    ·have e : ∀ j, endD (some u) j = [] := fun j => by unfold endD; simp only; rw [if_neg hu]
     rw [e, List.getLast?_nil, Option.none_or, e]
 rw [this, List.append_nil]
theorem er_end (a b : List Tok) (j k : Int) (h : a.map er3 = b.map er3) (hb : endT b k = b) : endT a j = a := by
 rw [endD_eq] at hb ⊢
 have hb2 : endD b.getLast? k = [] := by simpa using hb
 have hl : a.getLast?.map er3 = b.getLast?.map er3 := by rw [← List.getLast?_map, ← List.getLast?_map, h]
 have : endD a.getLast? j = [] := by
  unfold endD at hb2 ⊢
  cases ha : a.getLast? with
  | none => rfl
  | some u =>
    cases hb3 : b.getLast? with
    | none => rw [ha, hb3] at hl; simp at hl
    | some v =>
      rw [ha, hb3] at hl
      have h1 : er3 u = er3 v := by simpa using hl
      have h2 : u.kind = v.kind := congrArg Prod.fst h1
      have h3 : u.text = v.text := congrArg (fun x => x.2.1) h1
      rw [hb3] at hb2
      simp only at hb2 ⊢
      rw [h2, h3]
      split
      ·rename_i hx; rw [if_pos hx] at hb2; cases hb2
      ·rfl
 rw [this, List.append_nil]
theorem lex_spell (l : List UInt8) (L : List Tok) (p : Int) (h : lexR l = (L, 0, p)) (hs : (spell L).length ≤ 8192) : ∃ L', lexR (spell L) = (L', 0, 0) ∧ L'.map er3 = L.map er3 := by
 rw [lex_D] at h
 unfold lexD at h
 split at h
 ·cases h
 cases hsc : scanD (l.length + 1) l 0 none with
 | inl q => rw [hsc] at h; simp at h
 | inr ts =>
   rw [hsc] at h
   simp only at h
   cases hd : deepF 0 (allP ts l.length) with
   | some a => rw [hd] at h; simp at h
   | none =>
     rw [hd] at h
     simp only [Prod.mk.injEq] at h
     obtain ⟨rfl, _, _⟩ := h
     have hch := ch_end ts (l.length : Nat) (scan_ch _ _ _ _ _ hsc)
     have hst := end_stays ts (l.length : Nat) 0
     have e : spell (allP ts l.length) = spell (endT ts (l.length : Nat)) ++ [9] := by
      unfold allP spell
      rw [List.flatMap_append]
      rfl
     have hall : allP ts l.length = endT ts (l.length : Nat) ++ [⟨6, [], 0, (l.length : Nat)⟩] := rfl
     rw [e] at hs ⊢
     rw [hall] at hd ⊢
     generalize endT ts (l.length : Nat) = E at *
     obtain ⟨ts', h1, h2⟩ := spell_scan E ((spell E ++ [9]).length + 1) 0 none none hch rfl (by omega)
     generalize spell E ++ [9] = S at *
     have hse : endT ts' (S.length : Nat) = ts' := er_end ts' E _ 0 h2 hst
     have hall2 : allP ts' S.length = ts' ++ [⟨6, [], 0, (S.length : Nat)⟩] := by unfold allP; rw [hse]
     have hmap : (allP ts' S.length).map er3 = (E ++ [(⟨6, [], 0, (l.length : Nat)⟩ : Tok)]).map er3 := by rw [hall2, List.map_append, List.map_append, h2]; simp [er3]
     have hd2 : deepF 0 (allP ts' S.length) = none := by
      have := deep_er _ _ 0 hmap
      rw [hd] at this
      simpa using this
     refine ⟨allP ts' S.length, ?_, hmap⟩
     rw [lex_D]
     unfold lexD
     rw [if_neg (by omega), h1]
     simp only [hd2]
end Go.Proofs.YtgckmkiiheaeaaaGreatDoor.Lx.Sp
namespace Go.Proofs.YtgckmkiiheaeaaaGreatDoor
open Go.RowKit Lx
theorem Lx.app_l (x : ByteArray) (l : List UInt8) : (x ++ (⟨l.toArray⟩ : ByteArray)).toList = x.toList ++ l := by simp [ByteArray.toList_eq]
theorem Lx.app_n (x y : ByteArray) : (x ++ y).size = x.size + y.size := by rw [← toL_len, ← toL_len, ← toL_len]; simp [ByteArray.toList_eq]
theorem Lx.enc_snoc (s : ByteArray) (j : Nat) (hj : j < s.size) : Sp.encL (s.toList.take (j + 1)) = Sp.encL (s.toList.take j) ++ Sp.encB s[j] := by
 have hg := toL_get s j hj
 have hl : j < s.toList.length := by rw [toL_len]; exact hj
 have e : s.toList.take (j + 1) = s.toList.take j ++ [s[j]] := by
  rw [List.take_succ_eq_append_getElem hl]
  rw [List.getElem?_eq_getElem hl] at hg
  rw [Option.some.inj hg]
 rw [e]
 simp [Sp.encL]
def Qt (s : ByteArray) (j : Nat) (x : ByteArray) : Prop := x.toList = 34 :: Sp.encL (s.toList.take j)
theorem Qt.next {s x : ByteArray} {j : Nat} (h : Qt s j x) (hj : j < s.size) (l : List UInt8) (hl : Sp.encB s[j] = l) : Qt s (j + 1) (x ++ ⟨l.toArray⟩) := by
 unfold Qt at *
 rw [app_l, h, enc_snoc s j hj, hl]
 rfl
set_option maxRecDepth 100000 in
set_option maxHeartbeats 1000000 in
theorem quote_w (s : ByteArray) (w : World) (hs : s.size ≤ 8192) : Calls Tryz.prog 14 #[.string s] w fun e w' => Below w.heap.size w w' ∧ ∃ x : ByteArray, e = .returned (.string x) ∧ x.toList = 34 :: (Sp.encL s.toList ++ [34]) := by
 have hcv := conv_c
 go_enter Tryz.func14, Tryz.ntmps14
 go_wp2
 go_loopw [3, 8] (fun t i wr => ∃ (j : Nat) (x : ByteArray), j ≤ s.size ∧ i = .int .i64 j ∧ t = .string x ∧ x.size ≤ 1 + 2 * j ∧ Hid (Qt s j x) ∧ Hid (Below w.heap.size w wr)) (fun _ i _ => s.size - (intOf i).toNat)
 case atStart => exact ⟨0, ⟨#[34]⟩, Nat.zero_le _, rfl, rfl, by decide, hide (ByteArray.toList_mk [34]), hide (Below.refl _ _)⟩
 case round =>
  obtain ⟨j, x, hj, rfl, rfl, hxs, hQ, hB⟩ := hrel
  by_cases hlt : j < s.size
  ·have hji : (j : Int) < (s.size : Int) := by omega
   by_cases h10 : s[j] = 10
   ·have hb10 : ((s[j].toNat : Int) == 10) = true := by rw [h10]; rfl
    have HQ2 : Hid (Qt s (j + 1) (x ++ ⟨#[92, 110]⟩)) := hide ((unhide hQ).next hlt [92, 110] (by rw [h10]; decide))
    have hz : (x ++ (⟨#[92, 110]⟩ : ByteArray)).size ≤ 1 + 2 * (j + 1) := by
     rw [app_n]
     have : (⟨#[92, 110]⟩ : ByteArray).size = 2 := rfl
     omega
    clear h10 hQ
    go_wp2
    go_roundw
    case rel => exact ⟨j + 1, _, by omega, by go_num, rfl, hz, HQ2, hB⟩
    case measure => simp [intOf]; omega
   ·have hb10 : ((s[j].toNat : Int) == 10) = false := by simpa using ne_byte h10
    by_cases hq : s[j] = 34 ∨ s[j] = 92
    ·have HQ2 : Hid (Qt s (j + 1) (x ++ ((⟨#[92]⟩ : ByteArray) ++ ⟨#[s[j]]⟩))) := hide (by
      have h1 := (unhide hQ).next hlt [92, s[j]] (by unfold Sp.encB; rw [if_neg h10, if_pos hq])
      exact h1)
     have hz : (x ++ ((⟨#[92]⟩ : ByteArray) ++ ⟨#[s[j]]⟩)).size ≤ 1 + 2 * (j + 1) := by
      rw [app_n, app_n]
      have h1 : (⟨#[92]⟩ : ByteArray).size = 1 := rfl
      have h2 : (⟨#[s[j]]⟩ : ByteArray).size = 1 := rfl
      omega
     by_cases h34 : s[j] = 34
     ·have hb34 : ((s[j].toNat : Int) == 34) = true := by rw [h34]; rfl
      clear h10 hQ hq h34
      go_wp2
      go_roundw
      case rel => exact ⟨j + 1, _, by omega, by go_num, rfl, hz, HQ2, hide ((unhide hB).alloc (unhide hB).size _)⟩
      case measure => simp [intOf]; omega
     ·have h92 : s[j] = 92 := hq.resolve_left h34
      have hb34 : ((s[j].toNat : Int) == 34) = false := by simpa using ne_byte h34
      have hb92 : ((s[j].toNat : Int) == 92) = true := by rw [h92]; rfl
      clear h10 hQ hq h34 h92
      go_wp2
      go_roundw
      case rel => exact ⟨j + 1, _, by omega, by go_num, rfl, hz, HQ2, hide ((unhide hB).alloc (unhide hB).size _)⟩
      case measure => simp [intOf]; omega
    ·have hb34 : ((s[j].toNat : Int) == 34) = false := by simpa using ne_byte (fun h => hq (.inl h))
     have hb92 : ((s[j].toNat : Int) == 92) = false := by simpa using ne_byte (fun h => hq (.inr h))
     have HQ2 : Hid (Qt s (j + 1) (x ++ ⟨#[s[j]]⟩)) := hide ((unhide hQ).next hlt [s[j]] (by unfold Sp.encB; rw [if_neg h10, if_neg hq]))
     have hz : (x ++ (⟨#[s[j]]⟩ : ByteArray)).size ≤ 1 + 2 * (j + 1) := by
      rw [app_n]
      have h2 : (⟨#[s[j]]⟩ : ByteArray).size = 1 := rfl
      omega
     clear h10 hQ hq
     go_wp2
     go_roundw
     case rel => exact ⟨j + 1, _, by omega, by go_num, rfl, hz, HQ2, hide ((unhide hB).alloc (unhide hB).size _)⟩
     case measure => simp [intOf]; omega
  ·have hji : ¬ (j : Int) < (s.size : Int) := by omega
   have HX : Hid ((x ++ (⟨#[34]⟩ : ByteArray)).toList = 34 :: (Sp.encL s.toList ++ [34])) := hide (by
    rw [app_c, unhide hQ, List.take_of_length_le (by rw [toL_len]; omega)]; rfl)
   clear hQ
   go_wp2
   go_ret
   exact ⟨unhide hB, _, rfl, unhide HX⟩
end Go.Proofs.YtgckmkiiheaeaaaGreatDoor
namespace Go.Proofs.YtgckmkiiheaeaaaGreatDoor.Lx.Sp
theorem part_short {d : List UInt8} {k a : Nat} {last : Option Tok} {ns : List Tok} (h : partD d k last = .inr (a, ns)) : ∀ t ∈ ns, t.text.length ≤ 256 := by
 have one : ∀ {u : Tok}, ns = [u] → u.text.length ≤ 256 → ∀ t ∈ ns, t.text.length ≤ 256 := fun e hu t ht => by
  subst e
  rw [List.mem_singleton] at ht
  subst ht
  exact hu
 have nil : ns = [] → ∀ t ∈ ns, t.text.length ≤ 256 := fun e t ht => by subst e; simp at ht
 cases d with
 | nil => simp [partD] at h
 | cons c d =>
   rw [partD_cons] at h
   by_cases h0 : c = 32 ∨ c = 9
   ·rw [if_pos h0] at h; exact nil (Prod.mk.inj (Sum.inr.inj h)).2.symm
   rw [if_neg h0] at h
   by_cases h10 : c = 10
   ·rw [if_pos h10] at h
    have e : endD last k = ns := (Prod.mk.inj (Sum.inr.inj h)).2
    unfold endD at e
    cases last with
    | none => exact nil e.symm
    | some u =>
      simp only at e
      split at e
      ·exact one e.symm (show [(59 : UInt8)].length ≤ 256 by decide)
      ·exact nil e.symm
   rw [if_neg h10] at h
   by_cases h2 : ((c :: d).take 2 == [47, 47]) = true
   ·rw [if_pos h2] at h; exact nil (Prod.mk.inj (Sum.inr.inj h)).2.symm
   rw [if_neg h2] at h
   by_cases h3 : isLet c = true
   ·rw [if_pos h3] at h
    by_cases hl : 24 < ((c :: d).takeWhile isNam).length
    ·rw [if_pos hl] at h; cases h
    ·rw [if_neg hl] at h
     exact one (Prod.mk.inj (Sum.inr.inj h)).2.symm (by show ((c :: d).takeWhile isNam).length ≤ 256; omega)
   rw [if_neg h3] at h
   by_cases h4 : isDig c = true
   ·rw [if_pos h4, num_form] at h
    by_cases hb : numBad ((c :: d).takeWhile isDig) = true
    ·rw [if_pos hb] at h; cases h
    rw [if_neg hb] at h
    by_cases hl : letAt (c :: d) ((c :: d).takeWhile isDig).length = true
    ·rw [if_pos hl] at h; cases h
    rw [if_neg hl] at h
    refine one (u := ⟨2, (c :: d).takeWhile isDig, numV ((c :: d).takeWhile isDig), k⟩) (Prod.mk.inj (Sum.inr.inj h)).2.symm ?_
    show ((c :: d).takeWhile isDig).length ≤ 256
    by_cases h18 : 18 < ((c :: d).takeWhile isDig).length
    ·exact absurd (by unfold numBad; rw [decide_eq_true h18]; rfl) hb
    ·omega
   rw [if_neg h4] at h
   by_cases h5 : c = 34
   ·rw [if_pos h5] at h
    unfold textF at h
    cases hx : txt ((c :: d).drop (0 + 1)) with
    | mk m n =>
      rw [hx] at h
      cases m with
      | none => simp only at h; cases h
      | some m =>
        simp only at h
        by_cases hl : 256 < m.length
        ·rw [if_pos hl] at h; cases h
        ·rw [if_neg hl] at h
         exact one (u := ⟨3, m, 0, k⟩) (Prod.mk.inj (Sum.inr.inj h)).2.symm (by show m.length ≤ 256; omega)
   rw [if_neg h5] at h
   by_cases hm : mLen (c :: d) = 0
   ·rw [if_pos hm] at h; cases h
   rw [if_neg hm] at h
   refine one (Prod.mk.inj (Sum.inr.inj h)).2.symm ?_
   show ((c :: d).take (mLen (c :: d))).length ≤ 256
   have h1 := mlen_leR (c :: d)
   have h2 := List.length_take_le (mLen (c :: d)) (c :: d)
   omega
theorem scan_short : ∀ (f : Nat) (d : List UInt8) (k : Nat) (last : Option Tok) (r : List Tok), scanD f d k last = .inr r → ∀ t ∈ r, t.text.length ≤ 256
 | 0, d, k, last, r, h => by simp only [scanD] at h; cases h; simp
 | f + 1, [], k, last, r, h => by simp only [scanD] at h; cases h; simp
 | f + 1, c :: d, k, last, r, h => by
   simp only [scanD] at h
   cases hp : partD (c :: d) k last with
   | inl p => rw [hp] at h; cases h
   | inr q =>
     obtain ⟨a, ns⟩ := q
     rw [hp] at h
     simp only at h
     cases hs : scanD f ((c :: d).drop a) (k + a) (ns.getLast?.or last) with
     | inl p => rw [hs] at h; cases h
     | inr r' =>
       rw [hs] at h
       simp only at h
       have e := (Sum.inr.inj h).symm
       subst e
       intro t ht
       rcases List.mem_append.1 ht with ht | ht
       ·exact part_short hp t ht
       ·exact scan_short f _ _ _ _ hs t ht
theorem lex_few (l : List UInt8) (L : List Tok) (p : Int) (h : lexR l = (L, 0, p)) : L.length ≤ l.length + 2 ∧ ∀ t ∈ L, t.text.length ≤ 256 := by
 unfold lexR at h
 split at h
 ·cases h
 cases hsc : scanAll l 0 [] with
 | inl q => rw [hsc] at h; simp at h
 | inr ts =>
   rw [hsc] at h
   simp only at h
   cases hd : deepF 0 (allP ts l.length) with
   | some a => rw [hd] at h; simp at h
   | none =>
     rw [hd] at h
     simp only [Prod.mk.injEq] at h
     obtain ⟨rfl, _, _⟩ := h
     have h1 := scan_len l ts hsc
     have h2 := endT_len ts (l.length : Nat)
     have h3 : ∀ t ∈ ts, t.text.length ≤ 256 := by
      unfold scanAll at hsc
      rw [scan_D, List.drop_zero, List.getLast?_nil] at hsc
      cases hq : scanD (l.length + 1 - 0) l 0 none with
      | inl p => rw [hq] at hsc; cases hsc
      | inr r =>
        rw [hq] at hsc
        simp only [List.nil_append] at hsc
        cases hsc
        exact scan_short _ _ _ _ _ hq
     refine ⟨by unfold allP; rw [List.length_append]; simp only [List.length_cons, List.length_nil]; omega, fun t ht => ?_⟩
     unfold allP at ht
     rw [endD_eq] at ht
     rcases List.mem_append.1 ht with ht | ht
     ·rcases List.mem_append.1 ht with ht | ht
      ·exact h3 t ht
      ·unfold endD at ht
       split at ht
       ·split at ht
        ·rw [List.mem_singleton] at ht; subst ht; simp
        ·simp at ht
       ·simp at ht
     ·rw [List.mem_singleton] at ht; subst ht; simp
end Go.Proofs.YtgckmkiiheaeaaaGreatDoor.Lx.Sp
