/- A source that is cut and goes on otherwise: its tokens ahead of the cut are the same. -/
import Derived.Test.YtgckmkiiheaeaaaGreatDoorLexP
set_option linter.unusedVariables false
set_option linter.unusedSimpArgs false
set_option maxRecDepth 100000
namespace Go.Proofs.YtgckmkiiheaeaaaGreatDoor.Lx.Sp
/-- What a line's end puts behind the last token. -/
def endD (last : Option Tok) (k : Int) : List Tok :=
  match last with
  | some t => if tokEnds t.kind t.text then [⟨5, [59], 1, k⟩] else []
  | none => []
theorem endD_eq (ts : List Tok) (k : Int) : endT ts k = ts ++ endD ts.getLast? k := by
  unfold endT endD
  cases ts.getLast? with
  | none => simp
  | some t => simp only; split <;> simp
/-- One part, by what is left of the source alone. -/
def partD (d : List UInt8) (k : Nat) (last : Option Tok) : Sum Nat (Nat × List Tok) :=
  match d with
  | [] => .inl 0
  | c :: _ =>
    if c = 32 ∨ c = 9 then .inr (1, [])
    else if c = 10 then .inr (1, endD last k)
    else if d.take 2 == [47, 47] then .inr ((d.takeWhile notNl).length, [])
    else if isLet c = true then (if 24 < (d.takeWhile isNam).length then .inl k else .inr ((d.takeWhile isNam).length, [⟨nmK (d.takeWhile isNam), d.takeWhile isNam, 0, k⟩]))
    else if isDig c = true then (match numF d 0 [] with | .inl p => .inl (k + p) | .inr q => .inr (q.1, q.2.map fun t => { t with pos := k }))
    else if c = 34 then (match textF d 0 [] with | .inl p => .inl (k + p) | .inr q => .inr (q.1, q.2.map fun t => { t with pos := k }))
    else if mLen d = 0 then .inl k else .inr (mLen d, [⟨5, d.take (mLen d), 0, k⟩])
def scanD : Nat → List UInt8 → Nat → Option Tok → Sum Nat (List Tok)
  | 0, _, _, _ => .inr []
  | f + 1, d, k, last =>
    match d with
    | [] => .inr []
    | _ :: _ =>
      match partD d k last with
      | .inl p => .inl p
      | .inr (a, ns) =>
        match scanD f (d.drop a) (k + a) (ns.getLast?.or last) with
        | .inl p => .inl p
        | .inr r => .inr (ns ++ r)

theorem tw_take (p : UInt8 → Bool) : ∀ d : List UInt8, d.take (d.takeWhile p).length = d.takeWhile p
  | [] => rfl
  | c :: r => by
    by_cases h : p c = true
    · simp [h, tw_take p r]
    · simp [h]
theorem re_D (p : UInt8 → Bool) (l : List UInt8) (k : Nat) : runEnd p l k = k + ((l.drop k).takeWhile p).length := rfl
theorem sub_D (l : List UInt8) (k n : Nat) : sub l k (k + n) = (l.drop k).take n := by unfold sub; rw [Nat.add_sub_cancel_left]
theorem letAt_D (l : List UInt8) (k n : Nat) : letAt l (k + n) = letAt (l.drop k) n := by unfold letAt; rw [List.getElem?_drop]
def upD (k : Nat) (ts : List Tok) : Sum Nat (Nat × List Tok) → Sum Nat (Nat × List Tok)
  | .inl p => .inl p
  | .inr q => .inr (k + q.1, ts ++ q.2)
theorem num_D (l : List UInt8) (k : Nat) (ts : List Tok) : numF l k ts = upD k ts (match numF (l.drop k) 0 [] with | .inl p => .inl (k + p) | .inr q => .inr (q.1, q.2.map fun t => { t with pos := k })) := by
  unfold numF
  have e0 : runEnd isDig (l.drop k) 0 = 0 + ((l.drop k).takeWhile isDig).length := rfl
  rw [re_D, e0, sub_D, sub_D, letAt_D, letAt_D, List.drop_zero]
  generalize ((l.drop k).takeWhile isDig).length = n
  split
  · rfl
  · rw [Nat.zero_add]
    split <;> rfl
theorem text_D (l : List UInt8) (k : Nat) (ts : List Tok) : textF l k ts = upD k ts (match textF (l.drop k) 0 [] with | .inl p => .inl (k + p) | .inr q => .inr (q.1, q.2.map fun t => { t with pos := k })) := by
  unfold textF
  rw [List.drop_drop]
  generalize txt (l.drop (k + (0 + 1))) = x
  obtain ⟨m, n⟩ := x
  cases m with
  | none => simp only [upD]; congr 1; omega
  | some m =>
    simp only
    split
    · rfl
    · simp only [upD, List.nil_append, List.map_cons, List.map_nil]; congr 2; omega
theorem part_D (l : List UInt8) (k : Nat) (ts : List Tok) (hk : k < l.length) : partF l k ts = upD k ts (partD (l.drop k) k ts.getLast?) := by
  have hd : l.drop k = l[k] :: l.drop (k + 1) := List.drop_eq_getElem_cons hk
  have hc : l[k]? = some l[k] := List.getElem?_eq_getElem hk
  unfold partF partD
  rw [hc]
  generalize hl : l[k] = c at *
  rw [hd]
  simp only
  rw [← hd]
  by_cases h1 : c = 32 ∨ c = 9
  · rw [if_pos h1, if_pos h1]; simp [upD]
  rw [if_neg h1, if_neg h1]
  by_cases h2 : c = 10
  · rw [if_pos h2, if_pos h2, endD_eq]; rfl
  rw [if_neg h2, if_neg h2]
  have e : cmt l k = ((l.drop k).take 2 == [47, 47]) := rfl
  rw [e]
  by_cases h3 : ((l.drop k).take 2 == [47, 47]) = true
  · rw [if_pos h3, if_pos h3, re_D]; simp [upD]
  rw [if_neg h3, if_neg h3]
  by_cases h4 : isLet c = true
  · rw [if_pos h4, if_pos h4]
    unfold nameF
    rw [re_D, sub_D, tw_take, Nat.add_sub_cancel_left]
    split <;> rfl
  rw [if_neg h4, if_neg h4]
  by_cases h5 : isDig c = true
  · rw [if_pos h5, if_pos h5]; exact num_D l k ts
  rw [if_neg h5, if_neg h5]
  by_cases h6 : c = 34
  · rw [if_pos h6, if_pos h6]; exact text_D l k ts
  rw [if_neg h6, if_neg h6]
  unfold markF
  rw [sub_D]
  split <;> rfl
theorem last_app (ts ns : List Tok) : (ts ++ ns).getLast? = ns.getLast?.or ts.getLast? := by
  rw [List.getLast?_append]
theorem scan_D : ∀ (f : Nat) (l : List UInt8) (k : Nat) (ts : List Tok), scanF f l k ts = match scanD f (l.drop k) k ts.getLast? with | .inl p => .inl p | .inr r => .inr (ts ++ r)
  | 0, l, k, ts => by simp [scanF, scanD]
  | f + 1, l, k, ts => by
    unfold scanF scanD
    by_cases hk : k < l.length
    · rw [if_pos hk, part_D l k ts hk]
      have hd : l.drop k = l[k] :: l.drop (k + 1) := List.drop_eq_getElem_cons hk
      rw [hd]
      simp only
      rw [← hd]
      cases hp : partD (l.drop k) k ts.getLast? with
      | inl p => rfl
      | inr q =>
        obtain ⟨a, ns⟩ := q
        simp only [upD]
        rw [scan_D f l (k + a) (ts ++ ns), List.drop_drop, last_app]
        cases scanD f (l.drop (k + a)) (k + a) (ns.getLast?.or ts.getLast?) with
        | inl p => rfl
        | inr r => simp
    · rw [if_neg hk, List.drop_eq_nil_of_le (by omega)]
      simp
/-- Layer 1 once more, each part taken off the front: quicker for the kernel. -/
def lexD (l : List UInt8) : List Tok × Int × Int :=
  if 8192 < l.length then ([], 1, 8192)
  else match scanD (l.length + 1) l 0 none with
    | .inl p => ([], 2, (p : Int))
    | .inr ts =>
      match deepF 0 (allP ts l.length) with
      | some a => ([], 3, a)
      | none => (allP ts l.length, 0, 0)
theorem lex_D (l : List UInt8) : lexR l = lexD l := by
  unfold lexR lexD scanAll
  rw [scan_D, List.drop_zero, List.getLast?_nil, Nat.sub_zero]
  cases scanD (l.length + 1) l 0 none with
  | inl p => rfl
  | inr r => rfl
theorem tw_le (p : UInt8 → Bool) (d : List UInt8) : (d.takeWhile p).length ≤ d.length := by
  have := congrArg List.length (tw_take p d)
  rw [List.length_take] at this
  omega
theorem tw_cut {p : UInt8 → Bool} (h : p 10 = false) (q : List UInt8) : ∀ (d : List UInt8) (e : Nat), (d.takeWhile p).length ≤ e → (d.take e ++ 10 :: q).takeWhile p = d.takeWhile p
  | [], e, _ => by simp [h]
  | c :: r, e, he => by
    by_cases hc : p c = true
    · rw [List.takeWhile_cons_of_pos hc] at he ⊢
      obtain ⟨n, rfl⟩ : ∃ n, e = n + 1 := ⟨e - 1, by simp at he; omega⟩
      rw [List.take_succ_cons, List.cons_append, List.takeWhile_cons_of_pos hc, tw_cut h q r n (by simpa using he)]
    · rw [List.takeWhile_cons_of_neg hc]
      cases e with
      | zero => simp [h]
      | succ n => rw [List.take_succ_cons, List.cons_append, List.takeWhile_cons_of_neg hc]
theorem txt_cut (q : List UInt8) : ∀ (n : Nat) (d m : List UInt8) (j e : Nat), d.length ≤ n → txt d = (some m, j) → j ≤ e → txt (d.take e ++ 10 :: q) = (some m, j)
  | _, [], m, j, e, _, h, _ => by rw [txt.eq_def] at h; simp at h
  | 0, c :: r, _, _, _, hn, _, _ => by simp at hn
  | n + 1, c :: r, m, j, e, hn, h, he => by
    have hr : r.length ≤ n := by simpa using hn
    by_cases h1 : c = 34
    · subst h1
      rw [txt_quote] at h
      simp only [Prod.mk.injEq, Option.some.injEq] at h
      obtain ⟨rfl, rfl⟩ := h
      obtain ⟨x, rfl⟩ : ∃ x, e = x + 1 := ⟨e - 1, by omega⟩
      rw [List.take_succ_cons, List.cons_append, txt_quote]
    · by_cases h2 : c = 92
      · subst h2
        cases r with
        | nil => rw [txt.eq_def] at h; simp at h
        | cons d r' =>
          cases hx : escC d with
          | none => rw [txt.eq_def] at h; simp [hx] at h
          | some x =>
            rw [txt_esc d x r' hx] at h
            simp only [Prod.mk.injEq, Option.map_eq_some_iff] at h
            obtain ⟨⟨m', h3, rfl⟩, rfl⟩ := h
            obtain ⟨y, rfl⟩ : ∃ y, e = y + 2 := ⟨e - 2, by omega⟩
            rw [List.take_succ_cons, List.take_succ_cons, List.cons_append, List.cons_append, txt_esc d x _ hx, txt_cut q n r' m' (txt r').2 y (by simp at hr; omega) (by rw [← h3]) (by omega)]
            rfl
      · by_cases h3 : isPln c = true
        · rw [txt_plain c r h3] at h
          simp only [Prod.mk.injEq, Option.map_eq_some_iff] at h
          obtain ⟨⟨m', h4, rfl⟩, rfl⟩ := h
          obtain ⟨y, rfl⟩ : ∃ y, e = y + 1 := ⟨e - 1, by omega⟩
          rw [List.take_succ_cons, List.cons_append, txt_plain c _ h3, txt_cut q n r m' (txt r).2 y hr (by rw [← h4]) (by omega)]
          rfl
        · rw [txt_stop c r (by simpa using h3) h1 h2] at h
          simp at h
theorem pr_nl (c : UInt8) : isPr [c, 10] = false := by simp [isPr, pairList]
theorem two_cut (c : UInt8) (r q : List UInt8) (e : Nat) : (c :: (r.take e ++ 10 :: q)).take 2 = (c :: r).take 2 ∨ (c :: (r.take e ++ 10 :: q)).take 2 = [c, 10] ∧ (e = 0 ∨ r = []) := by
  cases e with
  | zero => right; exact ⟨rfl, .inl rfl⟩
  | succ e =>
    cases r with
    | nil => right; exact ⟨rfl, .inr rfl⟩
    | cons d r => left; simp
theorem mlen_cut (c : UInt8) (r q : List UInt8) (e : Nat) (he : mLen (c :: r) ≤ e + 1) : mLen (c :: (r.take e ++ 10 :: q)) = mLen (c :: r) := by
  unfold mLen at he ⊢
  by_cases h2 : mTab c.toNat = 2
  · simp only [h2, if_true] at he ⊢
    rcases two_cut c r q e with h | ⟨h, h3⟩
    · rw [h]
    · have h4 : isPr ((c :: r).take 2) = false := by
        rcases h3 with rfl | rfl
        · cases hp : isPr ((c :: r).take 2) with
          | false => rfl
          | true => rw [hp] at he; simp at he
        · simp [isPr, pairList]
      rw [h, h4, pr_nl]
  · simp only [h2, if_false]
theorem part_pos {d : List UInt8} {k a : Nat} {last : Option Tok} {ns : List Tok} (h : partD d k last = .inr (a, ns)) : 1 ≤ a ∧ a ≤ d.length ∧ ns.length ≤ 1 ∧ ∀ t ∈ ns, t.pos = k := by
  cases d with
  | nil => simp [partD] at h
  | cons c r =>
    unfold partD at h
    simp only at h
    split at h
    · simp only [Sum.inr.injEq, Prod.mk.injEq] at h; obtain ⟨rfl, rfl⟩ := h; exact ⟨by omega, by simp, by simp, fun t ht => by simp at ht⟩
    split at h
    · simp only [Sum.inr.injEq, Prod.mk.injEq] at h; obtain ⟨rfl, rfl⟩ := h
      refine ⟨by omega, by simp, ?_, fun t ht => ?_⟩
      · unfold endD
        split
        · split <;> simp
        · simp
      · unfold endD at ht
        split at ht
        · split at ht
          · simp at ht; rw [ht]
          · simp at ht
        · simp at ht
    split at h
    · rename_i h1 h2 h3
      simp only [Sum.inr.injEq, Prod.mk.injEq] at h; obtain ⟨rfl, rfl⟩ := h
      refine ⟨?_, tw_le _ _, by simp, fun t ht => by simp at ht⟩
      have : notNl c = true := by unfold notNl; simp only [Bool.not_eq_true', decide_eq_false_iff_not]; intro e; exact h2 (UInt8.toNat_inj.1 (by rw [show (10 : UInt8).toNat = 10 from rfl]; omega))
      rw [List.takeWhile_cons_of_pos this]; simp
    split at h
    · rename_i h4
      split at h
      · simp at h
      · simp only [Sum.inr.injEq, Prod.mk.injEq] at h; obtain ⟨rfl, rfl⟩ := h
        refine ⟨?_, tw_le _ _, by simp, fun t ht => by simp at ht; rw [ht]⟩
        rw [List.takeWhile_cons_of_pos (by simp [isNam, h4])]; simp
    split at h
    · rename_i h5
      cases hn : numF (c :: r) 0 [] with
      | inl p => rw [hn] at h; simp at h
      | inr y =>
        rw [hn] at h
        simp only [Sum.inr.injEq, Prod.mk.injEq] at h
        obtain ⟨rfl, rfl⟩ := h
        unfold numF at hn
        split at hn
        · simp at hn
        split at hn
        · simp at hn
        · simp only [Sum.inr.injEq] at hn
          subst hn
          refine ⟨?_, ?_, by simp, fun t ht => by simp at ht; rw [ht]⟩
          · simp only [runEnd, List.drop_zero]; rw [List.takeWhile_cons_of_pos h5]; simp
          · have := tw_le isDig (c :: r)
            simp only [runEnd, List.drop_zero]; omega
    split at h
    · rename_i h6
      cases hn : textF (c :: r) 0 [] with
      | inl p => rw [hn] at h; simp at h
      | inr y =>
        rw [hn] at h
        simp only [Sum.inr.injEq, Prod.mk.injEq] at h
        obtain ⟨rfl, rfl⟩ := h
        unfold textF at hn
        have hle := txt_le _ r (Nat.le_refl _)
        simp only [Nat.zero_add, List.drop_succ_cons, List.drop_zero] at hn
        cases hx : txt r with
        | mk o n =>
          rw [hx] at hn hle
          cases o with
          | none => simp at hn
          | some m =>
            simp only at hn
            split at hn
            · simp at hn
            · simp only [Sum.inr.injEq] at hn
              subst hn
              refine ⟨by simp only; omega, by simp only [List.length_cons] at hle ⊢; omega, by simp, fun t ht => by simp at ht; rw [ht]⟩
    · split at h
      · simp at h
      · rename_i h8
        simp only [Sum.inr.injEq, Prod.mk.injEq] at h; obtain ⟨rfl, rfl⟩ := h
        exact ⟨by omega, mlen_le2 _, by simp, fun t ht => by simp at ht; rw [ht]⟩
theorem part_cut {d : List UInt8} {k a : Nat} {last : Option Tok} {ns : List Tok} (q : List UInt8) (h : partD d k last = .inr (a, ns)) (e : Nat) (he : a ≤ e) : partD (d.take e ++ 10 :: q) k last = .inr (a, ns) := by
  obtain ⟨h1, h2, _, _⟩ := part_pos h
  cases d with
  | nil => simp at h2; omega
  | cons c r =>
    obtain ⟨x, rfl⟩ : ∃ x, e = x + 1 := ⟨e - 1, by omega⟩
    have ed : (c :: r).take (x + 1) ++ 10 :: q = c :: (r.take x ++ 10 :: q) := by simp
    have tw : ∀ p : UInt8 → Bool, p 10 = false → ((c :: r).takeWhile p).length ≤ x + 1 → (c :: (r.take x ++ 10 :: q)).takeWhile p = (c :: r).takeWhile p := fun p hp hl => by rw [← ed]; exact tw_cut hp q (c :: r) (x + 1) hl
    rw [ed]
    unfold partD at h ⊢
    simp only at h ⊢
    by_cases c1 : c = 32 ∨ c = 9
    · rw [if_pos c1] at h ⊢; exact h
    rw [if_neg c1] at h ⊢
    by_cases c2 : c = 10
    · rw [if_pos c2] at h ⊢; exact h
    rw [if_neg c2] at h ⊢
    by_cases c3 : ((c :: r).take 2 == [47, 47]) = true
    · rw [if_pos c3] at h
      simp only [Sum.inr.injEq, Prod.mk.injEq] at h
      obtain ⟨rfl, rfl⟩ := h
      have e3 : (c :: (r.take x ++ 10 :: q)).take 2 = (c :: r).take 2 := by
        rcases two_cut c r q x with g | ⟨_, g⟩
        · exact g
        · exfalso
          rcases g with rfl | rfl
          · cases r with
            | nil => simp at c3
            | cons b r =>
              simp only [List.take_succ_cons, List.take_zero, beq_iff_eq, List.cons.injEq, and_true] at c3
              obtain ⟨rfl, rfl⟩ := c3
              rw [List.takeWhile_cons_of_pos (by decide), List.takeWhile_cons_of_pos (by decide)] at he
              simp at he
          · simp at c3
      rw [if_pos (by rw [e3]; exact c3), tw notNl (by decide) he]
    rw [if_neg c3] at h
    have c3' : ¬ ((c :: (r.take x ++ 10 :: q)).take 2 == [47, 47]) = true := by
      rcases two_cut c r q x with g | ⟨g, _⟩
      · rw [g]; exact c3
      · rw [g]; simp
    rw [if_neg c3']
    by_cases c4 : isLet c = true
    · rw [if_pos c4] at h ⊢
      split at h
      · simp at h
      · rename_i c5
        have hl : ((c :: r).takeWhile isNam).length ≤ x + 1 := by simp only [Sum.inr.injEq, Prod.mk.injEq] at h; rw [h.1]; exact he
        rw [tw isNam (by decide) hl, if_neg c5]
        exact h
    rw [if_neg c4] at h ⊢
    by_cases c5 : isDig c = true
    · rw [if_pos c5] at h ⊢
      have key : numF (c :: (r.take x ++ 10 :: q)) 0 [] = numF (c :: r) 0 [] := by
        cases hn : numF (c :: r) 0 [] with
        | inl p => rw [hn] at h; simp at h
        | inr y =>
          rw [hn] at h
          simp only [Sum.inr.injEq, Prod.mk.injEq] at h
          have ha := h.1
          unfold numF at hn
          split at hn
          · simp at hn
          rename_i b1
          split at hn
          · simp at hn
          rename_i b2
          simp only [Sum.inr.injEq] at hn
          have hy : runEnd isDig (c :: r) 0 = a := by rw [← hn] at ha; exact ha
          have hl : ((c :: r).takeWhile isDig).length = a := by have : runEnd isDig (c :: r) 0 = 0 + ((c :: r).takeWhile isDig).length := rfl; omega
          have e1 : runEnd isDig (c :: (r.take x ++ 10 :: q)) 0 = runEnd isDig (c :: r) 0 := by
            show 0 + _ = 0 + _
            rw [List.drop_zero, List.drop_zero, tw isDig (by decide) (by omega)]
          have e2 : sub (c :: (r.take x ++ 10 :: q)) 0 a = sub (c :: r) 0 a := by
            unfold sub
            rw [List.drop_zero, List.drop_zero, Nat.sub_zero, ← ed, List.take_append_of_le_length (by rw [List.length_take]; omega), List.take_take, Nat.min_eq_left he]
          unfold numF
          rw [e1, hy, e2, if_neg (by rw [hy] at b1; exact b1)]
          have e3 : ¬ letAt (c :: (r.take x ++ 10 :: q)) a = true := by
            unfold letAt
            rw [← ed]
            by_cases hax : a < x + 1
            · by_cases had : a < (c :: r).length
              · rw [List.getElem?_append_left (by rw [List.length_take]; omega), List.getElem?_take_of_lt hax]
                rw [hy] at b2; exact b2
              · have : ((c :: r).take (x + 1)) = c :: r := List.take_of_length_le (by omega)
                rw [this, List.getElem?_append_right (by omega)]
                have : a - (c :: r).length = 0 := by omega
                rw [this, List.getElem?_cons_zero]; decide
            · have : a = x + 1 := by omega
              subst this
              rw [List.getElem?_append_right (by rw [List.length_take]; omega), List.length_take, Nat.min_eq_left (by omega), Nat.sub_self, List.getElem?_cons_zero]
              decide
          rw [if_neg e3, ← hn, hy]
      rw [key]; exact h
    rw [if_neg c5] at h ⊢
    by_cases c6 : c = 34
    · rw [if_pos c6] at h ⊢
      have key : textF (c :: (r.take x ++ 10 :: q)) 0 [] = textF (c :: r) 0 [] := by
        unfold textF at h ⊢
        simp only [Nat.zero_add, List.drop_succ_cons, List.drop_zero] at h ⊢
        cases hx : txt r with
        | mk o n =>
          rw [hx] at h
          cases o with
          | none => simp at h
          | some m =>
            simp only at h
            by_cases hm : 256 < m.length
            · rw [if_pos hm] at h; simp at h
            · rw [if_neg hm] at h
              simp only [Sum.inr.injEq, Prod.mk.injEq] at h
              rw [txt_cut q _ r m n x (Nat.le_refl _) hx (by have := h.1; omega)]
      rw [key]; exact h
    rw [if_neg c6] at h ⊢
    split at h
    · simp at h
    rename_i c7
    simp only [Sum.inr.injEq, Prod.mk.injEq] at h
    obtain ⟨rfl, rfl⟩ := h
    rw [mlen_cut c r q x he, if_neg c7]
    have : (c :: (r.take x ++ 10 :: q)).take (mLen (c :: r)) = (c :: r).take (mLen (c :: r)) := by
      rw [← ed, List.take_append_of_le_length (by rw [List.length_take]; omega), List.take_take, Nat.min_eq_left he]
    rw [this]
theorem scan_inv {f : Nat} {d : List UInt8} {k : Nat} {last : Option Tok} {r : List Tok} (h : scanD (f + 1) d k last = .inr r) : d = [] ∧ r = [] ∨ ∃ a ns r2, d ≠ [] ∧ partD d k last = .inr (a, ns) ∧ scanD f (d.drop a) (k + a) (ns.getLast?.or last) = .inr r2 ∧ r = ns ++ r2 := by
  cases d with
  | nil => left; simp [scanD] at h; exact ⟨rfl, h⟩
  | cons c d =>
    right
    unfold scanD at h
    simp only at h
    cases hp : partD (c :: d) k last with
    | inl p => rw [hp] at h; simp at h
    | inr y =>
      obtain ⟨a, ns⟩ := y
      rw [hp] at h
      simp only at h
      cases hs : scanD f ((c :: d).drop a) (k + a) (ns.getLast?.or last) with
      | inl p => rw [hs] at h; simp at h
      | inr r2 =>
        rw [hs] at h
        simp only [Sum.inr.injEq] at h
        exact ⟨a, ns, r2, by simp, rfl, hs, h.symm⟩
theorem scan_pos : ∀ (f : Nat) (d : List UInt8) (k : Nat) (last : Option Tok) (r : List Tok), scanD f d k last = .inr r → (∀ t ∈ r, (k : Int) ≤ t.pos ∧ t.pos ≤ (k : Int) + d.length) ∧ r.Pairwise (fun x y => x.pos ≤ y.pos)
  | 0, d, k, last, r, h => by simp [scanD] at h; subst h; simp
  | f + 1, d, k, last, r, h => by
    rcases scan_inv h with ⟨rfl, rfl⟩ | ⟨a, ns, r2, hd, hp, hs, rfl⟩
    · simp
    · obtain ⟨a1, a2, a3, a4⟩ := part_pos hp
      obtain ⟨b1, b2⟩ := scan_pos f _ _ _ _ hs
      rw [List.length_drop] at b1
      refine ⟨fun t ht => ?_, List.pairwise_append.2 ⟨?_, b2, fun x hx y hy => ?_⟩⟩
      · rcases List.mem_append.1 ht with g | g
        · rw [a4 t g]; omega
        · have := b1 t g; omega
      · match ns, a3 with
        | [], _ => simp
        | [x], _ => simp
        | _ :: _ :: _, h => simp at h
      · rw [a4 x hx]; have := b1 y hy; omega
theorem scan_cut (q : List UInt8) : ∀ (f : Nat) (d : List UInt8) (k : Nat) (last : Option Tok) (r : List Tok), scanD f d k last = .inr r → ∀ (i : Nat) (t : Tok), r[i]? = some t → ∀ (e : Nat), t.pos ≤ (k : Int) + e → ∀ (f' : Nat) (r' : List Tok), (d.take e ++ 10 :: q).length < f' → scanD f' (d.take e ++ 10 :: q) k last = .inr r' → r'.take i = r.take i
  | 0, d, k, last, r, h, i, t, hi, e, he, f', r', hf, h' => by simp [scanD] at h; subst h; simp at hi
  | f + 1, d, k, last, r, h, i, t, hi, e, he, f', r', hf, h' => by
    rcases scan_inv h with ⟨rfl, rfl⟩ | ⟨a, ns, r2, hd, hp, hs, rfl⟩
    · simp at hi
    · obtain ⟨a1, a2, a3, a4⟩ := part_pos hp
      rcases Nat.lt_or_ge i ns.length with hn | hn
      · obtain rfl : i = 0 := by omega
        rfl
      · rw [List.getElem?_append_right hn] at hi
        have hb := ((scan_pos f _ _ _ _ hs).1 t (List.mem_of_getElem? hi)).1
        have hae : a ≤ e := by omega
        obtain ⟨g, rfl⟩ : ∃ g, f' = g + 1 := ⟨f' - 1, by omega⟩
        have hp' := part_cut q hp e hae
        rcases scan_inv h' with ⟨e1, _⟩ | ⟨a', ns', r2', _, hp2, hs2, rfl⟩
        · simp at e1
        · rw [hp'] at hp2
          simp only [Sum.inr.injEq, Prod.mk.injEq] at hp2
          obtain ⟨rfl, rfl⟩ := hp2
          have ed : (d.take e ++ 10 :: q).drop a = (d.drop a).take (e - a) ++ 10 :: q := by
            rw [List.drop_append_of_le_length (by rw [List.length_take]; omega), List.drop_take]
          rw [ed] at hs2
          have h1 : 1 ≤ (d.take e ++ 10 :: q).length := by rw [List.length_append, List.length_cons]; omega
          have hl : ((d.drop a).take (e - a) ++ 10 :: q).length < g := by rw [← ed, List.length_drop]; omega
          have ih := scan_cut q f _ _ _ _ hs (i - ns.length) t hi (e - a) (by omega) g r2' hl hs2
          rw [List.take_append, List.take_append, ih]
theorem scan_all (q : List UInt8) : ∀ (f : Nat) (d : List UInt8) (k : Nat) (last : Option Tok) (r : List Tok), d.length < f → scanD f d k last = .inr r → ∀ (f' : Nat) (r' : List Tok), (d ++ 10 :: q).length < f' → scanD f' (d ++ 10 :: q) k last = .inr r' → ∃ x, r' = r ++ (endD (r.getLast?.or last) ((k + d.length : Nat) : Int) ++ x)
  | 0, d, k, last, r, hd, h, f', r', hf, h' => by omega
  | f + 1, d, k, last, r, hdl, h, f', r', hf, h' => by
    obtain ⟨g, rfl⟩ : ∃ g, f' = g + 1 := ⟨f' - 1, by omega⟩
    rcases scan_inv h with ⟨rfl, rfl⟩ | ⟨a, ns, r2, hd, hp, hs, rfl⟩
    · rcases scan_inv h' with ⟨e1, _⟩ | ⟨a', ns', r2', _, hp2, hs2, rfl⟩
      · simp at e1
      · have e0 : partD ([] ++ 10 :: q) k last = .inr (1, endD last k) := by simp [partD]
        rw [e0] at hp2
        simp only [Sum.inr.injEq, Prod.mk.injEq] at hp2
        obtain ⟨rfl, rfl⟩ := hp2
        exact ⟨r2', by simp⟩
    · obtain ⟨a1, a2, a3, a4⟩ := part_pos hp
      have hp' := part_cut q hp d.length a2
      rw [List.take_length] at hp'
      rcases scan_inv h' with ⟨e1, _⟩ | ⟨a', ns', r2', _, hp2, hs2, rfl⟩
      · simp at e1
      · rw [hp'] at hp2
        simp only [Sum.inr.injEq, Prod.mk.injEq] at hp2
        obtain ⟨rfl, rfl⟩ := hp2
        have ed : (d ++ 10 :: q).drop a = d.drop a ++ 10 :: q := List.drop_append_of_le_length a2
        rw [ed] at hs2
        have h1 : 1 ≤ (d ++ 10 :: q).length := by rw [List.length_append, List.length_cons]; omega
        obtain ⟨x, rfl⟩ := scan_all q f (d.drop a) (k + a) _ r2 (by rw [List.length_drop]; omega) hs g r2' (by rw [← ed, List.length_drop]; omega) hs2
        refine ⟨x, ?_⟩
        rw [List.length_drop, show k + a + (d.length - a) = k + d.length by omega, List.append_assoc]
        congr 2
        rw [List.getLast?_append]
        cases r2.getLast? <;> simp
end Go.Proofs.YtgckmkiiheaeaaaGreatDoor.Lx.Sp
