/- A line's end parts a source: what stands ahead of it is scanned as if it stood alone, what stands behind it too. -/
import Derived.Test.YteoongjimggbgaaDoorQuotesP
namespace Go.Proofs.YteoongjimggbgaaDoor.Lx

/-! ### Ahead of a line's end -/
theorem tw_join (p : UInt8 → Bool) (h : p 10 = false) (B : List UInt8) : ∀ t : List UInt8, (t ++ 10 :: B).takeWhile p = t.takeWhile p
  | [] => by simp [h]
  | c :: r => by
    by_cases hc : p c = true
    · simp [hc, tw_join p h B r]
    · simp [hc]
theorem drop_join (A B : List UInt8) (k : Nat) (h : k ≤ A.length) : (A ++ 10 :: B).drop k = A.drop k ++ 10 :: B := List.drop_append_of_le_length h
theorem re_join (p : UInt8 → Bool) (h : p 10 = false) (A B : List UInt8) (k : Nat) (hk : k ≤ A.length) : runEnd p (A ++ 10 :: B) k = runEnd p A k := by
  unfold runEnd
  rw [drop_join A B k hk, tw_join p h B]
theorem sub_join (A B : List UInt8) (a b : Nat) (ha : a ≤ A.length) (hb : b ≤ A.length) : sub (A ++ 10 :: B) a b = sub A a b := by
  unfold sub
  rw [drop_join A B a ha, List.take_append_of_le_length (by rw [List.length_drop]; omega)]
theorem txt_join (B : List UInt8) : ∀ (n : Nat) (t : List UInt8), t.length ≤ n → txt (t ++ 10 :: B) = txt t
  | 0, t, h => by
    have : t = [] := List.eq_nil_of_length_eq_zero (by omega)
    subst this
    rw [List.nil_append, txt_stop 10 B (by decide) (by decide) (by decide), txt]
  | n + 1, t, h => by
    cases t with
    | nil => rw [List.nil_append, txt_stop 10 B (by decide) (by decide) (by decide), txt]
    | cons c r =>
      rw [List.cons_append]
      by_cases h1 : c = 34
      · subst h1; rw [txt_quote, txt_quote]
      · by_cases h2 : c = 92
        · subst h2
          cases r with
          | nil =>
            rw [List.nil_append, txt_bad (10 :: B) (fun d r' hr => by cases hr; decide), txt_bad [] (fun d r' hr => by cases hr)]
          | cons d r' =>
            rw [List.cons_append]
            cases he : escC d with
            | none => rw [txt_bad (d :: (r' ++ 10 :: B)) (fun d' q hr => by cases hr; exact he), txt_bad (d :: r') (fun d' q hr => by cases hr; exact he)]
            | some x => rw [txt_esc d x _ he, txt_esc d x _ he, txt_join B n r' (by simp at h; omega)]
        · cases hp : isPln c with
          | true => rw [txt_plain c _ hp, txt_plain c _ hp, txt_join B n r (by simp at h; omega)]
          | false => rw [txt_stop c _ hp h1 h2, txt_stop c _ hp h1 h2]
theorem pr_nl (c : UInt8) : isPr [c, 10] = false := by simp [isPr, pairList]
theorem pr_one (c : UInt8) : isPr [c] = false := by simp [isPr, pairList]
theorem mlen_join (t B : List UInt8) (h : t ≠ []) : mLen (t ++ 10 :: B) = mLen t := by
  match t, h with
  | [c], _ =>
    show mLen (c :: 10 :: B) = mLen [c]
    unfold mLen
    simp [pr_nl, pr_one]
  | c :: d :: r, _ =>
    rfl
theorem cmt_join (A B : List UInt8) (k : Nat) (hk : k < A.length) : cmt (A ++ 10 :: B) k = cmt A k := by
  unfold cmt
  rw [drop_join A B k (by omega)]
  have hne : A.drop k ≠ [] := by
    intro e
    have := congrArg List.length e
    rw [List.length_drop] at this
    simp at this
    omega
  match h : A.drop k, hne with
  | [c], _ => simp
  | c :: d :: r, _ => simp
theorem letAt_join (A B : List UInt8) (k : Nat) (hk : k ≤ A.length) : letAt (A ++ 10 :: B) k = letAt A k := by
  unfold letAt
  rcases Nat.lt_or_ge k A.length with h | h
  · rw [List.getElem?_append_left h]
  · have : k = A.length := by omega
    subst this
    rw [List.getElem?_append_right (Nat.le_refl _), List.getElem?_eq_none (Nat.le_refl _)]
    simp
    decide
theorem part_join (A B : List UInt8) (k : Nat) (ts : List Tok) (hk : k < A.length) : partF (A ++ 10 :: B) k ts = partF A k ts := by
  have hc : A[k]? = some A[k] := List.getElem?_eq_getElem hk
  have hc' : (A ++ 10 :: B)[k]? = some A[k] := by rw [List.getElem?_append_left hk]; exact hc
  have hn : nameF (A ++ 10 :: B) k ts = nameF A k ts := by
    unfold nameF
    rw [re_join isNam (by decide) A B k (by omega), sub_join A B k _ (by omega) (re_le _ A k (by omega))]
  have hd : numF (A ++ 10 :: B) k ts = numF A k ts := by
    unfold numF
    rw [re_join isDig (by decide) A B k (by omega), sub_join A B k _ (by omega) (re_le _ A k (by omega)), letAt_join A B _ (re_le _ A k (by omega))]
  have ht : textF (A ++ 10 :: B) k ts = textF A k ts := by
    unfold textF
    rw [drop_join A B (k + 1) (by omega), txt_join B _ _ (Nat.le_refl _)]
  have hne : A.drop k ≠ [] := by
    intro e
    have := congrArg List.length e
    rw [List.length_drop] at this
    simp at this
    omega
  have hm : markF (A ++ 10 :: B) k ts = markF A k ts := by
    have hle := mlen_le2 (A.drop k)
    rw [List.length_drop] at hle
    unfold markF
    rw [drop_join A B k (by omega), mlen_join _ B hne, sub_join A B k _ (by omega) (by omega)]
  unfold partF
  rw [hc, hc']
  simp only
  rw [cmt_join A B k hk, hn, hd, ht, hm, re_join notNl (by decide) A B k (by omega)]
theorem scan_join (A B : List UInt8) : ∀ (n k : Nat) (ts : List Tok), A.length - k ≤ n → k ≤ A.length →
    (∀ p, scanAll A k ts = .inl p → scanAll (A ++ 10 :: B) k ts = .inl p) ∧ (∀ r, scanAll A k ts = .inr r → scanAll (A ++ 10 :: B) k ts = scanAll (A ++ 10 :: B) A.length r)
  | 0, k, ts, hn, hk => by
    have : k = A.length := by omega
    subst this
    rw [scanAll_end A _ ts (Nat.le_refl _)]
    exact ⟨fun p h => (by cases h), fun r h => by cases h; rfl⟩
  | n + 1, k, ts, hn, hk => by
    rcases Nat.lt_or_ge k A.length with hlt | hge
    · have hl : k < (A ++ 10 :: B).length := by rw [List.length_append]; omega
      have hp := part_join A B k ts hlt
      cases hq : partF A k ts with
      | inl p =>
        rw [hq] at hp
        rw [scanAll_inl A k ts p hlt hq, scanAll_inl _ k ts p hl hp]
        exact ⟨fun p' h => h, fun r h => by cases h⟩
      | inr q =>
        rw [hq] at hp
        obtain ⟨h1, h2, _⟩ := partF_prog A k ts hlt q.1 q.2 hq
        rw [scanAll_inr A k ts q.1 q.2 hlt hq, scanAll_inr _ k ts q.1 q.2 hl hp]
        exact scan_join A B n q.1 q.2 (by omega) h2
    · have : k = A.length := by omega
      subst this
      rw [scanAll_end A _ ts (Nat.le_refl _)]
      exact ⟨fun p h => (by cases h), fun r h => by cases h; rfl⟩

/-! ### Behind -/
def shT (o : Nat) (t : Tok) : Tok := { t with pos := t.pos + (o : Int) }
def shL (o : Nat) (ts : List Tok) : List Tok := ts.map (shT o)
theorem drop_pre (P B : List UInt8) (k : Nat) : (P ++ B).drop (P.length + k) = B.drop k := by
  rw [List.drop_append]; simp
theorem get_pre (P B : List UInt8) (k : Nat) : (P ++ B)[P.length + k]? = B[k]? := by
  rw [List.getElem?_append_right (by omega)]; simp
theorem re_pre2 (p : UInt8 → Bool) (P B : List UInt8) (k : Nat) : runEnd p (P ++ B) (P.length + k) = P.length + runEnd p B k := by
  unfold runEnd
  rw [drop_pre]; omega
theorem sub_pre (P B : List UInt8) (a b : Nat) : sub (P ++ B) (P.length + a) (P.length + b) = sub B a b := by
  unfold sub
  rw [drop_pre]
  congr 1; omega
/-- What a step answers, seen from a place further on. -/
def shR (o : Nat) (pre : List Tok) : Sum Nat (Nat × List Tok) → Sum Nat (Nat × List Tok)
  | .inl p => .inl (o + p)
  | .inr q => .inr (o + q.1, pre ++ shL o q.2)
/-- A line's end adds nothing. -/
def Still (pre : List Tok) : Prop := ∀ k, endT pre k = pre
theorem endT_still (ts : List Tok) (k : Int) : Still (endT ts k) := by
  intro k'
  unfold endT
  cases h : ts.getLast? with
  | none => simp [h]
  | some t =>
    by_cases he : tokEnds t.kind t.text = true
    · simp [he]
      decide
    · simp [h, he]
theorem endT_sh (o : Nat) (pre ts : List Tok) (hp : Still pre) (k : Nat) : endT (pre ++ shL o ts) ((o + k : Nat) : Int) = pre ++ shL o (endT ts k) := by
  rcases List.eq_nil_or_concat ts with rfl | ⟨r, t, rfl⟩
  · have e : shL o [] = [] := rfl
    have e2 : endT [] (k : Int) = [] := rfl
    rw [e, List.append_nil, hp, e2, e, List.append_nil]
  · rw [List.concat_eq_append]
    have e1 : shL o (r ++ [t]) = shL o r ++ [shT o t] := by simp [shL]
    have g1 : (pre ++ (shL o r ++ [shT o t])).getLast? = some (shT o t) := by simp
    have g2 : (r ++ [t]).getLast? = some t := by simp
    unfold endT
    rw [e1, g1, g2]
    simp only
    by_cases he : tokEnds t.kind t.text = true
    · have he' : tokEnds (shT o t).kind (shT o t).text = true := he
      rw [if_pos he, if_pos he']
      simp [shL, shT]
      omega
    · have he' : ¬ tokEnds (shT o t).kind (shT o t).text = true := he
      rw [if_neg he, if_neg he', e1]
theorem shL_snoc (o : Nat) (ts : List Tok) (t : Tok) : shL o (ts ++ [t]) = shL o ts ++ [shT o t] := by simp [shL]
theorem part_pre (P B : List UInt8) (k : Nat) (pre ts : List Tok) (hp : Still pre) (hk : k < B.length) : partF (P ++ B) (P.length + k) (pre ++ shL P.length ts) = shR P.length pre (partF B k ts) := by
  have hc : B[k]? = some B[k] := List.getElem?_eq_getElem hk
  have hc' : (P ++ B)[P.length + k]? = some B[k] := by rw [get_pre]; exact hc
  have hcm : cmt (P ++ B) (P.length + k) = cmt B k := by unfold cmt; rw [drop_pre]
  have tk : ∀ (kd nm : Int) (x : List UInt8), pre ++ shL P.length ts ++ [⟨kd, x, nm, ((P.length + k : Nat) : Int)⟩] = pre ++ shL P.length (ts ++ [⟨kd, x, nm, (k : Int)⟩]) := fun kd nm x => by
    rw [shL_snoc, List.append_assoc]
    congr 3
    simp [shT]; omega
  unfold partF
  rw [hc, hc']
  simp only
  rw [hcm]
  split
  · simp [shR]; omega
  · split
    · simp only [shR]
      rw [endT_sh P.length pre ts hp k]
      rfl
    · split
      · rw [re_pre2]; rfl
      · split
        · unfold nameF
          rw [re_pre2, sub_pre, tk]
          have e : P.length + runEnd isNam B k - (P.length + k) = runEnd isNam B k - k := by omega
          rw [e]
          split <;> rfl
        · split
          · unfold numF
            have hla : letAt (P ++ B) (P.length + runEnd isDig B k) = letAt B (runEnd isDig B k) := by unfold letAt; rw [get_pre]
            rw [re_pre2, sub_pre, tk, hla]
            split
            · rfl
            · split <;> rfl
          · split
            · unfold textF
              have e : (P ++ B).drop (P.length + k + 1) = B.drop (k + 1) := by rw [Nat.add_assoc, drop_pre]
              rw [e]
              rcases txt (B.drop (k + 1)) with ⟨o, n⟩
              cases o with
              | none => simp [shR]; omega
              | some m =>
                simp only
                split
                · rfl
                · simp only [shR]
                  rw [tk]
                  congr 2; omega
            · unfold markF
              rw [drop_pre]
              have e : P.length + k + mLen (B.drop k) = P.length + (k + mLen (B.drop k)) := by omega
              rw [e, sub_pre, tk]
              split <;> rfl
theorem scan_pre (P B : List UInt8) (pre : List Tok) (hp : Still pre) : ∀ (n k : Nat) (ts : List Tok), B.length - k ≤ n → k ≤ B.length →
    scanAll (P ++ B) (P.length + k) (pre ++ shL P.length ts) = match scanAll B k ts with | .inl p => .inl (P.length + p) | .inr r => .inr (pre ++ shL P.length r)
  | 0, k, ts, hn, hk => by
    rw [scanAll_end B k ts (by omega), scanAll_end _ _ _ (by rw [List.length_append]; omega)]
  | n + 1, k, ts, hn, hk => by
    rcases Nat.lt_or_ge k B.length with hlt | hge
    · have hl : P.length + k < (P ++ B).length := by rw [List.length_append]; omega
      have hpp := part_pre P B k pre ts hp hlt
      cases hq : partF B k ts with
      | inl p =>
        rw [hq] at hpp
        rw [scanAll_inl B k ts p hlt hq, scanAll_inl _ _ _ _ hl hpp]
      | inr q =>
        rw [hq] at hpp
        obtain ⟨h1, h2, _⟩ := partF_prog B k ts hlt q.1 q.2 hq
        rw [scanAll_inr B k ts q.1 q.2 hlt hq, scanAll_inr _ _ _ _ _ hl hpp]
        exact scan_pre P B pre hp n q.1 q.2 (by omega) h2
    · rw [scanAll_end B k ts (by omega), scanAll_end _ _ _ (by rw [List.length_append]; omega)]

/-! ### The whole -/
theorem join_bad (A B : List UInt8) (p : Nat) (h : scanAll A 0 [] = .inl p) : scanAll (A ++ 10 :: B) 0 [] = .inl p :=
  (scan_join A B _ 0 [] (Nat.le_refl _) (Nat.zero_le _)).1 p h
theorem join_ok (A B : List UInt8) (ta tb : List Tok) (ha : scanAll A 0 [] = .inr ta) (hb : scanAll B 0 [] = .inr tb) : scanAll (A ++ 10 :: B) 0 [] = .inr (endT ta A.length ++ shL (A.length + 1) tb) := by
  have h1 := (scan_join A B _ 0 [] (Nat.le_refl _) (Nat.zero_le _)).2 ta ha
  have hl : A.length < (A ++ 10 :: B).length := by rw [List.length_append]; simp
  have hp : partF (A ++ 10 :: B) A.length ta = .inr (A.length + 1, endT ta A.length) := by
    unfold partF
    rw [List.getElem?_append_right (Nat.le_refl _)]
    simp
  have e : A ++ 10 :: B = (A ++ [10]) ++ B := by simp
  have hlen : (A ++ [10]).length = A.length + 1 := by simp
  have h2 := scan_pre (A ++ [10]) B (endT ta A.length) (endT_still _ _) _ 0 [] (Nat.le_refl _) (Nat.zero_le _)
  rw [hb, hlen, ← e] at h2
  rw [h1, scanAll_inr _ _ _ _ _ hl hp]
  simpa [shL] using h2
theorem join_all (A B : List UInt8) (ta tb : List Tok) : allP (endT ta A.length ++ shL (A.length + 1) tb) (A ++ 10 :: B).length = endT ta A.length ++ shL (A.length + 1) (allP tb B.length) := by
  have hlen : (A ++ 10 :: B).length = A.length + 1 + B.length := by rw [List.length_append]; simp; omega
  unfold allP
  rw [hlen, endT_sh (A.length + 1) _ tb (endT_still _ _) B.length, shL_snoc, List.append_assoc]
  congr 3
  simp [shT]; omega
theorem lex_join_bad (A B : List UInt8) (hl : A.length + B.length ≤ 8000) (p : Int) (h : lexR A = ([], 2, p)) : lexR (A ++ 10 :: B) = ([], 2, p) := by
  cases hs : scanAll A 0 [] with
  | inl q =>
    rw [lexR_bad A (by omega) q hs] at h
    rw [lexR_bad _ (by rw [List.length_append, List.length_cons]; omega) q (join_bad A B q hs)]
    exact h
  | inr ta =>
    cases hd : deepF 0 (allP ta A.length) with
    | some a => rw [lexR_deep A (by omega) ta hs a hd] at h; simp at h
    | none => rw [lexR_ok A (by omega) ta hs hd] at h; simp at h
theorem lex_zero (A : List UInt8) (hl : A.length ≤ 8192) (tk : List Tok) (p : Int) (h : lexR A = (tk, 0, p)) : ∃ ta, scanAll A 0 [] = .inr ta ∧ tk = allP ta A.length ∧ p = 0 := by
  cases hs : scanAll A 0 [] with
  | inl q => rw [lexR_bad A hl q hs] at h; simp at h
  | inr ta =>
    cases hd : deepF 0 (allP ta A.length) with
    | some a => rw [lexR_deep A hl ta hs a hd] at h; simp at h
    | none =>
      rw [lexR_ok A hl ta hs hd] at h
      simp at h
      exact ⟨ta, rfl, h.1.symm, h.2.symm⟩
/-- Two sources without a fault: the tokens of the one but its End, then those of the other, further on; or too deep. -/
theorem lex_join_ok (A B : List UInt8) (hl : A.length + B.length ≤ 8000) (ka kb : List Tok) (pa pb : Int) (ha : lexR A = (ka, 0, pa)) (hb : lexR B = (kb, 0, pb)) :
    (∃ p, lexR (A ++ 10 :: B) = ([], 3, p)) ∨ ∃ pre e, ka = pre ++ [e] ∧ lexR (A ++ 10 :: B) = (pre ++ shL (A.length + 1) kb, 0, 0) := by
  obtain ⟨ta, sa, rfl, _⟩ := lex_zero A (by omega) ka pa ha
  obtain ⟨tb, sb, rfl, _⟩ := lex_zero B (by omega) kb pb hb
  have hs := join_ok A B ta tb sa sb
  have hlen : (A ++ 10 :: B).length ≤ 8192 := by rw [List.length_append, List.length_cons]; omega
  cases hd : deepF 0 (allP (endT ta A.length ++ shL (A.length + 1) tb) (A ++ 10 :: B).length) with
  | some a => exact .inl ⟨a, lexR_deep _ hlen _ hs a hd⟩
  | none =>
    refine .inr ⟨endT ta A.length, ⟨6, [], 0, (A.length : Int)⟩, rfl, ?_⟩
    rw [lexR_ok _ hlen _ hs hd, join_all]
theorem lex_stage (A : List UInt8) (hl : A.length ≤ 8192) : (lexR A).2.1 = 0 ∨ (lexR A).2.1 = 2 ∧ (lexR A).1 = [] ∨ (lexR A).2.1 = 3 ∧ (lexR A).1 = [] := by
  cases hs : scanAll A 0 [] with
  | inl q => rw [lexR_bad A hl q hs]; exact .inr (.inl ⟨rfl, rfl⟩)
  | inr ta =>
    cases hd : deepF 0 (allP ta A.length) with
    | some a => rw [lexR_deep A hl ta hs a hd]; exact .inr (.inr ⟨rfl, rfl⟩)
    | none => rw [lexR_ok A hl ta hs hd]; exact .inl rfl
end Go.Proofs.YteoongjimggbgaaDoor.Lx
