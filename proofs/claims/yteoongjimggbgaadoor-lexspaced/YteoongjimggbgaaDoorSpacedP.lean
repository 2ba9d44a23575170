/- Blanks and a comment more at a line's end change no token but its place. -/
import Derived.Test.YteoongjimggbgaaDoorJoinP
namespace Go.Proofs.YteoongjimggbgaaDoor.Lx

/-! ### A blank and more behind a line -/
theorem tw_bl (p : UInt8 → Bool) (h : p 32 = false) (X : List UInt8) : ∀ t : List UInt8, (t ++ 32 :: X).takeWhile p = t.takeWhile p
  | [] => by simp [h]
  | c :: r => by
    by_cases hc : p c = true
    · simp [hc, tw_bl p h X r]
    · simp [hc]
theorem re_bl (p : UInt8 → Bool) (h : p 32 = false) (A X : List UInt8) (k : Nat) (hk : k ≤ A.length) : runEnd p (A ++ 32 :: X) k = runEnd p A k := by
  unfold runEnd
  rw [List.drop_append_of_le_length hk, tw_bl p h X]
theorem sub_bl (A X : List UInt8) (a b : Nat) (ha : a ≤ A.length) (hb : b ≤ A.length) : sub (A ++ X) a b = sub A a b := by
  unfold sub
  rw [List.drop_append_of_le_length ha, List.take_append_of_le_length (by rw [List.length_drop]; omega)]
theorem txt_more (X : List UInt8) : ∀ (n : Nat) (t m : List UInt8) (j : Nat), t.length ≤ n → txt t = (some m, j) → txt (t ++ X) = (some m, j)
  | 0, t, m, j, h, ht => by
    have : t = [] := List.eq_nil_of_length_eq_zero (by omega)
    subst this
    rw [txt] at ht; simp at ht
  | n + 1, t, m, j, h, ht => by
    cases t with
    | nil => rw [txt] at ht; simp at ht
    | cons c r =>
      rw [List.cons_append]
      by_cases h1 : c = 34
      · subst h1; rw [txt_quote] at ht ⊢; exact ht
      · by_cases h2 : c = 92
        · subst h2
          cases r with
          | nil => rw [txt_bad [] (fun d r' hr => by cases hr)] at ht; simp at ht
          | cons d r' =>
            rw [List.cons_append]
            cases he : escC d with
            | none => rw [txt_bad (d :: r') (fun d' q hr => by cases hr; exact he)] at ht; simp at ht
            | some x =>
              rw [txt_esc d x _ he] at ht ⊢
              rcases hq : txt r' with ⟨o, j'⟩
              rw [hq] at ht
              cases o with
              | none => simp at ht
              | some m' => rw [txt_more X n r' m' j' (by simp at h; omega) hq]; exact ht
        · cases hp : isPln c with
          | true =>
            rw [txt_plain c _ hp] at ht ⊢
            rcases hq : txt r with ⟨o, j'⟩
            rw [hq] at ht
            cases o with
            | none => simp at ht
            | some m' => rw [txt_more X n r m' j' (by simp at h; omega) hq]; exact ht
          | false => rw [txt_stop c _ hp h1 h2] at ht; simp at ht
theorem pr_bl (c : UInt8) : isPr [c, 32] = false := by simp [isPr, pairList]
theorem mlen_bl (t X : List UInt8) (h : t ≠ []) : mLen (t ++ 32 :: X) = mLen t := by
  match t, h with
  | [c], _ =>
    show mLen (c :: 32 :: X) = mLen [c]
    unfold mLen
    simp [pr_bl, pr_one]
  | c :: d :: r, _ => rfl
theorem drop_ne (A : List UInt8) (k : Nat) (hk : k < A.length) : A.drop k ≠ [] := by
  intro e
  have := congrArg List.length e
  rw [List.length_drop] at this
  simp at this
  omega
theorem cmt_bl (A X : List UInt8) (k : Nat) (hk : k < A.length) : cmt (A ++ 32 :: X) k = cmt A k := by
  unfold cmt
  rw [List.drop_append_of_le_length (by omega)]
  match h : A.drop k, drop_ne A k hk with
  | [c], _ => simp
  | c :: d :: r, _ => simp
theorem letAt_bl (A X : List UInt8) (k : Nat) (hk : k ≤ A.length) : letAt (A ++ 32 :: X) k = letAt A k := by
  unfold letAt
  rcases Nat.lt_or_ge k A.length with h | h
  · rw [List.getElem?_append_left h]
  · have : k = A.length := by omega
    subst this
    rw [List.getElem?_append_right (Nat.le_refl _), List.getElem?_eq_none (Nat.le_refl _)]
    simp
    decide
theorem re_no (l : List UInt8) (h : ∀ c ∈ l, c ≠ 10) (k : Nat) (hk : k ≤ l.length) : runEnd notNl l k = l.length := by
  unfold runEnd
  rw [tw_self notNl (l.drop k) (fun c hc => by
    have : ¬ (c.toNat : Int) = 10 := fun e => h c (List.mem_of_mem_drop hc) (UInt8.toNat_inj.1 (by simpa using Int.ofNat.inj e))
    simp only [notNl, decide_eq_false this, Bool.not_false]), List.length_drop]
  omega
theorem part_bl (A X : List UInt8) (hA : ∀ c ∈ A, c ≠ 10) (hX : ∀ c ∈ X, c ≠ 10) (k : Nat) (ts : List Tok) (hk : k < A.length) (q : Nat × List Tok) (h : partF A k ts = .inr q) :
    partF (A ++ 32 :: X) k ts = .inr q ∨ (q = (A.length, ts) ∧ partF (A ++ 32 :: X) k ts = .inr ((A ++ 32 :: X).length, ts)) := by
  have hc : A[k]? = some A[k] := List.getElem?_eq_getElem hk
  have hc' : (A ++ 32 :: X)[k]? = some A[k] := by rw [List.getElem?_append_left hk]; exact hc
  generalize A[k] = c at hc hc'
  have hall : ∀ d ∈ A ++ 32 :: X, d ≠ 10 := fun d hd => by
    rcases List.mem_append.1 hd with hd | hd
    · exact hA d hd
    · rcases List.mem_cons.1 hd with rfl | hd
      · decide
      · exact hX d hd
  unfold partF at h ⊢
  rw [hc] at h
  rw [hc']
  simp only at h ⊢
  rw [cmt_bl A X k hk]
  split at h
  · rename_i h1; rw [if_pos h1]; exact .inl h
  · rename_i h1
    rw [if_neg h1]
    split at h
    · rename_i h2; rw [if_pos h2]; exact .inl h
    · rename_i h2
      rw [if_neg h2]
      split at h
      · rename_i h3
        rw [if_pos h3]
        cases h
        rw [re_no A hA k (by omega), re_no _ hall k (by rw [List.length_append]; omega)]
        exact .inr ⟨rfl, rfl⟩
      · rename_i h3
        rw [if_neg h3]
        left
        split at h
        · rename_i h4
          rw [if_pos h4]
          unfold nameF at h ⊢
          rw [re_bl isNam (by decide) A X k (by omega), sub_bl A (32 :: X) k _ (by omega) (re_le _ A k (by omega))]
          exact h
        · rename_i h4
          rw [if_neg h4]
          split at h
          · rename_i h5
            rw [if_pos h5]
            unfold numF at h ⊢
            rw [re_bl isDig (by decide) A X k (by omega), sub_bl A (32 :: X) k _ (by omega) (re_le _ A k (by omega)), letAt_bl A X _ (re_le _ A k (by omega))]
            exact h
          · rename_i h5
            rw [if_neg h5]
            split at h
            · rename_i h6
              rw [if_pos h6]
              unfold textF at h ⊢
              rw [List.drop_append_of_le_length (by omega)]
              rcases hx : txt (A.drop (k + 1)) with ⟨o, n⟩
              rw [hx] at h
              cases o with
              | none => simp at h
              | some m => rw [txt_more (32 :: X) _ _ m n (Nat.le_refl _) hx]; exact h
            · rename_i h6
              rw [if_neg h6]
              have hle := mlen_le2 (A.drop k)
              rw [List.length_drop] at hle
              unfold markF at h ⊢
              rw [List.drop_append_of_le_length (by omega), mlen_bl _ X (drop_ne A k hk), sub_bl A (32 :: X) k _ (by omega) (by omega)]
              exact h
theorem tail_bl (A Y : List UInt8) (hY : ∀ c ∈ Y, c ≠ 10) (hA : ∀ c ∈ A, c ≠ 10) (ts : List Tok) : scanAll (A ++ 32 :: 47 :: 47 :: Y) A.length ts = .inr ts := by
  have hl : (A ++ 32 :: 47 :: 47 :: Y).length = A.length + 3 + Y.length := by rw [List.length_append]; simp; omega
  have g0 : (A ++ 32 :: 47 :: 47 :: Y)[A.length]? = some 32 := by rw [List.getElem?_append_right (Nat.le_refl _)]; simp
  have g1 : (A ++ 32 :: 47 :: 47 :: Y)[A.length + 1]? = some 47 := by rw [List.getElem?_append_right (by omega)]; simp
  have hall : ∀ d ∈ A ++ 32 :: 47 :: 47 :: Y, d ≠ 10 := fun d hd => by
    rcases List.mem_append.1 hd with hd | hd
    · exact hA d hd
    · simp at hd
      rcases hd with rfl | rfl | hd
      · decide
      · decide
      · exact hY d hd
  have p0 : partF (A ++ 32 :: 47 :: 47 :: Y) A.length ts = .inr (A.length + 1, ts) := by
    unfold partF; rw [g0]; simp
  have hcm : cmt (A ++ 32 :: 47 :: 47 :: Y) (A.length + 1) = true := by
    unfold cmt
    rw [drop_pre A _ 1]
    rfl
  have p1 : partF (A ++ 32 :: 47 :: 47 :: Y) (A.length + 1) ts = .inr ((A ++ 32 :: 47 :: 47 :: Y).length, ts) := by
    unfold partF
    rw [g1]
    simp only
    rw [if_neg (by decide), if_neg (by decide), if_pos hcm, re_no _ hall _ (by omega)]
  rw [scanAll_inr _ _ _ _ _ (by omega) p0, scanAll_inr _ _ _ _ _ (by omega) p1, scanAll_end _ _ _ (Nat.le_refl _)]
theorem scan_bl (A Y : List UInt8) (hA : ∀ c ∈ A, c ≠ 10) (hY : ∀ c ∈ Y, c ≠ 10) : ∀ (n k : Nat) (ts r : List Tok), A.length - k ≤ n → k ≤ A.length → scanAll A k ts = .inr r → scanAll (A ++ 32 :: 47 :: 47 :: Y) k ts = .inr r
  | 0, k, ts, r, hn, hk, hs => by
    have : k = A.length := by omega
    subst this
    rw [scanAll_end A _ ts (Nat.le_refl _)] at hs
    cases hs
    exact tail_bl A Y hY hA ts
  | n + 1, k, ts, r, hn, hk, hs => by
    rcases Nat.lt_or_ge k A.length with hlt | hge
    · have hl : k < (A ++ 32 :: 47 :: 47 :: Y).length := by rw [List.length_append]; omega
      cases hq : partF A k ts with
      | inl p => rw [scanAll_inl A k ts p hlt hq] at hs; cases hs
      | inr q =>
        obtain ⟨h1, h2, _⟩ := partF_prog A k ts hlt q.1 q.2 hq
        rw [scanAll_inr A k ts q.1 q.2 hlt hq] at hs
        rcases part_bl A (47 :: 47 :: Y) hA (fun c hc => by
          rcases List.mem_cons.1 hc with rfl | hc
          · decide
          · rcases List.mem_cons.1 hc with rfl | hc
            · decide
            · exact hY c hc) k ts hlt q hq with hp | ⟨rfl, hp⟩
        · rw [scanAll_inr _ k ts q.1 q.2 hl hp]
          exact scan_bl A Y hA hY n q.1 q.2 r (by omega) h2 hs
        · rw [scanAll_inr _ k ts _ _ hl hp, scanAll_end _ _ _ (Nat.le_refl _)]
          rw [scanAll_end A _ _ (Nat.le_refl _)] at hs
          exact hs
    · have : k = A.length := by omega
      subst this
      rw [scanAll_end A _ ts (Nat.le_refl _)] at hs
      cases hs
      exact tail_bl A Y hY hA ts

/-! ### Tokens but their places -/
def er (t : Tok) : Int × List UInt8 × Int := (t.kind, t.text, t.num)
theorem er_shL (o : Nat) (ts : List Tok) : (shL o ts).map er = ts.map er := by
  simp [shL, Function.comp_def, shT, er]
theorem er_endT (a b : List Tok) (j k : Int) (h : a.map er = b.map er) : (endT a j).map er = (endT b k).map er := by
  rcases List.eq_nil_or_concat a with rfl | ⟨ra, ta, rfl⟩
  · have : b = [] := by simpa using h.symm
    subst this; rfl
  · rcases List.eq_nil_or_concat b with rfl | ⟨rb, tb, rfl⟩
    · simp at h
    · rw [List.concat_eq_append] at *
      rw [List.concat_eq_append] at *
      rw [List.map_append, List.map_append] at h
      obtain ⟨h1, h2⟩ := List.append_inj' h (by simp)
      have h3 : er ta = er tb := by simpa using h2
      have hk : ta.kind = tb.kind := congrArg Prod.fst h3
      have ht : ta.text = tb.text := congrArg (fun x => x.2.1) h3
      unfold endT
      simp only [List.getLast?_append, List.getLast?_singleton, Option.some_or]
      rw [hk, ht]
      split
      · have hn : ta.num = tb.num := congrArg (fun x => x.2.2) h3
        simp [List.map_append, h1, er]
        exact ⟨hk, ht, hn⟩
      · simp [List.map_append, h1, h3]
theorem deep_er : ∀ (a b : List Tok) (o : Int), a.map er = b.map er → (deepF o a).isSome = (deepF o b).isSome
  | [], b, o, h => by
    have : b = [] := by simpa using h.symm
    subst this; rfl
  | t :: r, [], o, h => by simp at h
  | t :: r, u :: q, o, h => by
    rw [List.map_cons, List.map_cons] at h
    obtain ⟨h1, h2⟩ := List.cons.inj h
    have hk : t.kind = u.kind := congrArg Prod.fst h1
    have ht : t.text = u.text := congrArg (fun x => x.2.1) h1
    have ho : openAft o t = openAft o u := by unfold openAft; rw [hk, ht]
    rw [deepF, deepF, ho, hk]
    split
    · rfl
    · exact deep_er r q _ h2

/-! ### Lines -/
def srcA : List (List UInt8) → List UInt8
  | [] => []
  | s :: r => s ++ 10 :: srcA r
def lineB (s : List UInt8) : List UInt8 := [32, 9] ++ (s ++ 32 :: 47 :: 47 :: [32, 97, 32, 40])
def srcB : List (List UInt8) → List UInt8
  | [] => []
  | s :: r => lineB s ++ 10 :: ([] ++ 10 :: srcB r)
theorem line_ok (s : List UInt8) (hs : ∀ c ∈ s, c ≠ 10) (r : List Tok) (h : scanAll s 0 [] = .inr r) : ∃ r', scanAll (lineB s) 0 [] = .inr r' ∧ r'.map er = r.map er := by
  have h1 := scan_bl s [32, 97, 32, 40] hs (by decide) _ 0 [] r (Nat.le_refl _) (Nat.zero_le _) h
  have h2 := scan_pre [32, 9] (s ++ 32 :: 47 :: 47 :: [32, 97, 32, 40]) [] (fun k => rfl) _ 0 [] (Nat.le_refl _) (Nat.zero_le _)
  rw [h1] at h2
  have hl : 2 < (lineB s).length := by simp [lineB]
  have p0 : partF (lineB s) 0 [] = .inr (1, []) := rfl
  have p1 : partF (lineB s) 1 [] = .inr (2, []) := rfl
  refine ⟨shL 2 r, ?_, er_shL 2 r⟩
  rw [scanAll_inr _ 0 [] _ _ (by omega) p0, scanAll_inr _ 1 [] _ _ (by omega) p1]
  exact h2
theorem join_bad2 (A B : List UInt8) (ta : List Tok) (p : Nat) (ha : scanAll A 0 [] = .inr ta) (hb : scanAll B 0 [] = .inl p) : scanAll (A ++ 10 :: B) 0 [] = .inl (A.length + 1 + p) := by
  have h1 := (scan_join A B _ 0 [] (Nat.le_refl _) (Nat.zero_le _)).2 ta ha
  have hl : A.length < (A ++ 10 :: B).length := by rw [List.length_append]; simp
  have hp : partF (A ++ 10 :: B) A.length ta = .inr (A.length + 1, endT ta A.length) := by
    unfold partF
    rw [List.getElem?_append_right (Nat.le_refl _)]
    simp
  have e : A ++ 10 :: B = (A ++ [10]) ++ B := by simp
  have hlen : (A ++ [10]).length = A.length + 1 := by simp
  have h2 := scan_pre (A ++ [10]) B (endT ta A.length) (endT_still _ _) _ 0 [] (Nat.le_refl _) (Nat.zero_le _)
  rw [hb, hlen, ← e] at h2
  rw [h1, scanAll_inr _ _ _ _ _ hl hp]
  simpa [shL] using h2
theorem lines_ok : ∀ (ls : List (List UInt8)), (∀ s ∈ ls, ∀ c ∈ s, c ≠ 10) → (∃ p, scanAll (srcA ls) 0 [] = .inl p) ∨ ∃ ta tb, scanAll (srcA ls) 0 [] = .inr ta ∧ scanAll (srcB ls) 0 [] = .inr tb ∧ ta.map er = tb.map er
  | [], _ => .inr ⟨[], [], scanAll_end _ _ _ (Nat.le_refl _), scanAll_end _ _ _ (Nat.le_refl _), rfl⟩
  | s :: r, h => by
    have hs := h s (by simp)
    cases hq : scanAll s 0 [] with
    | inl p => exact .inl ⟨p, join_bad s (srcA r) p hq⟩
    | inr x =>
      rcases lines_ok r (fun u hu => h u (by simp [hu])) with ⟨p, hp⟩ | ⟨ta, tb, ha, hb, he⟩
      · exact .inl ⟨_, join_bad2 s (srcA r) x p hq hp⟩
      · obtain ⟨x', hx', hxe⟩ := line_ok s hs x hq
        have hA := join_ok s (srcA r) x ta hq ha
        have hB1 := join_ok [] (srcB r) [] tb (scanAll_end _ _ _ (Nat.le_refl _)) hb
        have hB := join_ok (lineB s) ([] ++ 10 :: srcB r) x' _ hx' hB1
        refine .inr ⟨_, _, hA, hB, ?_⟩
        have e0 : endT ([] : List Tok) (([] : List UInt8).length : Int) = [] := rfl
        rw [e0, List.nil_append, List.map_append, List.map_append, er_shL, er_shL, er_shL, he, er_endT x' x _ (s.length : Int) hxe]
theorem lex_spaced (ls : List (List UInt8)) (h : ∀ s ∈ ls, ∀ c ∈ s, c ≠ 10) (hA : (srcA ls).length ≤ 8192) (hB : (srcB ls).length ≤ 8192) :
    (∃ p, lexR (srcA ls) = ([], 2, p)) ∨ (∃ p q, lexR (srcA ls) = ([], 3, p) ∧ lexR (srcB ls) = ([], 3, q)) ∨ ∃ ka kb, lexR (srcA ls) = (ka, 0, 0) ∧ lexR (srcB ls) = (kb, 0, 0) ∧ ka.map er = kb.map er := by
  rcases lines_ok ls h with ⟨p, hp⟩ | ⟨ta, tb, ha, hb, he⟩
  · exact .inl ⟨p, lexR_bad _ hA p hp⟩
  · have hall : (allP ta (srcA ls).length).map er = (allP tb (srcB ls).length).map er := by
      unfold allP
      rw [List.map_append, List.map_append, er_endT ta tb _ ((srcB ls).length : Int) he]
      rfl
    have hd := deep_er _ _ 0 hall
    cases h1 : deepF 0 (allP ta (srcA ls).length) with
    | some a =>
      rw [h1] at hd
      cases h2 : deepF 0 (allP tb (srcB ls).length) with
      | some b => exact .inr (.inl ⟨a, b, lexR_deep _ hA ta ha a h1, lexR_deep _ hB tb hb b h2⟩)
      | none => rw [h2] at hd; simp at hd
    | none =>
      rw [h1] at hd
      cases h2 : deepF 0 (allP tb (srcB ls).length) with
      | some b => rw [h2] at hd; simp at hd
      | none => exact .inr (.inr ⟨_, _, lexR_ok _ hA ta ha h1, lexR_ok _ hB tb hb h2, hall⟩)
end Go.Proofs.YteoongjimggbgaaDoor.Lx
