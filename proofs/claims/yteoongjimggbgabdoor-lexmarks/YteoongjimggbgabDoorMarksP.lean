/- What the scanner answers to marks without a blank between. -/
import Derived.Test.YteoongjimggbgabDoorNestsP
namespace Go.Proofs.YteoongjimggbgabDoor.Lx

/-- A byte of a mark, the bar aside. -/
def mkBytes : List UInt8 := [33, 37, 38, 42, 43, 44, 45, 46, 58, 59, 60, 61, 62]
def isMk (c : UInt8) : Bool := mkBytes.contains c
/-- Marks joined: bars come two by two. -/
def good : List UInt8 → Bool
  | [] => true
  | [c] => isMk c
  | c :: d :: r => if c = 124 then decide (d = 124) && good r else isMk c && good (d :: r)
theorem good_app : ∀ (n : Nat) (a b : List UInt8), a.length ≤ n → good a = true → good b = true → good (a ++ b) = true
  | _, [], b, _, _, hb => hb
  | _, [c], b, _, ha, hb => by
    have ha' : isMk c = true := ha
    have h124 : c ≠ 124 := by intro e; subst e; revert ha'; decide
    cases b with
    | nil => exact ha
    | cons d r => show good (c :: d :: r) = true; rw [good, if_neg h124, ha', hb]; rfl
  | 0, c :: d :: r, b, hn, _, _ => by simp at hn
  | n + 1, c :: d :: r, b, hn, ha, hb => by
    show good (c :: d :: (r ++ b)) = true
    rw [good] at ha ⊢
    by_cases h : c = 124
    · rw [if_pos h] at ha ⊢
      rw [Bool.and_eq_true] at ha ⊢
      exact ⟨ha.1, good_app n r b (by simp at hn; omega) ha.2 hb⟩
    · rw [if_neg h] at ha ⊢
      rw [Bool.and_eq_true] at ha ⊢
      exact ⟨ha.1, good_app n (d :: r) b (by simp at hn ⊢; omega) ha.2 hb⟩
/-- How long the mark is that stands ahead. -/
def gLen (t : List UInt8) : Nat := if isPr (t.take 2) = true then 2 else 1
theorem mk_facts : ∀ c : UInt8, (isMk c = true ∨ c = 124) → c ≠ 32 ∧ c ≠ 9 ∧ c ≠ 10 ∧ c ≠ 47 ∧ c ≠ 34 ∧ isLet c = false ∧ isDig c = false ∧ c ≠ 40 ∧ c ≠ 41 ∧ c ≠ 91 ∧ c ≠ 93 ∧ c ≠ 123 ∧ c ≠ 125 ∧ (mTab c.toNat = 1 ∨ mTab c.toNat = 2) := by
  intro c h
  have hc : c = 33 ∨ c = 37 ∨ c = 38 ∨ c = 42 ∨ c = 43 ∨ c = 44 ∨ c = 45 ∨ c = 46 ∨ c = 58 ∨ c = 59 ∨ c = 60 ∨ c = 61 ∨ c = 62 ∨ c = 124 := by
    rcases h with h | h
    · simp [isMk, mkBytes] at h
      rcases h with h | h | h | h | h | h | h | h | h | h | h | h | h <;> simp [h]
    · simp [h]
  rcases hc with rfl | rfl | rfl | rfl | rfl | rfl | rfl | rfl | rfl | rfl | rfl | rfl | rfl | rfl <;> exact ⟨by decide, by decide, by decide, by decide, by decide, by decide, by decide, by decide, by decide, by decide, by decide, by decide, by decide, by decide⟩
theorem pr_single (c : UInt8) : isPr [c] = false := by simp [isPr, pairList]
theorem good_head (c : UInt8) (r : List UInt8) (h : good (c :: r) = true) : isMk c = true ∨ c = 124 := by
  cases r with
  | nil => exact .inl h
  | cons d r =>
    rw [good] at h
    by_cases hc : c = 124
    · exact .inr hc
    · rw [if_neg hc, Bool.and_eq_true] at h; exact .inl h.1
theorem pr_tab (c d : UInt8) (h : isPr [c, d] = true) : mTab c.toNat = 2 ∧ (c = 124 ↔ d = 124) := by
  simp [isPr, pairList] at h
  rcases h with h | h | h | h | h | h | h | h | h | h | h | h | h <;> obtain ⟨rfl, rfl⟩ := h <;> exact ⟨by decide, by decide⟩
theorem mLen_good (c : UInt8) (r : List UInt8) (h : good (c :: r) = true) : mLen (c :: r) = gLen (c :: r) := by
  have hf := (mk_facts c (good_head c r h)).2.2.2.2.2.2.2.2.2.2.2.2.2
  unfold mLen gLen
  by_cases hp : isPr ((c :: r).take 2) = true
  · rw [if_pos hp]
    cases r with
    | nil => have := pr_single c; simp at hp; rw [this] at hp; cases hp
    | cons d r =>
      have := (pr_tab c d hp).1
      simp only [if_pos this, hp]
      rfl
  · rw [if_neg hp]
    have h124 : c ≠ 124 := by
      intro e
      subst e
      cases r with
      | nil => revert h; decide
      | cons d r =>
        rw [good, if_pos rfl, Bool.and_eq_true] at h
        have : d = 124 := by simpa using h.1
        subst this
        exact hp (show isPr [124, 124] = true by decide)
    rcases hf with hf | hf
    · simp [hf]
    · have hp' : isPr ((c :: r).take 2) = false := by simpa using hp
      simp only [hf, hp', h124]; rfl
theorem good_drop (c : UInt8) (r : List UInt8) (h : good (c :: r) = true) : good ((c :: r).drop (gLen (c :: r))) = true := by
  unfold gLen
  cases r with
  | nil =>
    have := pr_single c
    rw [if_neg (by simp [this])]; rfl
  | cons d r =>
    have hg := h
    rw [good] at h
    by_cases hp : isPr ((c :: d :: r).take 2) = true
    · rw [if_pos hp]
      show good r = true
      have hp2 := (pr_tab c d hp).2
      by_cases hc : c = 124
      · rw [if_pos hc, Bool.and_eq_true] at h; exact h.2
      · rw [if_neg hc, Bool.and_eq_true] at h
        have hd : d ≠ 124 := fun e => hc (hp2.2 e)
        cases r with
        | nil => rfl
        | cons e r =>
          have h2 := h.2
          rw [good, if_neg hd, Bool.and_eq_true] at h2; exact h2.2
    · rw [if_neg hp]
      show good (d :: r) = true
      by_cases hc : c = 124
      · rw [if_pos hc, Bool.and_eq_true] at h
        have : d = 124 := by simpa using h.1
        subst this; subst hc
        exact absurd (by rfl) hp
      · rw [if_neg hc, Bool.and_eq_true] at h; exact h.2
theorem gLen_le (c : UInt8) (r : List UInt8) : gLen (c :: r) ≤ (c :: r).length := by
  unfold gLen
  cases r with
  | nil => have := pr_single c; rw [if_neg (by simp [this])]; simp
  | cons d r => split <;> simp
theorem gLen_pos (t : List UInt8) : 0 < gLen t := by unfold gLen; split <;> omega
/-- The marks from a place on. -/
def mkToks : Nat → Nat → List UInt8 → List Tok
  | 0, _, _ => []
  | _ + 1, _, [] => []
  | n + 1, k, c :: r => ⟨5, (c :: r).take (gLen (c :: r)), 0, (k : Int)⟩ :: mkToks n (k + gLen (c :: r)) ((c :: r).drop (gLen (c :: r)))
theorem part_mk (l : List UInt8) (k : Nat) (ts : List Tok) (c : UInt8) (r : List UInt8) (hc : l.drop k = c :: r) (h : good (c :: r) = true) : partF l k ts = .inr (k + gLen (c :: r), ts ++ [⟨5, (c :: r).take (gLen (c :: r)), 0, (k : Int)⟩]) := by
  obtain ⟨n1, n2, n3, n4, n5, n6, n7, _⟩ := mk_facts c (good_head c r h)
  have hk : l[k]? = some c := by
    have : (l.drop k)[0]? = some c := by rw [hc]; rfl
    rw [List.getElem?_drop] at this
    simpa using this
  have hm := mLen_good c r h
  unfold partF
  rw [hk]
  simp only
  rw [if_neg (by intro e; rcases e with e | e; exact n1 e; exact n2 e), if_neg n3, if_neg (by rw [cmt_head _ k c hk n4]; simp), if_neg (by simp [n6]), if_neg (by simp [n7]), if_neg n5]
  unfold markF
  have hp := gLen_pos (c :: r)
  rw [hc, hm, if_neg (by omega)]
  unfold sub
  rw [hc, Nat.add_sub_cancel_left]
theorem scan_mk (l : List UInt8) : ∀ (n k : Nat) (ts : List Tok), l.length - k ≤ n → good (l.drop k) = true → scanAll l k ts = .inr (ts ++ mkToks n k (l.drop k))
  | 0, k, ts, hn, _ => by
    rw [scanAll_end l k ts (by omega)]
    simp [mkToks]
  | n + 1, k, ts, hn, hg => by
    cases hd : l.drop k with
    | nil =>
      have : l.length ≤ k := by simpa using hd
      rw [scanAll_end l k ts this]; simp [mkToks]
    | cons c r =>
      rw [hd] at hg
      have hk : k < l.length := by
        have := congrArg List.length hd
        rw [List.length_drop] at this
        simp at this; omega
      have hp := gLen_pos (c :: r)
      rw [scanAll_inr l k ts _ _ hk (part_mk l k ts c r hd hg)]
      have e : l.drop (k + gLen (c :: r)) = (c :: r).drop (gLen (c :: r)) := by rw [← hd, List.drop_drop]
      rw [scan_mk l n _ _ (by omega) (by rw [e]; exact good_drop c r hg), e, mkToks]
      simp
theorem open_mk (o : Int) (k : Int) (m : Nat) (c : UInt8) (r : List UInt8) (h : isMk c = true ∨ c = 124) : openAft o ⟨5, (c :: r).take (m + 1), 0, k⟩ = o := by
  obtain ⟨_, _, _, _, _, _, _, a, b, d, e, f, g, _⟩ := mk_facts c h
  simp [openAft, opens, closes, a, b, d, e, f, g]
theorem deep_mk : ∀ (n k : Nat) (t : List UInt8) (rest : List Tok), good t = true → deepF 0 (mkToks n k t ++ rest) = deepF 0 rest
  | 0, k, t, rest, _ => rfl
  | n + 1, k, [], rest, _ => rfl
  | n + 1, k, c :: r, rest, h => by
    obtain ⟨m, hm⟩ : ∃ m, gLen (c :: r) = m + 1 := ⟨gLen (c :: r) - 1, by have := gLen_pos (c :: r); omega⟩
    rw [mkToks, List.cons_append, deepF]
    have ho := open_mk 0 (k : Int) m c r (good_head c r h)
    rw [← hm] at ho
    rw [ho, if_neg (by intro e; omega)]
    exact deep_mk n _ _ rest (good_drop c r h)
theorem lex_marks (l : List UInt8) (hl : l.length ≤ 8192) (h : good l = true) : ∃ tl, lexR l = (mkToks l.length 0 l ++ tl, 0, 0) ∧ (∀ t ∈ tl, t.kind = 6 ∨ t.num = 1) ∧ tl.length ≤ 2 := by
  have hs := scan_mk l l.length 0 [] (by omega) h
  rw [List.nil_append] at hs
  have h0 : l.drop 0 = l := rfl
  rw [h0] at hs
  obtain ⟨e, he, hee⟩ := endT_br (mkToks l.length 0 l) (l.length : Nat)
  have hall : allP (mkToks l.length 0 l) l.length = mkToks l.length 0 l ++ (e ++ [⟨6, [], 0, (l.length : Nat)⟩]) := by
    unfold allP; rw [he]; simp
  have hd : deepF 0 (allP (mkToks l.length 0 l) l.length) = none := by
    rw [hall, deep_mk _ _ _ _ h]
    rcases hee with rfl | rfl
    · simp [deepF, openAft]
    · simp [deepF, openAft, opens, closes]
  refine ⟨e ++ [⟨6, [], 0, (l.length : Nat)⟩], ?_, ?_, ?_⟩
  · rw [lexR_ok _ hl _ hs hd, hall]
  · intro t ht
    rcases List.mem_append.1 ht with ht | ht
    · rcases hee with rfl | rfl
      · cases ht
      · rw [List.mem_singleton.1 ht]; exact .inr rfl
    · rw [List.mem_singleton.1 ht]; exact .inl rfl
  · rcases hee with rfl | rfl <;> simp
end Go.Proofs.YteoongjimggbgabDoor.Lx
