/- When a text is one name: what the scanner says of it. No program stands in it. -/
import Derived.Test.YtpmpjbnnjdpbnaaDoorLexP
import Derived.Test.YtpmpjbnnjdpbnaaDoorTyP
namespace Go.Proofs.YtpmpjbnnjdpbnaaDoor.Lx

/-- A name among tokens is a run of letters and digits of the text that is no word. -/
def GoodT (l : List UInt8) (t : Tok) : Prop := t.kind = 1 → ∃ (k : Nat) (c : UInt8), l[k]? = some c ∧ isLet c = true ∧ t.text = sub l k (runEnd isNam l k) ∧ isWd t.text = false
theorem endT_good {l : List UInt8} {ts : List Tok} {k : Int} (h : ∀ t ∈ ts, GoodT l t) : ∀ t ∈ endT ts k, GoodT l t := by
  intro t ht
  unfold endT at ht
  split at ht
  · split at ht
    · rcases List.mem_append.1 ht with ht | ht
      · exact h t ht
      · rw [List.mem_singleton.1 ht]; intro e; simp at e
    · exact h t ht
  · exact h t ht
theorem snoc_good {l : List UInt8} {ts : List Tok} {x : Tok} (h : ∀ t ∈ ts, GoodT l t) (hx : GoodT l x) : ∀ t ∈ ts ++ [x], GoodT l t := by
  intro t ht
  rcases List.mem_append.1 ht with ht | ht
  · exact h t ht
  · rw [List.mem_singleton.1 ht]; exact hx
theorem partF_good {l : List UInt8} {k : Nat} {ts : List Tok} {k' : Nat} {ts' : List Tok} (h : ∀ t ∈ ts, GoodT l t) (hp : partF l k ts = .inr (k', ts')) : ∀ t ∈ ts', GoodT l t := by
  unfold partF at hp
  split at hp
  · cases hp
  · rename_i c hc
    split at hp
    · cases hp; exact h
    · split at hp
      · cases hp; exact endT_good h
      · split at hp
        · cases hp; exact h
        · split at hp
          · rename_i hl
            unfold nameF at hp
            split at hp
            · cases hp
            · cases hp
              refine snoc_good h ?_
              intro e
              refine ⟨k, c, hc, hl, rfl, ?_⟩
              unfold nmK at e
              split at e
              · simp at e
              · rename_i hw; simpa using hw
          · split at hp
            · unfold numF at hp
              split at hp
              · cases hp
              · split at hp
                · cases hp
                · cases hp; exact snoc_good h (fun e => by simp at e)
            · split at hp
              · unfold textF at hp
                split at hp
                · cases hp
                · split at hp
                  · cases hp
                  · cases hp; exact snoc_good h (fun e => by simp at e)
              · unfold markF at hp
                split at hp
                · cases hp
                · cases hp; exact snoc_good h (fun e => by simp at e)
theorem scanF_good {l : List UInt8} : ∀ (f k : Nat) (ts r : List Tok), (∀ t ∈ ts, GoodT l t) → scanF f l k ts = .inr r → ∀ t ∈ r, GoodT l t
  | 0, _, _, _, h, hs => by rw [scanF] at hs; cases hs; exact h
  | f + 1, k, ts, r, h, hs => by
    rw [scanF] at hs
    split at hs
    · split at hs
      · cases hs
      · rename_i q hq
        exact scanF_good f q.1 q.2 r (partF_good h hq) hs
    · cases hs; exact h
theorem lexR_good (l : List UInt8) : ∀ t ∈ (lexR l).1, GoodT l t := by
  unfold lexR
  split
  · intro t ht; cases ht
  · split
    · intro t ht; cases ht
    · rename_i ts hs
      split
      · intro t ht; cases ht
      · exact snoc_good (endT_good (scanF_good _ _ _ _ (by simp) hs)) (fun e => by simp at e)
theorem sub_len (l : List UInt8) (a b : Nat) : (sub l a b).length ≤ l.length - a := by
  unfold sub; rw [List.length_take, List.length_drop]; omega
theorem good_nm {l : List UInt8} {t : Tok} (h : GoodT l t) (hk : t.kind = 1) (ht : t.text = l) (h24 : l.length ≤ 24) : isNm l = true := by
  obtain ⟨k, c, hc, hl, he, hw⟩ := h hk
  have hkl : k < l.length := (List.getElem?_eq_some_iff.1 hc).1
  have h1 := sub_len l k (runEnd isNam l k)
  rw [← he, ht] at h1
  obtain rfl : k = 0 := by omega
  rw [ht] at he hw
  have e2 : l.takeWhile isNam = l := by
    have : sub l 0 (runEnd isNam l 0) = l.takeWhile isNam := by
      unfold sub runEnd
      simp only [List.drop_zero, Nat.zero_add, Nat.sub_zero]
      exact (List.prefix_iff_eq_take.1 (List.takeWhile_prefix _)).symm
    rw [this] at he; exact he.symm
  have hall : l.all isNam = true := by
    rw [← e2]; simp [List.all_takeWhile]
  cases l with
  | nil => cases hc
  | cons d q =>
    cases hc
    simp only [isNm, hl, hall, hw, decide_eq_true h24]
    rfl
theorem part_nm {c : UInt8} {q : List UInt8} (h : isNm (c :: q) = true) : partF (c :: q) 0 [] = .inr ((c :: q).length, [⟨1, c :: q, 0, 0⟩]) := by
  have hall := h
  simp only [isNm, Bool.and_eq_true, decide_eq_true_eq] at h
  obtain ⟨⟨⟨h24, hl⟩, ha⟩, hw⟩ := h
  have hw' : isWd (c :: q) = false := by simpa using hw
  have n1 : c ≠ 32 := by rintro rfl; revert hl; decide
  have n2 : c ≠ 9 := by rintro rfl; revert hl; decide
  have n3 : c ≠ 10 := by rintro rfl; revert hl; decide
  have n4 : c ≠ 47 := by rintro rfl; revert hl; decide
  have hc : (c :: q)[0]? = some c := rfl
  have hm : cmt (c :: q) 0 = false := by
    cases q with
    | nil => simp [cmt]
    | cons d q => simp [cmt, n4]
  have hr : runEnd isNam (c :: q) 0 = (c :: q).length := by
    unfold runEnd
    rw [List.drop_zero]
    have : (c :: q).takeWhile isNam = c :: q := by
      have := List.takeWhile_append_of_pos (p := isNam) (l₁ := c :: q) (l₂ := []) (fun x hx => List.all_eq_true.1 ha x hx)
      simpa using this
    rw [this]; simp
  unfold partF
  rw [hc]
  simp only
  rw [if_neg (by intro e; rcases e with e | e; exact n1 e; exact n2 e), if_neg n3, if_neg (by rw [hm]; simp), if_pos hl]
  unfold nameF
  rw [hr, if_neg (by omega)]
  have hs : sub (c :: q) 0 (c :: q).length = c :: q := by simp [sub]
  rw [hs, nmK, if_neg (by rw [hw']; simp)]
  rfl
theorem deep_nm (l : List UInt8) (n : Int) : deepF 0 (endT [⟨1, l, 0, 0⟩] n ++ [⟨6, [], 0, n⟩]) = none := by
  unfold endT
  simp only [List.getLast?_singleton]
  split
  · simp [deepF, openAft, opens, closes]
  · simp [deepF, openAft]
theorem lex_nm {l : List UInt8} (h : isNm l = true) : ∃ r, (lexR l).1 = ⟨1, l, 0, 0⟩ :: r := by
  cases l with
  | nil => simp [isNm] at h
  | cons c q =>
    have hp := part_nm h
    have h24 : (c :: q).length ≤ 24 := by simp only [isNm, Bool.and_eq_true, decide_eq_true_eq] at h; exact h.1.1.1
    have hs : scanAll (c :: q) 0 [] = .inr [⟨1, c :: q, 0, 0⟩] := by
      rw [scanAll_inr _ 0 [] _ _ (by simp) hp, scanAll_end _ _ _ (Nat.le_refl _)]
    rw [lexR_ok _ (by omega) _ hs (deep_nm _ _)]
    unfold allP endT
    simp only [List.getLast?_singleton]
    split <;> exact ⟨_, rfl⟩
/-- Whether a text's first token is a name, and all of it. -/
def isTk (l : List UInt8) : List Tok → Bool
  | [] => false
  | t :: _ => decide (t.kind = 1) && (t.text == l)
theorem isTk_nm (l : List UInt8) (h24 : l.length ≤ 24) : isTk l (lexR l).1 = isNm l := by
  rw [Bool.eq_iff_iff]
  constructor
  · intro h
    cases hx : (lexR l).1 with
    | nil => rw [hx] at h; cases h
    | cons t r =>
      rw [hx] at h
      simp only [isTk, Bool.and_eq_true, decide_eq_true_eq, beq_iff_eq] at h
      exact good_nm (lexR_good l t (by rw [hx]; exact List.mem_cons_self ..)) h.1 h.2 h24
  · intro h
    obtain ⟨r, e⟩ := lex_nm h
    rw [e]; simp [isTk]
end Go.Proofs.YtpmpjbnnjdpbnaaDoor.Lx
