/- What the scanner answers to a quoted text. -/
import Derived.Test.YteoongjimggbgaaDoorNestsP
namespace Go.Proofs.YteoongjimggbgaaDoor.Lx

def encB (c : UInt8) : List UInt8 := if c = 10 then [92, 110] else if c = 34 ∨ c = 92 then [92, c] else [c]
def okB (c : UInt8) : Bool := c == 10 || (decide (32 ≤ (c.toNat : Int)) && decide ((c.toNat : Int) ≤ 126))
def encL (xs : List UInt8) : List UInt8 := xs.flatMap encB
theorem encL_snoc (xs : List UInt8) (c : UInt8) : encL (xs ++ [c]) = encL xs ++ encB c := by simp [encL]
theorem encB_len (c : UInt8) : (encB c).length ≤ 2 := by
  unfold encB
  split
  · decide
  · split <;> simp
theorem encL_len : ∀ xs : List UInt8, (encL xs).length ≤ 2 * xs.length
  | [] => by simp [encL]
  | c :: r => by
    have h1 := encB_len c
    have h2 := encL_len r
    have e : encL (c :: r) = encB c ++ encL r := by simp [encL]
    rw [e, List.length_append, List.length_cons]
    omega
theorem txt_enc : ∀ (xs : List UInt8), (∀ c ∈ xs, okB c = true) → txt (encL xs ++ [34]) = (some xs, (encL xs).length + 1)
  | [], _ => by simp [encL, txt_quote]
  | c :: r, h => by
    have hc := h c (by simp)
    have ih := txt_enc r (fun d hd => h d (by simp [hd]))
    have e : encL (c :: r) = encB c ++ encL r := by simp [encL]
    rw [e]
    by_cases h1 : c = 10
    · subst h1
      have e2 : encB 10 = [92, 110] := by decide
      rw [e2]
      show txt (92 :: 110 :: (encL r ++ [34])) = _
      rw [txt_esc 110 10 _ (by decide), ih]
      simp
    · by_cases h2 : c = 34 ∨ c = 92
      · have e2 : encB c = [92, c] := by simp [encB, h1, h2]
        rw [e2]
        show txt (92 :: c :: (encL r ++ [34])) = _
        have he : escC c = some c := by rcases h2 with rfl | rfl <;> decide
        rw [txt_esc c c _ he, ih]
        simp
      · have e2 : encB c = [c] := by simp [encB, h1, h2]
        rw [e2]
        show txt (c :: (encL r ++ [34])) = _
        have hp : isPln c = true := by
          have n1 : ¬ (c.toNat : Int) = 34 := fun e => h2 (.inl (UInt8.toNat_inj.1 (by simpa using Int.ofNat.inj e)))
          have n2 : ¬ (c.toNat : Int) = 92 := fun e => h2 (.inr (UInt8.toNat_inj.1 (by simpa using Int.ofNat.inj e)))
          simp [okB, h1] at hc
          simp only [isPln, plnZ, decide_eq_false n1, decide_eq_false n2]
          simp
          omega
        rw [txt_plain c _ hp, ih]
        simp
def quoteL (xs : List UInt8) : List UInt8 := 34 :: (encL xs ++ [34])
theorem quoteL_len (xs : List UInt8) : (quoteL xs).length = (encL xs).length + 2 := by simp [quoteL]
theorem part_quote (xs : List UInt8) (h : ∀ c ∈ xs, okB c = true) : partF (quoteL xs) 0 [] = if 256 < xs.length then .inl 0 else .inr ((quoteL xs).length, [⟨3, xs, 0, 0⟩]) := by
  have hc : (quoteL xs)[0]? = some 34 := rfl
  unfold partF
  rw [hc]
  simp only
  rw [if_neg (by decide), if_neg (by decide), if_neg (by rw [cmt_head _ 0 34 hc (by decide)]; simp), if_neg (by decide), if_neg (by decide), if_pos trivial]
  unfold textF
  have e : (quoteL xs).drop (0 + 1) = encL xs ++ [34] := rfl
  rw [e, txt_enc xs h]
  simp only [quoteL_len]
  have e2 : 0 + 1 + ((encL xs).length + 1) = (encL xs).length + 2 := by omega
  rw [e2]
  rfl
theorem lex_quote_long (xs : List UInt8) (h : ∀ c ∈ xs, okB c = true) (hn : xs.length ≤ 1000) (hl : 256 < xs.length) : lexR (quoteL xs) = ([], 2, 0) := by
  have hp := part_quote xs h
  rw [if_pos hl] at hp
  have := encL_len xs
  exact lexR_bad _ (by rw [quoteL_len]; omega) 0 (scanAll_inl _ 0 [] 0 (by rw [quoteL_len]; omega) hp)
theorem lex_quote_ok (xs : List UInt8) (h : ∀ c ∈ xs, okB c = true) (hl : ¬ 256 < xs.length) : lexR (quoteL xs) = ([⟨3, xs, 0, 0⟩, ⟨5, [59], 1, ((quoteL xs).length : Int)⟩, ⟨6, [], 0, ((quoteL xs).length : Int)⟩], 0, 0) := by
  have hp := part_quote xs h
  rw [if_neg hl] at hp
  have hb := encL_len xs
  have h0 : 0 < (quoteL xs).length := by rw [quoteL_len]; omega
  have hs : scanAll (quoteL xs) 0 [] = .inr [⟨3, xs, 0, 0⟩] := by
    rw [scanAll_inr _ 0 [] _ _ h0 hp, scanAll_end _ _ _ (Nat.le_refl _)]
  have ha : allP [⟨3, xs, 0, 0⟩] (quoteL xs).length = [⟨3, xs, 0, 0⟩, ⟨5, [59], 1, ((quoteL xs).length : Int)⟩, ⟨6, [], 0, ((quoteL xs).length : Int)⟩] := by
    simp [allP, endT, tokEnds]
  rw [lexR_ok _ (by rw [quoteL_len]; omega) _ hs (by rw [ha]; simp [deepF, openAft, opens, closes]), ha]
end Go.Proofs.YteoongjimggbgaaDoor.Lx
