/- What the scanner answers to letters and digits. -/
import Derived.Test.YteoongjimggbgabDoorIntsP
namespace Go.Proofs.YteoongjimggbgabDoor.Lx

theorem toL_append (a b : ByteArray) : (a ++ b).toList = a.toList ++ b.toList := by
  rw [ByteArray.toList_eq, ByteArray.toList_eq, ByteArray.toList_eq, ByteArray.data_append, Array.toList_append]
theorem let_ne (c : UInt8) (h : isLet c = true) : c ≠ 32 ∧ c ≠ 9 ∧ c ≠ 10 ∧ c ≠ 47 ∧ isDig c = false := by
  refine ⟨?_, ?_, ?_, ?_, ?_⟩
  · rintro rfl; revert h; decide
  · rintro rfl; revert h; decide
  · rintro rfl; revert h; decide
  · rintro rfl; revert h; decide
  · simp [isLet, letZ] at h
    simp [isDig, digZ]; omega
theorem re_pre (p : UInt8 → Bool) (l : List UInt8) (d : UInt8) (r : List UInt8) (h : ∀ c ∈ l, p c = true) (hd : p d = false) : runEnd p (l ++ d :: r) 0 = l.length := by
  unfold runEnd
  rw [List.drop_zero]
  have : (l ++ d :: r).takeWhile p = l := by
    rw [List.takeWhile_append_of_pos h, List.takeWhile_cons_of_neg (by simp [hd])]
    simp
  rw [this]; simp
/-- The tokens of a name and a blank behind it. -/
def nameToks (l : List UInt8) : List Tok := endT [⟨nmK l, l, 0, 0⟩] ((l.length + 1 : Nat) : Int) ++ [⟨6, [], 0, ((l.length + 1 : Nat) : Int)⟩]
theorem part_name (l : List UInt8) (h : ∀ c ∈ l, isNam c = true) (c : UInt8) (hc : l[0]? = some c) (hl : isLet c = true) : partF (l ++ [32]) 0 [] = if 24 < l.length then .inl 0 else .inr (l.length, [⟨nmK l, l, 0, 0⟩]) := by
  obtain ⟨n1, n2, n3, n4, n5⟩ := let_ne c hl
  have hlen : 0 < l.length := (List.getElem?_eq_some_iff.1 hc).1
  have hc' : (l ++ [32])[0]? = some c := by rw [List.getElem?_append_left hlen]; exact hc
  unfold partF
  rw [hc']
  simp only
  rw [if_neg (by intro e; rcases e with e | e; exact n1 e; exact n2 e), if_neg n3, if_neg (by rw [cmt_head _ 0 c hc' n4]; simp), if_pos hl]
  unfold nameF
  rw [re_pre isNam l 32 [] h (by decide)]
  have hs : sub (l ++ [32]) 0 l.length = l := by simp [sub]
  rw [hs]
  simp
theorem lex_name_long (l : List UInt8) (h : ∀ c ∈ l, isNam c = true) (c : UInt8) (hc : l[0]? = some c) (hl : isLet c = true) (hn : l.length ≤ 8000) (h24 : 24 < l.length) : lexR (l ++ [32]) = ([], 2, 0) := by
  have hp := part_name l h c hc hl
  rw [if_pos h24] at hp
  exact lexR_bad _ (by simp; omega) 0 (scanAll_inl _ 0 [] 0 (by simp) hp)
theorem deep_name (l : List UInt8) (n : Int) : deepF 0 (endT [⟨nmK l, l, 0, 0⟩] n ++ [⟨6, [], 0, n⟩]) = none := by
  have hk : ¬ nmK l = 5 := by unfold nmK; split <;> decide
  unfold endT
  simp only [List.getLast?_singleton]
  split
  · simp [deepF, openAft, hk, opens, closes]
  · simp [deepF, openAft, hk]
theorem lex_name_ok (l : List UInt8) (h : ∀ c ∈ l, isNam c = true) (c : UInt8) (hc : l[0]? = some c) (hl : isLet c = true) (h24 : ¬ 24 < l.length) : lexR (l ++ [32]) = (nameToks l, 0, 0) := by
  have hp := part_name l h c hc hl
  rw [if_neg h24] at hp
  have hlen : (l ++ [32]).length = l.length + 1 := by simp
  have hp2 : partF (l ++ [32]) l.length [⟨nmK l, l, 0, 0⟩] = .inr (l.length + 1, [⟨nmK l, l, 0, 0⟩]) := by
    unfold partF
    rw [List.getElem?_append_right (Nat.le_refl _)]
    simp
  have hs : scanAll (l ++ [32]) 0 [] = .inr [⟨nmK l, l, 0, 0⟩] := by
    rw [scanAll_inr _ 0 [] _ _ (by omega) hp, scanAll_inr _ _ _ _ _ (by omega) hp2, scanAll_end _ _ _ (by omega)]
  rw [lexR_ok _ (by omega) _ hs (by rw [hlen]; exact deep_name l _), hlen]
  rfl
theorem nameToks_head (l : List UInt8) : (nameToks l)[0]? = some ⟨nmK l, l, 0, 0⟩ := by
  unfold nameToks endT
  simp only [List.getLast?_singleton]
  split <;> rfl
theorem nameToks_len (l : List UInt8) : 2 ≤ (nameToks l).length := by
  unfold nameToks endT
  simp only [List.getLast?_singleton]
  split <;> simp
theorem lex_dig_name (l : List UInt8) (c : UInt8) (hc : l[0]? = some c) (hl : isLet c = true) (hn : l.length ≤ 8000) : lexR (49 :: l) = ([], 2, 1) := by
  obtain ⟨n1, n2, n3, n4, n5⟩ := let_ne c hl
  obtain ⟨r, rfl⟩ : ∃ r, l = c :: r := by
    cases l with
    | nil => simp at hc
    | cons d r => simp at hc; exact ⟨r, by rw [hc]⟩
  have hc' : (49 :: c :: r : List UInt8)[0]? = some 49 := rfl
  have hp : partF (49 :: c :: r) 0 [] = .inl 1 := by
    unfold partF
    rw [hc']
    simp only
    rw [if_neg (by decide), if_neg (by decide), if_neg (by rw [cmt_head _ 0 49 hc' (by decide)]; simp), if_neg (by decide), if_pos (by decide)]
    unfold numF
    have he : runEnd isDig (49 :: c :: r) 0 = 1 := re_pre isDig [49] c r (by intro d hd; rw [List.mem_singleton.1 hd]; decide) n5
    rw [he]
    have hs : sub (49 :: c :: r) 0 1 = [49] := rfl
    rw [hs, if_neg (by decide)]
    have hla : letAt (49 :: c :: r) 1 = true := hl
    rw [if_pos hla]
  exact lexR_bad _ (by simp at hn ⊢; omega) 1 (scanAll_inl _ 0 [] 1 (by simp) hp)
end Go.Proofs.YteoongjimggbgabDoor.Lx
