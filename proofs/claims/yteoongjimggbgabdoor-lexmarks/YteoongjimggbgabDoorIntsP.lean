/- What the scanner answers to digits alone. -/
import Derived.Test.YteoongjimggbgabDoorLexP
namespace Go.Proofs.YteoongjimggbgabDoor.Lx

theorem dig_ne (c : UInt8) (h : isDig c = true) : c ≠ 32 ∧ c ≠ 9 ∧ c ≠ 10 ∧ c ≠ 47 ∧ isLet c = false := by
  have hb := isDig_bd c h
  refine ⟨?_, ?_, ?_, ?_, ?_⟩
  · rintro rfl; revert h; decide
  · rintro rfl; revert h; decide
  · rintro rfl; revert h; decide
  · rintro rfl; revert h; decide
  · simp [isLet, letZ]; omega
theorem cmt_head (l : List UInt8) (k : Nat) (c : UInt8) (h : l[k]? = some c) (hc : c ≠ 47) : cmt l k = false := by
  unfold cmt
  rw [drop_cons_of l k c h]
  cases hr : (l.drop (k + 1)) with
  | nil => simp
  | cons d r => simp [hc]
theorem tw_self (p : UInt8 → Bool) : ∀ l : List UInt8, (∀ c ∈ l, p c = true) → l.takeWhile p = l
  | [], _ => rfl
  | c :: r, h => by rw [List.takeWhile_cons_of_pos (h c (by simp)), tw_self p r (fun d hd => h d (by simp [hd]))]
theorem re_all (p : UInt8 → Bool) (l : List UInt8) (h : ∀ c ∈ l, p c = true) : runEnd p l 0 = l.length := by
  unfold runEnd
  rw [List.drop_zero, tw_self p l h]
  simp
theorem sub_whole (l : List UInt8) : sub l 0 l.length = l := by simp [sub]
theorem part_digits (l : List UInt8) (h : ∀ c ∈ l, isDig c = true) (h0 : l ≠ []) : partF l 0 [] = if numBad l = true then .inl 0 else .inr (l.length, [⟨2, l, numV l, 0⟩]) := by
  obtain ⟨c, r, rfl⟩ : ∃ c r, l = c :: r := by cases l with | nil => exact absurd rfl h0 | cons c r => exact ⟨c, r, rfl⟩
  have hd := h c (by simp)
  obtain ⟨n1, n2, n3, n4, n5⟩ := dig_ne c hd
  have hc : (c :: r)[0]? = some c := rfl
  unfold partF
  rw [hc]
  simp only
  rw [if_neg (by intro e; rcases e with e | e; exact n1 e; exact n2 e), if_neg n3, if_neg (by rw [cmt_head _ 0 c hc n4]; simp), if_neg (by simp [n5]), if_pos hd]
  unfold numF
  rw [re_all isDig _ h, sub_whole]
  have hl : letAt (c :: r) (c :: r).length = false := by unfold letAt; rw [List.getElem?_eq_none (Nat.le_refl _)]
  rw [if_neg (by rw [hl]; simp : ¬ letAt (c :: r) (c :: r).length = true)]
  simp
theorem lex_ints_bad (l : List UInt8) (h : ∀ c ∈ l, isDig c = true) (h0 : l ≠ []) (hn : l.length ≤ 8192) (hb : numBad l = true) : lexR l = ([], 2, 0) := by
  have hl : 0 < l.length := List.length_pos_iff.2 h0
  have hp := part_digits l h h0
  rw [if_pos hb] at hp
  exact lexR_bad l hn 0 (scanAll_inl l 0 [] 0 hl hp)
theorem lex_ints_ok (l : List UInt8) (h : ∀ c ∈ l, isDig c = true) (h0 : l ≠ []) (hn : l.length ≤ 8192) (hb : numBad l = false) : lexR l = ([⟨2, l, numV l, 0⟩, ⟨5, [59], 1, (l.length : Int)⟩, ⟨6, [], 0, (l.length : Int)⟩], 0, 0) := by
  have hl : 0 < l.length := List.length_pos_iff.2 h0
  have hp := part_digits l h h0
  rw [if_neg (by simp [hb])] at hp
  have hs : scanAll l 0 [] = .inr [⟨2, l, numV l, 0⟩] := by
    rw [scanAll_inr l 0 [] _ _ hl hp, scanAll_end l l.length _ (Nat.le_refl _)]
  have ha : allP [⟨2, l, numV l, 0⟩] l.length = [⟨2, l, numV l, 0⟩, ⟨5, [59], 1, (l.length : Int)⟩, ⟨6, [], 0, (l.length : Int)⟩] := by
    simp [allP, endT, tokEnds]
  rw [lexR_ok l hn _ hs (by rw [ha]; simp [deepF, openAft, opens, closes]), ha]
end Go.Proofs.YteoongjimggbgabDoor.Lx
