/- What the scanner answers to brackets alone. -/
import Derived.Test.YteoongjimggbgabDoorNamesP
namespace Go.Proofs.YteoongjimggbgabDoor.Lx

/-- The six brackets. -/
def isBr (c : UInt8) : Bool := c == 40 || c == 41 || c == 91 || c == 93 || c == 123 || c == 125
def brTok (k : Nat) (c : UInt8) : Tok := ⟨5, [c], 0, (k : Int)⟩
/-- The tokens of brackets from a place on. -/
def brToks : Nat → List UInt8 → List Tok
  | _, [] => []
  | k, c :: r => brTok k c :: brToks (k + 1) r
theorem brToks_len : ∀ (k : Nat) (l : List UInt8), (brToks k l).length = l.length
  | _, [] => rfl
  | k, c :: r => by simp [brToks, brToks_len (k + 1) r]
theorem brToks_app : ∀ (k : Nat) (a b : List UInt8), brToks k (a ++ b) = brToks k a ++ brToks (k + a.length) b
  | k, [], b => by simp [brToks]
  | k, c :: r, b => by
    simp only [List.cons_append, brToks, brToks_app (k + 1) r b, List.length_cons]
    congr 3; omega
theorem br_facts : ∀ c : UInt8, isBr c = true → c ≠ 32 ∧ c ≠ 9 ∧ c ≠ 10 ∧ c ≠ 47 ∧ c ≠ 34 ∧ isLet c = false ∧ isDig c = false ∧ mTab c.toNat = 1 := by
  intro c h
  have hc : c = 40 ∨ c = 41 ∨ c = 91 ∨ c = 93 ∨ c = 123 ∨ c = 125 := by
    simp [isBr] at h
    rcases h with ((((h | h) | h) | h) | h) | h <;> simp [h]
  rcases hc with rfl | rfl | rfl | rfl | rfl | rfl <;> refine ⟨by decide, by decide, by decide, by decide, by decide, by decide, by decide, by decide⟩
theorem part_br (l : List UInt8) (k : Nat) (ts : List Tok) (c : UInt8) (hc : l[k]? = some c) (h : isBr c = true) : partF l k ts = .inr (k + 1, ts ++ [brTok k c]) := by
  obtain ⟨n1, n2, n3, n4, n5, n6, n7, n8⟩ := br_facts c h
  have hm : mLen (l.drop k) = 1 := by
    rw [drop_cons_of l k c hc]
    unfold mLen
    simp [n8]
  have hs : sub l k (k + 1) = [c] := by
    unfold sub
    rw [drop_cons_of l k c hc, Nat.add_sub_cancel_left]
    rfl
  unfold partF
  rw [hc]
  simp only
  rw [if_neg (by intro e; rcases e with e | e; exact n1 e; exact n2 e), if_neg n3, if_neg (by rw [cmt_head _ k c hc n4]; simp), if_neg (by simp [n6]), if_neg (by simp [n7]), if_neg n5]
  unfold markF
  rw [hm, if_neg (by decide), hs]
  rfl
theorem scan_br (l : List UInt8) (h : ∀ c ∈ l, isBr c = true) : ∀ (n k : Nat) (ts : List Tok), l.length - k = n → scanAll l k ts = .inr (ts ++ brToks k (l.drop k))
  | 0, k, ts, hn => by
    rw [scanAll_end l k ts (by omega), List.drop_eq_nil_of_le (by omega)]
    simp [brToks]
  | n + 1, k, ts, hn => by
    have hk : k < l.length := by omega
    have hc : l[k]? = some l[k] := List.getElem?_eq_getElem hk
    have hb := h l[k] (List.getElem_mem hk)
    rw [scanAll_inr l k ts _ _ hk (part_br l k ts l[k] hc hb), scan_br l h n (k + 1) _ (by omega), drop_cons_of l k l[k] hc]
    simp [brToks]
def isOp (c : UInt8) : Bool := c == 40 || c == 91 || c == 123
theorem oa_br_open (o : Int) (k : Nat) (c : UInt8) (h : isOp c = true) : openAft o (brTok k c) = o + 1 := by
  have hc : c = 40 ∨ c = 91 ∨ c = 123 := by
    simp [isOp] at h
    rcases h with (h | h) | h <;> simp [h]
  rcases hc with rfl | rfl | rfl <;> simp [openAft, brTok, opens]
/-- Opening brackets alone: the first with which too many are open. -/
theorem deep_open : ∀ (l : List UInt8) (k : Nat) (o : Nat) (rest : List Tok), (∀ c ∈ l, isOp c = true) → o ≤ 40 → deepF (o : Int) (brToks k l ++ rest) = if 40 < o + l.length then some ((k + (40 - o) : Nat) : Int) else deepF ((o + l.length : Nat) : Int) rest
  | [], k, o, rest, _, ho => by
    rw [if_neg (by simp; omega)]
    simp [brToks]
  | c :: r, k, o, rest, h, ho => by
    have hc := h c (by simp)
    have ih := deep_open r (k + 1) (o + 1) rest (fun d hd => h d (by simp [hd]))
    simp only [brToks, List.cons_append, deepF]
    rw [oa_br_open _ _ _ hc]
    by_cases h40 : o = 40
    · subst h40
      rw [if_pos ⟨rfl, by omega⟩, if_pos (by simp)]
      simp [brTok]
    · rw [if_neg (by intro e; omega)]
      have := ih (by omega)
      have e1 : ((o : Int) + 1) = ((o + 1 : Nat) : Int) := by omega
      rw [e1, this]
      simp only [List.length_cons]
      by_cases h5 : 40 < o + 1 + r.length
      · rw [if_pos h5, if_pos (by omega)]
        congr 2; omega
      · rw [if_neg h5, if_neg (by omega)]
        congr 2; omega
/-- Pairs of brackets, closed at once. -/
def pairsL : Nat → List UInt8
  | 0 => []
  | n + 1 => pairsL n ++ [40, 41]
theorem pairsL_len : ∀ n, (pairsL n).length = 2 * n
  | 0 => rfl
  | n + 1 => by simp [pairsL, pairsL_len n]; omega
theorem deep_pairs : ∀ (n k : Nat) (rest : List Tok), deepF 0 (brToks k (pairsL n) ++ rest) = deepF 0 rest
  | 0, k, rest => by simp [pairsL, brToks]
  | n + 1, k, rest => by
    rw [pairsL, brToks_app, List.append_assoc, deep_pairs n k]
    simp [brToks, brTok, deepF, openAft, opens, closes]
theorem br_pairs : ∀ n, ∀ c ∈ pairsL n, isBr c = true
  | 0, c, h => by simp [pairsL] at h
  | n + 1, c, h => by
    rw [pairsL] at h
    rcases List.mem_append.1 h with h | h
    · exact br_pairs n c h
    · simp at h; rcases h with rfl | rfl <;> decide
theorem isBr_of_op (c : UInt8) (h : isOp c = true) : isBr c = true := by
  simp [isOp] at h
  rcases h with (h | h) | h <;> simp [isBr, h]
theorem endT_br (ts : List Tok) (n : Int) : ∃ e, endT ts n = ts ++ e ∧ (e = [] ∨ e = [⟨5, [59], 1, n⟩]) := by
  unfold endT
  split
  · split
    · exact ⟨_, rfl, .inr rfl⟩
    · exact ⟨[], by simp, .inl rfl⟩
  · exact ⟨[], by simp, .inl rfl⟩
theorem nests_all (n : Nat) (l : List UInt8) (h : ∀ c ∈ l, isOp c = true) : ∀ c ∈ pairsL n ++ l, isBr c = true := fun c hc => by
  rcases List.mem_append.1 hc with hc | hc
  · exact br_pairs n c hc
  · exact isBr_of_op c (h c hc)
theorem lex_nests (n : Nat) (l : List UInt8) (h : ∀ c ∈ l, isOp c = true) (hn : n ≤ 100) (hl : l.length ≤ 100) :
    (40 < l.length → lexR (pairsL n ++ l) = ([], 3, 2 * (n : Int) + 40)) ∧
    (l.length ≤ 40 → ∃ tk, lexR (pairsL n ++ l) = (tk, 0, 0) ∧ l.length + 2 * n + 1 ≤ tk.length) := by
  have hlen : (pairsL n ++ l).length = 2 * n + l.length := by rw [List.length_append, pairsL_len]
  have hs : scanAll (pairsL n ++ l) 0 [] = .inr (brToks 0 (pairsL n ++ l)) := by
    have := scan_br (pairsL n ++ l) (nests_all n l h) _ 0 [] rfl
    simpa using this
  obtain ⟨e, he, hee⟩ := endT_br (brToks 0 (pairsL n ++ l)) ((pairsL n ++ l).length : Nat)
  have hall : allP (brToks 0 (pairsL n ++ l)) (pairsL n ++ l).length = brToks 0 (pairsL n) ++ (brToks (2 * n) l ++ (e ++ [⟨6, [], 0, ((pairsL n ++ l).length : Nat)⟩])) := by
    unfold allP
    rw [he, brToks_app, pairsL_len]
    simp
  have hd := deep_open l (2 * n) 0 (e ++ [⟨6, [], 0, ((pairsL n ++ l).length : Nat)⟩]) h (by omega)
  have hdd : deepF 0 (allP (brToks 0 (pairsL n ++ l)) (pairsL n ++ l).length) = if 40 < 0 + l.length then some ((2 * n + (40 - 0) : Nat) : Int) else deepF ((0 + l.length : Nat) : Int) (e ++ [⟨6, [], 0, ((pairsL n ++ l).length : Nat)⟩]) := by
    rw [hall, deep_pairs]; exact hd
  constructor
  · intro h40
    rw [if_pos (by omega)] at hdd
    rw [lexR_deep _ (by omega) _ hs _ hdd]
    simp only [Prod.mk.injEq, true_and]
    omega
  · intro h40
    rw [if_neg (by omega)] at hdd
    have hz : deepF ((0 + l.length : Nat) : Int) (e ++ [⟨6, [], 0, ((pairsL n ++ l).length : Nat)⟩]) = none := by
      rcases hee with rfl | rfl
      · simp [deepF, openAft]
      · simp [deepF, openAft, opens, closes]; omega
    rw [hz] at hdd
    refine ⟨_, lexR_ok _ (by omega) _ hs hdd, ?_⟩
    unfold allP
    rw [he]
    simp only [List.length_append, brToks_len, pairsL_len, List.length_cons, List.length_nil]
    omega
end Go.Proofs.YteoongjimggbgabDoor.Lx
