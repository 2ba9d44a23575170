/- Tokens and marks in memory. -/
import Derived.Test.YteoongjimggbgabDoorAnchor
import Derived.Test.YteoongjimggbgabDoorMarksP
namespace Go.Proofs.YteoongjimggbgabDoor
open Go.RowKit Go.Proofs.YteoongjimggbgabDoor.Lx

theorem toL_size {x : ByteArray} {l : List UInt8} (h : x.toList = l) : x.size = l.length := by rw [← toL_len, h]
/-- A row of tokens in memory, whatever lies around it. -/
def ToksAt (X : World) (v : Value) (ts : List Tok) : Prop := ∃ base, X.ownsRow base 31 4 v ts.length (toksCells ts)
theorem ToksAt.below {X Y : World} {v : Value} {ts : List Tok} (h : ToksAt X v ts) (hb : Below X.heap.size X Y) : ToksAt Y v ts := by
  obtain ⟨base, h1, h2⟩ := h
  refine ⟨base, h1, ?_⟩
  rcases h2 with h2 | ⟨g, cap, cur, e1, e2, e3, r⟩
  · exact .inl h2
  · exact .inr ⟨g, cap, cur, e1, e2, by rw [hb.block g (blk_lt e3)]; exact e3, r⟩
theorem ToksAt.cells {X : World} {ao : Option Addr} {cap : Nat} {ts : List Tok} (h : ToksAt X (.slice ao ts.length cap) ts) (j : Nat) (t : Tok) (hj : ts[j]? = some t) : ∃ g, ao = some ⟨g, 0, none⟩ ∧ g < X.heap.size ∧
    X.cell? ⟨g, j * 4, none⟩ = some (.int .i64 t.kind) ∧ X.cell? ⟨g, j * 4 + 1, none⟩ = some (.string ⟨t.text.toArray⟩) ∧ X.cell? ⟨g, j * 4 + 2, none⟩ = some (.int .i64 t.num) ∧ X.cell? ⟨g, j * 4 + 3, none⟩ = some (.int .i64 t.pos) := by
  obtain ⟨base, h1⟩ := h
  obtain ⟨g, cap', e, _, hg, r⟩ := tok_cells h1 j t hj
  cases e
  exact ⟨g, rfl, hg, r⟩
theorem Scan_to (s : ByteArray) (w : World) (hv : Vars w) (toks : List Tok) (st pl : Int) (h : lexR s.toList = (toks, st, pl)) :
    Calls Tryd.prog 5 #[.string s] w fun e w' => ∃ ao cap, e = .returned (.tuple #[.slice ao toks.length cap, .agg #[.int .i64 st, .int .i64 pl]]) ∧ ToksAt w' (.slice ao toks.length cap) toks ∧ Below w.heap.size w w' := by
  refine (Scan_is s w hv toks st pl h).mono ?_
  rintro e w' ⟨v, rfl, ho, hb⟩
  obtain ⟨ao, cap, rfl⟩ := own_form ho
  exact ⟨ao, cap, rfl, ⟨_, ho⟩, hb⟩
/-- The marks that the law joins. -/
def marksL : List (List UInt8) := [[58, 61], [61, 61], [33, 61], [60, 61], [62, 61], [38, 38], [124, 124], [60, 45], [43, 43], [45, 45], [43, 61], [45, 61], [42, 61], [44], [59], [58], [46], [61], [60], [62], [43], [45], [42], [37], [33], [38]]
theorem marks_good : ∀ p ∈ marksL, good p = true ∧ p.length ≤ 2 := by decide
def MarksAt (X : World) (B : Nat) : Prop := B < X.heap.size ∧ ∀ j p, marksL[j]? = some p → X.cell? ⟨B, j, none⟩ = some (.string ⟨p.toArray⟩)
theorem MarksAt.below {X Y : World} {B : Nat} (h : MarksAt X B) (hb : Below X.heap.size X Y) : MarksAt Y B :=
  ⟨Nat.lt_of_lt_of_le h.1 hb.size, fun j p hj => (hb.cell (p := ⟨B, j, none⟩) h.1).trans (h.2 j p hj)⟩
theorem marks_cells (X : World) : MarksAt (X.alloc (.cells #[.string ⟨#[58, 61]⟩, .string ⟨#[61, 61]⟩, .string ⟨#[33, 61]⟩, .string ⟨#[60, 61]⟩, .string ⟨#[62, 61]⟩, .string ⟨#[38, 38]⟩, .string ⟨#[124, 124]⟩, .string ⟨#[60, 45]⟩, .string ⟨#[43, 43]⟩, .string ⟨#[45, 45]⟩, .string ⟨#[43, 61]⟩, .string ⟨#[45, 61]⟩, .string ⟨#[42, 61]⟩, .string ⟨#[44]⟩, .string ⟨#[59]⟩, .string ⟨#[58]⟩, .string ⟨#[46]⟩, .string ⟨#[61]⟩, .string ⟨#[60]⟩, .string ⟨#[62]⟩, .string ⟨#[43]⟩, .string ⟨#[45]⟩, .string ⟨#[42]⟩, .string ⟨#[37]⟩, .string ⟨#[33]⟩, .string ⟨#[38]⟩] 9)) X.heap.size := by
  refine ⟨by simp, fun j p h => ?_⟩
  have hj : j < 26 := (List.getElem?_eq_some_iff.1 h).1
  match j, hj, h with
  | 0, _, h => cases h; simp
  | 1, _, h => cases h; simp
  | 2, _, h => cases h; simp
  | 3, _, h => cases h; simp
  | 4, _, h => cases h; simp
  | 5, _, h => cases h; simp
  | 6, _, h => cases h; simp
  | 7, _, h => cases h; simp
  | 8, _, h => cases h; simp
  | 9, _, h => cases h; simp
  | 10, _, h => cases h; simp
  | 11, _, h => cases h; simp
  | 12, _, h => cases h; simp
  | 13, _, h => cases h; simp
  | 14, _, h => cases h; simp
  | 15, _, h => cases h; simp
  | 16, _, h => cases h; simp
  | 17, _, h => cases h; simp
  | 18, _, h => cases h; simp
  | 19, _, h => cases h; simp
  | 20, _, h => cases h; simp
  | 21, _, h => cases h; simp
  | 22, _, h => cases h; simp
  | 23, _, h => cases h; simp
  | 24, _, h => cases h; simp
  | 25, _, h => cases h; simp
/-- What stands before a token, as the law goes on. -/
def Left (T : List Tok) (l : List UInt8) (q a : Nat) : Prop :=
  ∃ n tl, l.length - a ≤ n ∧ T.drop q = mkToks n a (l.drop a) ++ tl ∧ (∀ t ∈ tl, t.kind = 6 ∨ t.num = 1) ∧ a ≤ l.length ∧ good (l.drop a) = true
theorem Left.start {l : List UInt8} {tl : List Tok} (h : good l = true) (ht : ∀ t ∈ tl, t.kind = 6 ∨ t.num = 1) : Left (mkToks l.length 0 l ++ tl) l 0 0 :=
  ⟨l.length, tl, by omega, rfl, ht, Nat.zero_le _, h⟩
theorem Left.step {T : List Tok} {l : List UInt8} {q a : Nat} (h : Left T l q a) (hq : q < T.length) :
    (∃ t, T[q]? = some t ∧ (t.kind = 6 ∨ t.num = 1) ∧ Left T l (q + 1) a) ∨
    ∃ n, n = gLen (l.drop a) ∧ T[q]? = some ⟨5, (l.drop a).take n, 0, a⟩ ∧ a + n ≤ l.length ∧ Left T l (q + 1) (a + n) := by
  obtain ⟨n, tl, hn, hT, htl, ha, hg⟩ := h
  have h0 : T[q]? = (T.drop q)[0]? := by rw [List.getElem?_drop]; rfl
  have h1 : T.drop (q + 1) = (T.drop q).drop 1 := by rw [List.drop_drop]
  cases hd : l.drop a with
  | nil =>
    have hm : mkToks n a (l.drop a) = [] := by rw [hd]; cases n <;> rfl
    rw [hm, List.nil_append] at hT
    cases tl with
    | nil => have := congrArg List.length hT; rw [List.length_drop] at this; simp at this; omega
    | cons t tl =>
      refine .inl ⟨t, by rw [h0, hT]; rfl, htl t (by simp), n, tl, hn, ?_, fun u hu => htl u (by simp [hu]), ha, hg⟩
      rw [h1, hT, hm]; rfl
  | cons c r =>
    have hlen := congrArg List.length hd
    rw [List.length_drop] at hlen
    simp only [List.length_cons] at hlen
    obtain ⟨m, rfl⟩ : ∃ m, n = m + 1 := ⟨n - 1, by omega⟩
    rw [hd, mkToks] at hT
    rw [hd] at hg
    have hgl := gLen_le c r
    have hgp := gLen_pos (c :: r)
    simp only [List.length_cons] at hgl
    refine .inr ⟨_, rfl, by rw [h0, hT]; rfl, by omega, m, tl, by omega, ?_, htl, by omega, ?_⟩
    · rw [h1, hT, ← List.drop_drop, hd]; rfl
    · rw [← List.drop_drop, hd]; exact good_drop c r hg
theorem Left.done {T : List Tok} {l : List UInt8} {q a : Nat} (h : Left T l q a) (hq : T.length ≤ q) : a = l.length := by
  obtain ⟨n, tl, hn, hT, htl, ha, hg⟩ := h
  rw [List.drop_eq_nil_of_le hq] at hT
  cases hd : l.drop a with
  | nil => have : l.length ≤ a := by simpa using hd
           omega
  | cons c r =>
    have hlen := congrArg List.length hd
    rw [List.length_drop] at hlen
    simp only [List.length_cons] at hlen
    obtain ⟨m, rfl⟩ : ∃ m, n = m + 1 := ⟨n - 1, by omega⟩
    rw [hd, mkToks] at hT
    simp at hT
theorem mkToks_len : ∀ (n k : Nat) (t : List UInt8), (mkToks n k t).length ≤ n
  | 0, _, _ => Nat.le_refl _
  | _ + 1, _, [] => Nat.zero_le _
  | n + 1, k, c :: r => by rw [mkToks, List.length_cons]; have := mkToks_len n (k + gLen (c :: r)) ((c :: r).drop (gLen (c :: r))); omega
/-- How long the mark is, by the first pairs alone. -/
def pairN (j : Nat) (t : List UInt8) : Int := if (pairList.take j).contains t then 2 else 1
theorem pairN_eq {j : Nat} {t p : List UInt8} (hp : pairList[j]? = some p) (h : t = p) : pairN (j + 1) t = 2 := by
  unfold pairN
  rw [List.take_add_one, hp]
  rw [if_pos (by simp [h])]
theorem pairN_ne {j : Nat} {t p : List UInt8} (hp : pairList[j]? = some p) (h : t ≠ p) : pairN (j + 1) t = pairN j t := by
  unfold pairN
  rw [List.take_add_one, hp]
  have : ((pairList.take j ++ (some p).toList).contains t) = (pairList.take j).contains t := by
    rw [Bool.eq_iff_iff]; simp [h]
  rw [this]
theorem pairN_all (t : List UInt8) : pairN 13 t = (if isPr t = true then 2 else 1) := rfl
theorem marks_pair {j : Nat} (h : j < 13) : ∃ p, pairList[j]? = some p ∧ marksL[j]? = some p := by
  match j, h with
  | 0, _ => exact ⟨_, rfl, rfl⟩
  | 1, _ => exact ⟨_, rfl, rfl⟩
  | 2, _ => exact ⟨_, rfl, rfl⟩
  | 3, _ => exact ⟨_, rfl, rfl⟩
  | 4, _ => exact ⟨_, rfl, rfl⟩
  | 5, _ => exact ⟨_, rfl, rfl⟩
  | 6, _ => exact ⟨_, rfl, rfl⟩
  | 7, _ => exact ⟨_, rfl, rfl⟩
  | 8, _ => exact ⟨_, rfl, rfl⟩
  | 9, _ => exact ⟨_, rfl, rfl⟩
  | 10, _ => exact ⟨_, rfl, rfl⟩
  | 11, _ => exact ⟨_, rfl, rfl⟩
  | 12, _ => exact ⟨_, rfl, rfl⟩
end Go.Proofs.YteoongjimggbgabDoor
