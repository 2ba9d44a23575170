import Derived.Test.YtheknbfbneghgaaGreatDoorTxtP
set_option maxRecDepth 100000
namespace Go.Proofs.YtheknbfbneghgaaGreatDoor.Lx
def endT (ts : List Tok) (k : Int) : List Tok :=
 match ts.getLast? with
 | some t => if tokEnds t.kind t.text then ts ++ [⟨5, [59], 1, k⟩] else ts
 | none => ts
def nmK (t : List UInt8) : Int := if isWd t = true then 4 else 1
def nameF (l : List UInt8) (k : Nat) (ts : List Tok) : Sum Nat (Nat × List Tok) :=
 if 24 < yL isNam l k - k then .inl k else .inr (yL isNam l k, ts ++ [⟨nmK (sub l k (yL isNam l k)), sub l k (yL isNam l k), 0, k⟩])
def letAt (l : List UInt8) (k : Nat) : Bool := match l[k]? with | some c => isLet c | none => false
def numBad (t : List UInt8) : Bool := decide (18 < t.length) || (decide (1 < t.length) && t.head? == some 48)
def numF (l : List UInt8) (k : Nat) (ts : List Tok) : Sum Nat (Nat × List Tok) :=
 if numBad (sub l k (yL isDig l k)) = true then .inl k
 else if letAt l (yL isDig l k) = true then .inl (yL isDig l k)
 else .inr (yL isDig l k, ts ++ [⟨2, sub l k (yL isDig l k), numV (sub l k (yL isDig l k)), k⟩])
def textF (l : List UInt8) (k : Nat) (ts : List Tok) : Sum Nat (Nat × List Tok) :=
 match txt (l.drop (k + 1)) with
 | (none, n) => .inl (k + 1 + n)
 | (some m, n) => if 256 < m.length then .inl k else .inr (k + 1 + n, ts ++ [⟨3, m, 0, k⟩])
def markF (l : List UInt8) (k : Nat) (ts : List Tok) : Sum Nat (Nat × List Tok) :=
 if mLen (l.drop k) = 0 then .inl k else .inr (k + mLen (l.drop k), ts ++ [⟨5, sub l k (k + mLen (l.drop k)), 0, k⟩])
def partF (l : List UInt8) (k : Nat) (ts : List Tok) : Sum Nat (Nat × List Tok) :=
 match l[k]? with
 | none => .inl 0
 | some c =>
   if c = 32 ∨ c = 9 then .inr (k + 1, ts)
   else if c = 10 then .inr (k + 1, endT ts k)
   else if cmt l k = true then .inr (yL notNl l k, ts)
   else if isLet c = true then nameF l k ts
   else if isDig c = true then numF l k ts
   else if c = 34 then textF l k ts
   else markF l k ts
theorem re_gt (p : UInt8 → Bool) (l : List UInt8) (k : Nat) (c : UInt8) (h : l[k]? = some c) (hp : p c = true) : k < yL p l k := by
 rw [← re_step p l k c h hp]
 have := re_ge p l (k + 1)
 omega
theorem txt_le : ∀ (n : Nat) (t : List UInt8), t.length ≤ n → (txt t).2 ≤ t.length
 | 0, t, h => by
   have : t = [] := List.eq_nil_of_length_eq_zero om
   subst this; simp [txt]
 | n + 1, t, h => by
   cases t with
   | nil => simp [txt]
   | cons c r =>
     by_cases h1 : c = 34
     ·subst h1; rw [txt_quote]; simp
     ·by_cases h2 : c = 92
      ·subst h2
       cases r with
       | nil => rw [txt_bad [] (fun d r' hr => by cases hr)]; simp
       | cons d r' =>
         cases he : escC d with
         | none => rw [txt_bad (d :: r') (fun d' q hr => by cases hr; exact he)]; simp
         | some x =>
           rw [txt_esc d x r' he]
           have := txt_le n r' (by simp at h; omega)
           simp; omega
      ·cases hp : isPln c with
       | true =>
         rw [txt_plain c r hp]
         have := txt_le n r (by simp at h; omega)
         simp; omega
       | false => rw [txt_stop c r hp h1 h2]; simp
theorem mlen_le2 (l : List UInt8) : mLen l ≤ l.length := by
 unfold mLen
 split
 ·omega
 ·rename_i c r
  split
  ·split
   ·rename_i h
    have : ((c :: r).take 2).length = 2 := by
     simp [isPr, pairList] at h
     rcases h with h | h | h | h | h | h | h | h | h | h | h | h | h <;> simp [h]
    rw [List.length_take] at this
    omega
   ·split <;> simp
  ·split <;> simp
theorem endT_len (ts : List Tok) (k : Int) : (endT ts k).length ≤ ts.length + 1 := by
 unfold endT
 split
 ·split <;> simp
 ·omega
theorem partF_prog (l : List UInt8) (k : Nat) (ts : List Tok) (hk : k < l.length) (k' : Nat) (ts' : List Tok) (h : partF l k ts = .inr (k', ts')) : k < k' ∧ k' ≤ l.length ∧ ts'.length ≤ ts.length + 1 := by
 have hc : l[k]? = some l[k] := List.getElem?_eq_getElem hk
 generalize l[k] = c at hc
 unfold partF at h
 rw [hc] at h
 simp only at h
 split at h
 ·cases h; exact ⟨om, om, om⟩
 ·split at h
  ·cases h; exact ⟨om, om, endT_len _ _⟩
  ·rename_i h10
   split at h
   ·cases h
    refine ⟨re_gt _ l k c hc ?_, re_le _ l k om, om⟩
    have : ¬ (c.toNat : Int) = 10 := fun e => h10 (UInt8.toNat_inj.1 (by simpa using Int.ofNat.inj e))
    simp only [notNl, decide_eq_false this, Bool.not_false]
   ·split at h
    ·rename_i hl
     unfold nameF at h
     split at h
     ·cases h
     ·cases h
      exact ⟨re_gt _ l k c hc (by simp [isNam, hl]), re_le _ l k om, by simp⟩
    ·split at h
     ·rename_i hd
      unfold numF at h
      split at h
      ·cases h
      ·split at h
       ·cases h
       ·cases h
        exact ⟨re_gt _ l k c hc hd, re_le _ l k om, by simp⟩
     ·split at h
      ·unfold textF at h
       have hle := txt_le _ (l.drop (k + 1)) lr
       rw [List.length_drop] at hle
       split at h
       ·cases h
       ·rename_i m n hx
        rw [hx] at hle
        simp only at hle
        split at h
        ·cases h
        ·cases h
         exact ⟨om, om, by simp⟩
      ·unfold markF at h
       have hle := mlen_le2 (l.drop k)
       rw [List.length_drop] at hle
       split at h
       ·cases h
       ·cases h
        exact ⟨om, om, by simp⟩
def scanF : Nat → List UInt8 → Nat → List Tok → Sum Nat (List Tok)
 | 0, _, _, ts => .inr ts
 | f + 1, l, k, ts =>
   if k < l.length then
    match partF l k ts with
    | .inl p => .inl p
    | .inr q => scanF f l q.1 q.2
   else .inr ts
def scanAll (l : List UInt8) (k : Nat) (ts : List Tok) : Sum Nat (List Tok) := scanF (l.length + 1 - k) l k ts
theorem scanF_fuel : ∀ (f g : Nat) (l : List UInt8) (k : Nat) (ts : List Tok), l.length - k ≤ f → l.length - k ≤ g → scanF f l k ts = scanF g l k ts
 | 0, 0, _, _, _, _, _ => rfl
 | 0, g + 1, l, k, ts, h, _ => by rw [scanF, scanF, if_neg om]
 | f + 1, 0, l, k, ts, _, h => by rw [scanF, scanF, if_neg om]
 | f + 1, g + 1, l, k, ts, hf, hg => by
   rw [scanF, scanF]
   by_cases hk : k < l.length
   ·rw [if_pos hk, if_pos hk]
    cases hp : partF l k ts with
    | inl p => rfl
    | inr q =>
      obtain ⟨h1, h2, _⟩ := partF_prog l k ts hk q.1 q.2 hp
      exact scanF_fuel f g l q.1 q.2 om om
   ·rw [if_neg hk, if_neg hk]
theorem scanAll_end (l : List UInt8) (k : Nat) (ts : List Tok) (h : l.length ≤ k) : scanAll l k ts = .inr ts := by
 unfold scanAll
 rw [scanF_fuel _ 0 l k ts om om, scanF]
theorem scanAll_inl (l : List UInt8) (k : Nat) (ts : List Tok) (p : Nat) (h : k < l.length) (hp : partF l k ts = .inl p) : scanAll l k ts = .inl p := by
 unfold scanAll
 rw [scanF_fuel _ (l.length - k + 1) l k ts om om, scanF, if_pos h, hp]
theorem scanAll_inr (l : List UInt8) (k : Nat) (ts : List Tok) (k' : Nat) (ts' : List Tok) (h : k < l.length) (hp : partF l k ts = .inr (k', ts')) : scanAll l k ts = scanAll l k' ts' := by
 obtain ⟨h1, h2, _⟩ := partF_prog l k ts h k' ts' hp
 unfold scanAll
 rw [scanF_fuel _ (l.length - k + 1) l k ts om om, scanF, if_pos h, hp]
 exact scanF_fuel _ _ l k' ts' om om
def opens (t : List UInt8) : Bool := t == [40] || t == [91] || t == [123]
def closes (t : List UInt8) : Bool := t == [41] || t == [93] || t == [125]
def openAft (o : Int) (t : Tok) : Int := if t.kind = 5 then (if opens t.text = true then o + 1 else if closes t.text = true then max (o - 1) 0 else o) else o
def deepF : Int → List Tok → Option Int
 | _, [] => none
 | o, t :: r => if t.kind = 5 ∧ 40 < openAft o t then some t.pos else deepF (openAft o t) r
def allP (ts : List Tok) (n : Nat) : List Tok := endT ts n ++ [⟨6, [], 0, n⟩]
def lexR (l : List UInt8) : List Tok × Int × Int :=
 if 8192 < l.length then ([], 1, 8192)
 else match scanAll l 0 [] with
  | .inl p => ([], 2, (p : Int))
  | .inr ts =>
    match deepF 0 (allP ts l.length) with
    | some a => ([], 3, a)
    | none => (allP ts l.length, 0, 0)
theorem lexR_big (l : List UInt8) (h : 8192 < l.length) : lexR l = ([], 1, 8192) := if_pos h
theorem lexR_bad (l : List UInt8) (h : l.length ≤ 8192) (p : Nat) (hs : scanAll l 0 [] = .inl p) : lexR l = ([], 2, (p : Int)) := by
 unfold lexR; rw [if_neg om, hs]
theorem lexR_deep (l : List UInt8) (h : l.length ≤ 8192) (ts : List Tok) (hs : scanAll l 0 [] = .inr ts) (a : Int) (hd : deepF 0 (allP ts l.length) = some a) : lexR l = ([], 3, a) := by
 unfold lexR; rw [if_neg om, hs]; simp only [hd]
theorem lexR_ok (l : List UInt8) (h : l.length ≤ 8192) (ts : List Tok) (hs : scanAll l 0 [] = .inr ts) (hd : deepF 0 (allP ts l.length) = none) : lexR l = (allP ts l.length, 0, 0) := by
 unfold lexR; rw [if_neg om, hs]; simp only [hd]
end Go.Proofs.YtheknbfbneghgaaGreatDoor.Lx
