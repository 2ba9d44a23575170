import Derived.Test.YtgckmkiiheaeaaaGreatDoorScanP
namespace Go.Proofs.YtgckmkiiheaeaaaGreatDoor.Lx
theorem re_gt (p : UInt8 → Bool) (l : List UInt8) (k : Nat) (c : UInt8) (h : l[k]? = some c) (hp : p c = true) : k < runEnd p l k := by
 rw [← re_step p l k c h hp]
 have := re_ge p l (k + 1)
 omega
theorem txt_le : ∀ (n : Nat) (t : List UInt8), t.length ≤ n → (txt t).2 ≤ t.length
 | 0, t, h => by
   have : t = [] := List.eq_nil_of_length_eq_zero (by omega)
   subst this; simp [txt]
 | n + 1, t, h => by
   cases t with
   | nil => simp [txt]
   | cons c r =>
     by_cases h1 : c = 34
     ·subst h1; rw [txt_quote]; simp
     ·by_cases h2 : c = 92
      ·subst h2
       cases r with
       | nil => rw [txt_bad [] (fun d r' hr => by cases hr)]; simp
       | cons d r' =>
         cases he : escC d with
         | none => rw [txt_bad (d :: r') (fun d' q hr => by cases hr; exact he)]; simp
         | some x =>
           rw [txt_esc d x r' he]
           have := txt_le n r' (by simp at h; omega)
           simp; omega
      ·cases hp : isPln c with
       | true =>
         rw [txt_plain c r hp]
         have := txt_le n r (by simp at h; omega)
         simp; omega
       | false => rw [txt_stop c r hp h1 h2]; simp
theorem mlen_le2 (l : List UInt8) : mLen l ≤ l.length := by
 unfold mLen
 split
 ·omega
 ·rename_i c r
  split
  ·split
   ·rename_i h
    have : ((c :: r).take 2).length = 2 := by
     simp [isPr, pairList] at h
     rcases h with h | h | h | h | h | h | h | h | h | h | h | h | h <;> simp [h]
    rw [List.length_take] at this
    omega
   ·split <;> simp
  ·split <;> simp
theorem endT_len (ts : List Tok) (k : Int) : (endT ts k).length ≤ ts.length + 1 := by
 unfold endT
 split
 ·split <;> simp
 ·omega
theorem partF_prog (l : List UInt8) (k : Nat) (ts : List Tok) (hk : k < l.length) (k' : Nat) (ts' : List Tok) (h : partF l k ts = .inr (k', ts')) : k < k' ∧ k' ≤ l.length ∧ ts'.length ≤ ts.length + 1 := by
 have hc : l[k]? = some l[k] := List.getElem?_eq_getElem hk
 generalize l[k] = c at hc
 unfold partF at h
 rw [hc] at h
 simp only at h
 split at h
 ·cases h; exact ⟨by omega, by omega, by omega⟩
 ·split at h
  ·cases h; exact ⟨by omega, by omega, endT_len _ _⟩
  ·rename_i h10
   split at h
   ·cases h
    refine ⟨re_gt _ l k c hc ?_, re_le _ l k (by omega), by omega⟩
    have : ¬ (c.toNat : Int) = 10 := fun e => h10 (UInt8.toNat_inj.1 (by simpa using Int.ofNat.inj e))
    simp only [notNl, decide_eq_false this, Bool.not_false]
   ·split at h
    ·rename_i hl
     unfold nameF at h
     split at h
     ·cases h
     ·cases h
      exact ⟨re_gt _ l k c hc (by simp [isNam, hl]), re_le _ l k (by omega), by simp⟩
    ·split at h
     ·rename_i hd
      unfold numF at h
      split at h
      ·cases h
      ·split at h
       ·cases h
       ·cases h
        exact ⟨re_gt _ l k c hc hd, re_le _ l k (by omega), by simp⟩
     ·split at h
      ·unfold textF at h
       have hle := txt_le _ (l.drop (k + 1)) (Nat.le_refl _)
       rw [List.length_drop] at hle
       split at h
       ·cases h
       ·rename_i m n hx
        rw [hx] at hle
        simp only at hle
        split at h
        ·cases h
        ·cases h
         exact ⟨by omega, by omega, by simp⟩
      ·unfold markF at h
       have hle := mlen_le2 (l.drop k)
       rw [List.length_drop] at hle
       split at h
       ·cases h
       ·cases h
        exact ⟨by omega, by omega, by simp⟩
def scanF : Nat → List UInt8 → Nat → List Tok → Sum Nat (List Tok)
 | 0, _, _, ts => .inr ts
 | f + 1, l, k, ts =>
   if k < l.length then
    match partF l k ts with
    | .inl p => .inl p
    | .inr q => scanF f l q.1 q.2
   else .inr ts
def scanAll (l : List UInt8) (k : Nat) (ts : List Tok) : Sum Nat (List Tok) := scanF (l.length + 1 - k) l k ts
theorem scanF_fuel : ∀ (f g : Nat) (l : List UInt8) (k : Nat) (ts : List Tok), l.length - k ≤ f → l.length - k ≤ g → scanF f l k ts = scanF g l k ts
 | 0, 0, _, _, _, _, _ => rfl
 | 0, g + 1, l, k, ts, h, _ => by rw [scanF, scanF, if_neg (by omega)]
 | f + 1, 0, l, k, ts, _, h => by rw [scanF, scanF, if_neg (by omega)]
 | f + 1, g + 1, l, k, ts, hf, hg => by
   rw [scanF, scanF]
   by_cases hk : k < l.length
   ·rw [if_pos hk, if_pos hk]
    cases hp : partF l k ts with
    | inl p => rfl
    | inr q =>
      obtain ⟨h1, h2, _⟩ := partF_prog l k ts hk q.1 q.2 hp
      exact scanF_fuel f g l q.1 q.2 (by omega) (by omega)
   ·rw [if_neg hk, if_neg hk]
theorem scanAll_end (l : List UInt8) (k : Nat) (ts : List Tok) (h : l.length ≤ k) : scanAll l k ts = .inr ts := by
 unfold scanAll
 rw [scanF_fuel _ 0 l k ts (by omega) (by omega), scanF]
theorem scanAll_inl (l : List UInt8) (k : Nat) (ts : List Tok) (p : Nat) (h : k < l.length) (hp : partF l k ts = .inl p) : scanAll l k ts = .inl p := by
 unfold scanAll
 rw [scanF_fuel _ (l.length - k + 1) l k ts (by omega) (by omega), scanF, if_pos h, hp]
theorem scanAll_inr (l : List UInt8) (k : Nat) (ts : List Tok) (k' : Nat) (ts' : List Tok) (h : k < l.length) (hp : partF l k ts = .inr (k', ts')) : scanAll l k ts = scanAll l k' ts' := by
 obtain ⟨h1, h2, _⟩ := partF_prog l k ts h k' ts' hp
 unfold scanAll
 rw [scanF_fuel _ (l.length - k + 1) l k ts (by omega) (by omega), scanF, if_pos h, hp]
 exact scanF_fuel _ _ l k' ts' (by omega) (by omega)
end Go.Proofs.YtgckmkiiheaeaaaGreatDoor.Lx
