/- Where tokens stand: within the source. -/
import Derived.Test.YteoongjimggbgaaDoorJoinP
namespace Go.Proofs.YteoongjimggbgaaDoor.Lx

def PosIn (n : Nat) (ts : List Tok) : Prop := ∀ t ∈ ts, 0 ≤ t.pos ∧ t.pos ≤ (n : Int)
theorem PosIn.snoc {n : Nat} {ts : List Tok} (h : PosIn n ts) (t : Tok) (h0 : 0 ≤ t.pos) (h1 : t.pos ≤ (n : Int)) : PosIn n (ts ++ [t]) := fun u hu => by
  rcases List.mem_append.1 hu with hu | hu
  · exact h u hu
  · rw [List.mem_singleton.1 hu]; exact ⟨h0, h1⟩
theorem PosIn.endT {n : Nat} {ts : List Tok} (h : PosIn n ts) (k : Nat) (hk : k ≤ n) : PosIn n (endT ts k) := by
  unfold Lx.endT
  split
  · split
    · exact h.snoc _ (by simp) (by simp; omega)
    · exact h
  · exact h
theorem part_pos (l : List UInt8) (k : Nat) (ts : List Tok) (hk : k < l.length) (hp : PosIn l.length ts) (q : Nat × List Tok) (h : partF l k ts = .inr q) : PosIn l.length q.2 := by
  have hc : l[k]? = some l[k] := List.getElem?_eq_getElem hk
  generalize l[k] = c at hc
  unfold partF at h
  rw [hc] at h
  simp only at h
  split at h
  · cases h; exact hp
  · split at h
    · cases h; exact hp.endT k (by omega)
    · split at h
      · cases h; exact hp
      · split at h
        · unfold nameF at h
          split at h
          · cases h
          · cases h; exact hp.snoc _ (by simp) (by simp; omega)
        · split at h
          · unfold numF at h
            split at h
            · cases h
            · split at h
              · cases h
              · cases h; exact hp.snoc _ (by simp) (by simp; omega)
          · split at h
            · unfold textF at h
              split at h
              · cases h
              · split at h
                · cases h
                · cases h; exact hp.snoc _ (by simp) (by simp; omega)
            · unfold markF at h
              split at h
              · cases h
              · cases h; exact hp.snoc _ (by simp) (by simp; omega)
theorem scan_pos : ∀ (f : Nat) (l : List UInt8) (k : Nat) (ts r : List Tok), PosIn l.length ts → scanF f l k ts = .inr r → PosIn l.length r
  | 0, l, k, ts, r, h, hs => by rw [scanF] at hs; cases hs; exact h
  | f + 1, l, k, ts, r, h, hs => by
    rw [scanF] at hs
    by_cases hlt : k < l.length
    · rw [if_pos hlt] at hs
      cases hp : partF l k ts with
      | inl p => rw [hp] at hs; cases hs
      | inr q =>
        rw [hp] at hs
        exact scan_pos f l q.1 q.2 r (part_pos l k ts hlt h q hp) hs
    · rw [if_neg hlt] at hs; cases hs; exact h
theorem lex_pos (l : List UInt8) (hl : l.length ≤ 8192) (tk : List Tok) (p : Int) (h : lexR l = (tk, 0, p)) : PosIn l.length tk := by
  obtain ⟨ta, sa, rfl, _⟩ := lex_zero l hl tk p h
  have := scan_pos _ l 0 [] ta (fun t ht => by simp at ht) sa
  exact (this.endT l.length (Nat.le_refl _)).snoc _ (by simp) (by simp)
end Go.Proofs.YteoongjimggbgaaDoor.Lx
