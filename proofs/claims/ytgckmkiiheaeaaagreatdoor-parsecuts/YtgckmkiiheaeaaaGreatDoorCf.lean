/- ParseCuts, plainly. -/
import Derived.Test.YtgckmkiiheaeaaaGreatDoorCc
import Derived.Test.YtgckmkiiheaeaaaGreatDoorCd
import Derived.Test.YtgckmkiiheaeaaaGreatDoorQe
set_option linter.unusedVariables false
set_option linter.unusedSimpArgs false
set_option maxRecDepth 100000
namespace Go.Proofs.YtgckmkiiheaeaaaGreatDoor.Px
open Go.Proofs.YtgckmkiiheaeaaaGreatDoor.Lx Go.Proofs.YtgckmkiiheaeaaaGreatDoor.Lx.Sp
theorem lex_inv (l : List UInt8) (L : List Tok) (p : Int) (h : lexR l = (L, 0, p)) : ∃ T, scanD (l.length + 1) l 0 none = .inr T ∧ L = T ++ (endD T.getLast? (l.length : Int) ++ [⟨6, [], 0, l.length⟩]) := by
  rw [lex_D] at h
  unfold lexD at h
  split at h
  · simp at h
  cases hs : scanD (l.length + 1) l 0 none with
  | inl p => rw [hs] at h; simp at h
  | inr T =>
    rw [hs] at h
    simp only at h
    split at h
    · simp at h
    · simp only [Prod.mk.injEq] at h
      refine ⟨T, rfl, ?_⟩
      rw [← h.1, allP, endD_eq, List.append_assoc]
theorem endD_pos {last : Option Tok} {k : Int} : ∀ t ∈ endD last k, t.pos = k := by
  intro t ht
  unfold endD at ht
  split at ht
  · split at ht
    · simp at ht; rw [ht]
    · simp at ht
  · simp at ht
theorem tok_get {L : List Tok} {i : Nat} {t : Tok} (h : L[i]? = some t) : tok L i = t := by
  unfold tok; rw [List.getD_eq_getElem?_getD, h]; rfl
theorem cuts_pure (l more : List UInt8) (L L' : List Tok) (p0 p1 p : Int) (i e : Nat) (t : Tok) (hL : lexR l = (L, 0, p0)) (hr : runF L = .bad p) (hi : L[i]? = some t) (hp : t.pos = p)
    (hn : ∀ t2, L[i + 1]? = some t2 → t2.pos ≠ p ∧ t2.pos = (e : Int)) (he : L[i + 1]? = none → e = l.length) (hL' : lexR (l.take e ++ 10 :: more) = (L', 0, p1)) (hq : L'[i]? = some t) : runF L' = .bad p := by
  obtain ⟨T, hT, eL⟩ := lex_inv l L p0 hL
  obtain ⟨T', hT', eL'⟩ := lex_inv _ L' p1 hL'
  obtain ⟨s1, s2⟩ := scan_pos _ _ _ _ _ hT
  have sorted : L.Pairwise (fun x y => x.pos ≤ y.pos) := by
    rw [eL]
    refine List.pairwise_append.2 ⟨s2, ?_, fun x hx y hy => ?_⟩
    · refine List.pairwise_append.2 ⟨?_, by simp, fun x hx y hy => by simp at hy; rw [endD_pos x hx, hy]; exact Int.le_refl _⟩
      unfold endD
      split
      · split <;> simp
      · simp
    · have h1 := (s1 x hx).2
      have h2 : y.pos = (l.length : Int) := by
        rcases List.mem_append.1 hy with g | g
        · exact endD_pos y g
        · simp at g; rw [g]
      omega
  rw [List.pairwise_iff_getElem] at sorted
  have hiL : i < L.length := by
    rcases Nat.lt_or_ge i L.length with g | g
    · exact g
    · rw [List.getElem?_eq_none g] at hi; cases hi
  have ti : L[i] = t := by rw [List.getElem?_eq_getElem hiL] at hi; exact Option.some.inj hi
  have hN : 0 < L.length := by omega
  have E : Ends L L.length := by
    refine ⟨rfl, ?_, ?_⟩
    all_goals
      have h1 : L[L.length - 1]? = some ⟨6, [], 0, l.length⟩ := by
        rw [← List.getLast?_eq_getElem?, eL, ← List.append_assoc, List.getLast?_append]; rfl
      rw [tok_get h1]
  have far : ∀ j, i + 1 ≤ j → j < L.length → (tok L j).pos ≠ p := by
    intro j h1 h2
    have hj : L[j]? = some L[j] := List.getElem?_eq_getElem h2
    have h3 : i + 1 < L.length := by omega
    obtain ⟨g1, g2⟩ := hn L[i + 1] (List.getElem?_eq_getElem h3)
    rw [tok_get hj]
    have h4 : L[i].pos ≤ L[i + 1].pos := sorted i (i + 1) hiL h3 (by omega)
    rw [ti, hp] at h4
    rcases Nat.lt_or_ge (i + 1) j with g | g
    · have := sorted (i + 1) j h3 h2 g; omega
    · obtain rfl : j = i + 1 := by omega
      omega
  have agr : Agr L L' (i + 1) := by
    intro j hj
    rcases Nat.lt_or_ge j i with hji | hji
    · have key : L'.take i = L.take i := by
        rcases Nat.lt_or_ge i T.length with hiT | hiT
        · have hTi : T[i]? = some t := by rw [eL, List.getElem?_append_left hiT] at hi; exact hi
          have hpe : t.pos ≤ (0 : Nat) + (e : Int) := by
            rcases Nat.lt_or_ge (i + 1) L.length with h3 | h3
            · have h4 : L[i].pos ≤ L[i + 1].pos := sorted i (i + 1) hiL h3 (by omega)
              have := (hn L[i + 1] (List.getElem?_eq_getElem h3)).2
              rw [ti] at h4; omega
            · have h5 := he (List.getElem?_eq_none h3)
              have := (s1 t (List.mem_of_getElem? hTi)).2
              omega
          have ht := scan_cut more _ _ _ _ _ hT i t hTi e hpe _ T' (by omega) hT'
          have hl : i ≤ T'.length := by
            have := congrArg List.length ht
            rw [List.length_take, List.length_take] at this; omega
          rw [eL', eL, List.take_append_of_le_length hl, List.take_append_of_le_length (by omega), ht]
        · have h3 : L[i + 1]? = none := by
            cases hx : L[i + 1]? with
            | none => rfl
            | some t2 =>
              exfalso
              obtain ⟨g1, g2⟩ := hn t2 hx
              have a1 : t.pos = (l.length : Int) := by
                rw [eL, List.getElem?_append_right hiT] at hi
                rcases List.mem_append.1 (List.mem_of_getElem? hi) with g | g
                · exact endD_pos t g
                · simp at g; rw [g]
              have a2 : t2.pos = (l.length : Int) := by
                rw [eL, List.getElem?_append_right (by omega)] at hx
                rcases List.mem_append.1 (List.mem_of_getElem? hx) with g | g
                · exact endD_pos t2 g
                · simp at g; rw [g]
              omega
          obtain rfl := he h3
          rw [List.take_length] at hT' eL'
          obtain ⟨x, rfl⟩ := scan_all more _ _ _ _ _ (by omega) hT _ T' (by omega) hT'
          have hLl : L.length = T.length + ((endD T.getLast? (l.length : Int)).length + 1) := by rw [eL]; simp
          have hil : i + 1 = L.length := by
            have := List.getElem?_eq_none_iff.1 h3
            omega
          have e1 : (T.getLast?.or none) = T.getLast? := by cases T.getLast? <;> rfl
          have e2 : ((0 + l.length : Nat) : Int) = (l.length : Int) := by omega
          rw [e1, e2] at eL'
          have hi2 : i = (T ++ endD T.getLast? (l.length : Int)).length := by rw [List.length_append]; omega
          have f1 : L = (T ++ endD T.getLast? (l.length : Int)) ++ [⟨6, [], 0, l.length⟩] := by rw [eL, List.append_assoc]
          have f2 : ∃ y, L' = (T ++ endD T.getLast? (l.length : Int)) ++ y := ⟨_, by rw [eL']; simp only [List.append_assoc]; rfl⟩
          obtain ⟨y, f2⟩ := f2
          rw [f2, hi2, List.take_append_of_le_length (Nat.le_refl _)]
          conv => rhs; rw [f1]
          rw [List.take_append_of_le_length (Nat.le_refl _)]
      have k1 : L'[j]? = L[j]? := by
        have := congrArg (fun x => x[j]?) key
        simpa [List.getElem?_take, hji] using this
      unfold tok
      rw [List.getD_eq_getElem?_getD, List.getD_eq_getElem?_getD, k1]
    · obtain rfl : j = i := by omega
      rw [tok_get hi, tok_get hq]
  exact bad_cut E hN agr hr (file_live _ _) far
end Go.Proofs.YtgckmkiiheaeaaaGreatDoor.Px
