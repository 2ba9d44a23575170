/- A node's text as a type, plainly. -/
import Derived.Test.YtpmpjbnnjdpbnaaDoorTm
set_option linter.unusedVariables false
set_option linter.unusedSimpArgs false
namespace Go.Proofs.YtpmpjbnnjdpbnaaDoor
open Go.RowKit Go.Proofs.YtpmpjbnnjdpbnaaDoor.Lx

/-- Texts with commas between, the first so many of them. -/
def pt (l : List (List UInt8)) : Nat → List UInt8
  | 0 => []
  | j + 1 => pt l j ++ ((if j = 0 then [] else [44]) ++ l.getD j [])
def form (kd : Int) (tx : List UInt8) (l : List (List UInt8)) : List UInt8 :=
  if kd = 9 then [105, 110, 116] else if kd = 10 then [98, 111, 111, 108] else if kd = 11 then [115, 116, 114, 105, 110, 103] else if kd = 12 then [42] ++ tx else if kd = 13 then [91, 93] ++ l.getD 0 [] else if kd = 14 then [99, 104, 97, 110, 32] ++ l.getD 0 []
  else if kd = 15 then [102, 117, 110, 99, 40] ++ pt l (l.length - 1) ++ [41] ++ l.getD (l.length - 1) [] else []
def ofT : Nat → Tr → List UInt8
  | 0, _ => []
  | n + 1, .mk kd tx _ _ _ _ kids => form kd tx.toList (kids.map (ofT n))
theorem getD_map {n j : Nat} {kids : List Tr} {t : Tr} (e : kids[j]? = some t) : (kids.map (ofT n)).getD j [] = ofT n t := by
  simp [List.getD, e]
theorem getD_none {n j : Nat} {kids : List Tr} (h : kids.length ≤ j) : (kids.map (ofT n)).getD j [] = [] := by
  simp [List.getD, List.getElem?_eq_none h]
theorem pt_len (n : Nat) (kids : List Tr) (ih : ∀ t, (ofT n t).length + 1 ≤ wt n t) : ∀ j, j ≤ kids.length → (pt (kids.map (ofT n)) j).length ≤ ((kids.take j).map (wt n)).sum := by
  intro j
  induction j with
  | zero => intro _; simp [pt]
  | succ j ihj =>
    intro hj
    have h1 := ihj (by omega)
    have hlt : j < kids.length := by omega
    have e := List.getElem?_eq_getElem hlt
    rw [pt, getD_map e, List.take_add_one, e, List.map_append, List.sum_append]
    have h2 := ih kids[j]
    simp only [List.length_append, Option.toList, List.map_cons, List.map_nil, List.sum_cons, List.sum_nil]
    split
    · simp only [List.length_nil]; omega
    · simp only [List.length_cons, List.length_nil]; omega
theorem ofT_len : ∀ (n : Nat) (t : Tr), (ofT n t).length + 1 ≤ wt n t := by
  intro n
  induction n with
  | zero => intro t; simp [ofT, wt]
  | succ n ih =>
    intro t
    cases t with
    | mk kd tx nm ps ty rf kids =>
      have hf : ((kids.map (ofT n)).getD 0 []).length + 1 ≤ (kids.map (wt n)).sum + 1 := by
        cases kids with
        | nil => simp [List.getD]
        | cons k ks => have := ih k; simp [List.getD]; omega
      have hp : (pt (kids.map (ofT n)) (kids.length - 1)).length + ((kids.map (ofT n)).getD (kids.length - 1) []).length ≤ (kids.map (wt n)).sum := by
        have h1 := pt_len n kids ih (kids.length - 1) (by omega)
        by_cases h0 : kids.length = 0
        · rw [getD_none (by omega)]
          have : kids = [] := by simpa using h0
          subst this
          simpa using h1
        · have hlt : kids.length - 1 < kids.length := by omega
          have e := List.getElem?_eq_getElem hlt
          rw [getD_map e]
          have h2 := ih kids[kids.length - 1]
          have h3 : kids = kids.take (kids.length - 1) ++ [kids[kids.length - 1]] := by
            have h4 := List.take_append_drop (kids.length - 1) kids
            rw [List.drop_eq_getElem_cons hlt, List.drop_eq_nil_of_le (by omega)] at h4
            exact h4.symm
          have h5 : (kids.map (wt n)).sum = ((kids.take (kids.length - 1)).map (wt n)).sum + wt n kids[kids.length - 1] := by
            conv => lhs; rw [h3]
            rw [List.map_append, List.sum_append]
            simp
          omega
      have ht := toL_len tx
      simp only [ofT, wt, form, List.length_map]
      repeat' split
      all_goals simp only [List.length_append, List.length_cons, List.length_nil]
      all_goals omega
end Go.Proofs.YtpmpjbnnjdpbnaaDoor
