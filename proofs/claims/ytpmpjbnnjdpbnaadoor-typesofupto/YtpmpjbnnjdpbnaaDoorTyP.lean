/- Types as texts, plainly: what the reader of package types does, the types as a relation, and what the two have in common. No program stands in it. -/
import Derived.Test.YtpmpjbnnjdpbnaaDoorSpec
namespace Go.Proofs.YtpmpjbnnjdpbnaaDoor.Lx

def tL : List UInt8 := [91, 93]
def tC : List UInt8 := [99, 104, 97, 110, 32]
def tF : List UInt8 := [102, 117, 110, 99, 40]
def tI : List UInt8 := [105, 110, 116]
def tB : List UInt8 := [98, 111, 111, 108]
def tS : List UInt8 := [115, 116, 114, 105, 110, 103]
def tP : List UInt8 := [42]
def cut (p l : List UInt8) : Option (List UInt8) := if p.isPrefixOf l = true then some (l.drop p.length) else none
theorem cut_some {p l r : List UInt8} : cut p l = some r ↔ l = p ++ r := by
  unfold cut
  constructor
  · intro h
    split at h
    · rename_i hp
      obtain ⟨q, rfl⟩ := List.isPrefixOf_iff_prefix.1 hp
      simp at h
      rw [h]
    · cases h
  · rintro rfl
    rw [if_pos (List.isPrefixOf_iff_prefix.2 (List.prefix_append p r))]
    simp
theorem cut_app (p r : List UInt8) : cut p (p ++ r) = some r := cut_some.2 rfl
theorem cut_none {p l : List UInt8} (h : ∀ r, l ≠ p ++ r) : cut p l = none := by
  cases hc : cut p l with
  | none => rfl
  | some r => exact absurd (cut_some.1 hc) (h r)
theorem cut_no {p l : List UInt8} (h : cut p l = none) (r : List UInt8) : l ≠ p ++ r := fun e => by rw [e, cut_app] at h; cases h

inductive Hd where
  | wrap (r : List UInt8)
  | func (r : List UInt8)
  | base (r : List UInt8)
  | ptr (r : List UInt8)
  | no
def hd (l : List UInt8) : Hd :=
  match cut tL l with
  | some r => .wrap r
  | none => match cut tC l with
    | some r => .wrap r
    | none => match cut tF l with
      | some r => .func r
      | none => match cut tI l with
        | some r => .base r
        | none => match cut tB l with
          | some r => .base r
          | none => match cut tS l with
            | some r => .base r
            | none => match cut tP l with
              | some r => .ptr r
              | none => .no
theorem cutx {p q : List UInt8} (r : List UInt8) (h : p.head? ≠ q.head?) (hp : p ≠ []) (hq : q ≠ []) : cut p (q ++ r) = none := by
  apply cut_none
  intro s e
  apply h
  cases p with
  | nil => exact absurd rfl hp
  | cons a p =>
    cases q with
    | nil => exact absurd rfl hq
    | cons b q => simp at e; simp [e.1]
theorem hdL (r : List UInt8) : hd (tL ++ r) = .wrap r := by unfold hd; rw [cut_app]
theorem hdC (r : List UInt8) : hd (tC ++ r) = .wrap r := by unfold hd; rw [cutx r (by decide) (by decide) (by decide), cut_app]
theorem hdF (r : List UInt8) : hd (tF ++ r) = .func r := by unfold hd; rw [cutx r (p := tL) (by decide) (by decide) (by decide), cutx r (p := tC) (by decide) (by decide) (by decide), cut_app]
theorem hdI (r : List UInt8) : hd (tI ++ r) = .base r := by unfold hd; rw [cutx r (p := tL) (by decide) (by decide) (by decide), cutx r (p := tC) (by decide) (by decide) (by decide), cutx r (p := tF) (by decide) (by decide) (by decide), cut_app]
theorem hdB (r : List UInt8) : hd (tB ++ r) = .base r := by unfold hd; rw [cutx r (p := tL) (by decide) (by decide) (by decide), cutx r (p := tC) (by decide) (by decide) (by decide), cutx r (p := tF) (by decide) (by decide) (by decide), cutx r (p := tI) (by decide) (by decide) (by decide), cut_app]
theorem hdS (r : List UInt8) : hd (tS ++ r) = .base r := by unfold hd; rw [cutx r (p := tL) (by decide) (by decide) (by decide), cutx r (p := tC) (by decide) (by decide) (by decide), cutx r (p := tF) (by decide) (by decide) (by decide), cutx r (p := tI) (by decide) (by decide) (by decide), cutx r (p := tB) (by decide) (by decide) (by decide), cut_app]
theorem hdP (r : List UInt8) : hd (tP ++ r) = .ptr r := by unfold hd; rw [cutx r (p := tL) (by decide) (by decide) (by decide), cutx r (p := tC) (by decide) (by decide) (by decide), cutx r (p := tF) (by decide) (by decide) (by decide), cutx r (p := tI) (by decide) (by decide) (by decide), cutx r (p := tB) (by decide) (by decide) (by decide), cutx r (p := tS) (by decide) (by decide) (by decide), cut_app]
/-- What a text begins with. -/
inductive HdIs : List UInt8 → Hd → Prop where
  | L (r : List UInt8) : HdIs (tL ++ r) (.wrap r)
  | C (r : List UInt8) : HdIs (tC ++ r) (.wrap r)
  | F (r : List UInt8) : HdIs (tF ++ r) (.func r)
  | I (r : List UInt8) : HdIs (tI ++ r) (.base r)
  | B (r : List UInt8) : HdIs (tB ++ r) (.base r)
  | S (r : List UInt8) : HdIs (tS ++ r) (.base r)
  | P (r : List UInt8) : HdIs (tP ++ r) (.ptr r)
  | no (l : List UInt8) (hL : cut tL l = none) (hC : cut tC l = none) (hF : cut tF l = none) (hI : cut tI l = none) (hB : cut tB l = none) (hS : cut tS l = none) (hP : cut tP l = none) : HdIs l .no
theorem hd_is (l : List UInt8) : HdIs l (hd l) := by
  cases hL : cut tL l with
  | some r => rw [cut_some.1 hL, hdL]; exact .L r
  | none =>
  cases hC : cut tC l with
  | some r => rw [cut_some.1 hC, hdC]; exact .C r
  | none =>
  cases hF : cut tF l with
  | some r => rw [cut_some.1 hF, hdF]; exact .F r
  | none =>
  cases hI : cut tI l with
  | some r => rw [cut_some.1 hI, hdI]; exact .I r
  | none =>
  cases hB : cut tB l with
  | some r => rw [cut_some.1 hB, hdB]; exact .B r
  | none =>
  cases hS : cut tS l with
  | some r => rw [cut_some.1 hS, hdS]; exact .S r
  | none =>
  cases hP : cut tP l with
  | some r => rw [cut_some.1 hP, hdP]; exact .P r
  | none =>
    have : hd l = .no := by unfold hd; rw [hL, hC, hF, hI, hB, hS, hP]
    rw [this]; exact .no l hL hC hF hI hB hS hP
theorem hd_app (l q : List UInt8) : (∀ r, hd l = .wrap r → hd (l ++ q) = .wrap (r ++ q)) ∧ (∀ r, hd l = .func r → hd (l ++ q) = .func (r ++ q)) ∧ (∀ r, hd l = .base r → hd (l ++ q) = .base (r ++ q)) ∧ (∀ r, hd l = .ptr r → hd (l ++ q) = .ptr (r ++ q)) := by
  have H := hd_is l
  generalize hd l = x at H
  cases H with
  | L r => rw [List.append_assoc, hdL]; simp
  | C r => rw [List.append_assoc, hdC]; simp
  | F r => rw [List.append_assoc, hdF]; simp
  | I r => rw [List.append_assoc, hdI]; simp
  | B r => rw [List.append_assoc, hdB]; simp
  | S r => rw [List.append_assoc, hdS]; simp
  | P r => rw [List.append_assoc, hdP]; simp
  | no => simp
theorem hd_len (l : List UInt8) : (∀ r, hd l = .wrap r → r.length < l.length) ∧ (∀ r, hd l = .func r → r.length < l.length) ∧ (∀ r, hd l = .base r → r.length < l.length) ∧ (∀ r, hd l = .ptr r → r.length < l.length) := by
  have H := hd_is l
  generalize hd l = x at H
  cases H <;> simp [tL, tC, tF, tI, tB, tS, tP] <;> omega
theorem hd_nil : hd [] = .no := rfl

def okR : List UInt8 → Bool
  | [] => true
  | c :: _ => c == 44 || c == 41
def notCC (c : UInt8) : Bool := !(c == 44 || c == 41)
def isNm (x : List UInt8) : Bool := decide (x.length ≤ 24) && (match x with | [] => false | c :: _ => isLet c) && x.all isNam && !isWd x
def nm (l : List UInt8) : List UInt8 := l.takeWhile notCC
def nmR (l : List UInt8) : List UInt8 := l.dropWhile notCC
theorem nm_app (l : List UInt8) : nm l ++ nmR l = l := List.takeWhile_append_dropWhile
theorem nmR_len (l : List UInt8) : (nmR l).length ≤ l.length := by
  have := congrArg List.length (nm_app l)
  simp at this; omega
theorem nmR_ok : ∀ (l : List UInt8), okR (nmR l) = true
  | [] => rfl
  | c :: l => by
    unfold nmR
    cases h : notCC c with
    | true => rw [List.dropWhile_cons_of_pos h]; exact nmR_ok l
    | false => rw [List.dropWhile_cons_of_neg (by simp [h])]; simp [notCC] at h; simp [okR]; by_cases e : c = 44; exact .inl e; exact .inr (h e)
theorem nm_ok {q : List UInt8} (hq : okR q = true) : nm q = [] ∧ nmR q = q := by
  cases q with
  | nil => exact ⟨rfl, rfl⟩
  | cons c q =>
    have h : ¬ notCC c = true := by
      simp [okR] at hq
      simp [notCC]; intro e; rcases hq with e' | e'; exact absurd e' e; exact e'
    exact ⟨List.takeWhile_cons_of_neg h, List.dropWhile_cons_of_neg h⟩
theorem nm_ext (q : List UInt8) (hq : okR q = true) : ∀ (l : List UInt8), nm (l ++ q) = nm l ∧ nmR (l ++ q) = nmR l ++ q
  | [] => by obtain ⟨h1, h2⟩ := nm_ok hq; exact ⟨by simpa [nm] using h1, by simpa [nmR] using h2⟩
  | c :: l => by
    obtain ⟨i1, i2⟩ := nm_ext q hq l
    unfold nm nmR at *
    cases h : notCC c with
    | true => rw [List.cons_append, List.takeWhile_cons_of_pos h, List.takeWhile_cons_of_pos h, List.dropWhile_cons_of_pos h, List.dropWhile_cons_of_pos h, i1, i2]; exact ⟨rfl, rfl⟩
    | false => rw [List.cons_append, List.takeWhile_cons_of_neg (by simp [h]), List.takeWhile_cons_of_neg (by simp [h]), List.dropWhile_cons_of_neg (by simp [h]), List.dropWhile_cons_of_neg (by simp [h])]; exact ⟨rfl, rfl⟩

/-- What is read of a text as a type (0), as params up to the end of a function's type (1), as what stands behind params (2), and what is left. -/
inductive Ty : Nat → List UInt8 → List UInt8 → Prop where
  | wrap {l r s : List UInt8} (h : hd l = .wrap r) (t : Ty 0 r s) : Ty 0 l s
  | base {l r : List UInt8} (h : hd l = .base r) : Ty 0 l r
  | ptr {l r : List UInt8} (h : hd l = .ptr r) (n : isNm (nm r) = true) : Ty 0 l (nmR r)
  | fn0 {l q s : List UInt8} (h : hd l = .func (41 :: q)) (t : Ty 2 q s) : Ty 0 l s
  | fn1 {l r s : List UInt8} (h : hd l = .func r) (n : cut [41] r = none) (t : Ty 1 r s) : Ty 0 l s
  | more {l r s : List UInt8} (t : Ty 0 l (44 :: r)) (u : Ty 1 r s) : Ty 1 l s
  | last {l r s : List UInt8} (t : Ty 0 l (41 :: r)) (u : Ty 2 r s) : Ty 1 l s
  | res0 {l : List UInt8} (h : okR l = true) : Ty 2 l l
  | res1 {l s : List UInt8} (h : okR l = false) (t : Ty 0 l s) : Ty 2 l s
theorem ty_nil {m : Nat} {l s : List UInt8} (t : Ty m l s) (hm : m ≠ 2) : l ≠ [] := by
  induction t with
  | wrap h => rintro rfl; rw [hd_nil] at h; cases h
  | base h => rintro rfl; rw [hd_nil] at h; cases h
  | ptr h => rintro rfl; rw [hd_nil] at h; cases h
  | fn0 h => rintro rfl; rw [hd_nil] at h; cases h
  | fn1 h => rintro rfl; rw [hd_nil] at h; cases h
  | more t u i j => exact i (by decide)
  | last t u i j => exact i (by decide)
  | res0 h => exact absurd rfl hm
  | res1 h => exact absurd rfl hm
theorem ty_app {m : Nat} {l s : List UInt8} (q : List UInt8) (hq : okR q = true) (t : Ty m l s) : Ty m (l ++ q) (s ++ q) := by
  induction t with
  | wrap h t i => exact .wrap ((hd_app _ q).1 _ h) i
  | base h => exact .base ((hd_app _ q).2.2.1 _ h)
  | @ptr l r h n =>
    obtain ⟨e1, e2⟩ := nm_ext q hq r
    rw [← e2]
    exact .ptr ((hd_app _ q).2.2.2 _ h) (by rw [e1]; exact n)
  | fn0 h t i => exact .fn0 ((hd_app _ q).2.1 _ h) i
  | @fn1 l r s h n t i =>
    refine .fn1 ((hd_app _ q).2.1 _ h) ?_ i
    cases r with
    | nil => exact absurd rfl (ty_nil t (by decide))
    | cons c r =>
      apply cut_none
      intro x e
      simp at e
      exact cut_no n r (by rw [e.1]; rfl)
  | more t u i j => exact .more i j
  | last t u i j => exact .last i j
  | @res0 l h =>
    refine .res0 ?_
    cases l with
    | nil => exact hq
    | cons c l => exact h
  | @res1 l s h t i =>
    refine .res1 ?_ i
    cases l with
    | nil => simp [okR] at h
    | cons c l => exact h
theorem ty_det {m : Nat} {l s : List UInt8} (t : Ty m l s) : ∀ s', Ty m l s' → s = s' := by
  induction t with
  | wrap h t i => intro s' t'; cases t' with
    | wrap h' t' => rw [h] at h'; cases h'; exact i _ t'
    | base h' => rw [h] at h'; cases h'
    | ptr h' => rw [h] at h'; cases h'
    | fn0 h' => rw [h] at h'; cases h'
    | fn1 h' => rw [h] at h'; cases h'
  | base h => intro s' t'; cases t' with
    | wrap h' t' => rw [h] at h'; cases h'
    | base h' => rw [h] at h'; cases h'; rfl
    | ptr h' => rw [h] at h'; cases h'
    | fn0 h' => rw [h] at h'; cases h'
    | fn1 h' => rw [h] at h'; cases h'
  | ptr h n => intro s' t'; cases t' with
    | wrap h' t' => rw [h] at h'; cases h'
    | base h' => rw [h] at h'; cases h'
    | ptr h' => rw [h] at h'; cases h'; rfl
    | fn0 h' => rw [h] at h'; cases h'
    | fn1 h' => rw [h] at h'; cases h'
  | fn0 h t i => intro s' t'; cases t' with
    | wrap h' t' => rw [h] at h'; cases h'
    | base h' => rw [h] at h'; cases h'
    | ptr h' => rw [h] at h'; cases h'
    | fn0 h' t' => rw [h] at h'; cases h'; exact i _ t'
    | fn1 h' n' => rw [h] at h'; cases h'; exact absurd rfl (cut_no n' _)
  | fn1 h n t i => intro s' t'; cases t' with
    | wrap h' t' => rw [h] at h'; cases h'
    | base h' => rw [h] at h'; cases h'
    | ptr h' => rw [h] at h'; cases h'
    | fn0 h' t' => rw [h] at h'; cases h'; exact absurd rfl (cut_no n _)
    | fn1 h' n' t' => rw [h] at h'; cases h'; exact i _ t'
  | more t u i j => intro s' t'; cases t' with
    | more t' u' => have := i _ t'; cases this; exact j _ u'
    | last t' u' => have := i _ t'; cases this
  | last t u i j => intro s' t'; cases t' with
    | more t' u' => have := i _ t'; cases this
    | last t' u' => have := i _ t'; cases this; exact j _ u'
  | res0 h => intro s' t'; cases t' with
    | res0 => rfl
    | res1 h' => rw [h] at h'; cases h'
  | res1 h t i => intro s' t'; cases t' with
    | res0 h' => rw [h] at h'; cases h'
    | res1 h' t' => exact i _ t'

/-- What the reader answers from a state on: the text that is left, the functions' types that are open, whether a type must begin. -/
def rd : Nat → List UInt8 → Nat → Bool → Bool
  | 0, _, _, _ => false
  | n + 1, l, k, true =>
    match hd l with
    | .wrap r => rd n r k true
    | .func r => match cut [41] r with
      | some q => rd n q k (!okR q)
      | none => rd n r (k + 1) true
    | .base r => rd n r k false
    | .ptr r => if isNm (nm r) = true then rd n (nmR r) k false else false
    | .no => false
  | _ + 1, l, 0, false => l.isEmpty
  | n + 1, l, k + 1, false =>
    match cut [44] l with
    | some r => rd n r (k + 1) true
    | none => match cut [41] l with
      | some r => rd n r k (!okR r)
      | none => false
theorem rd_fuel : ∀ (n m : Nat) (l : List UInt8) (k : Nat) (w : Bool), l.length < n → l.length < m → rd n l k w = rd m l k w
  | 0, _, _, _, _, h, _ => by omega
  | _ + 1, 0, _, _, _, _, h => by omega
  | n + 1, m + 1, l, k, true, h, h' => by
    rw [rd, rd]
    obtain ⟨g1, g2, g3, g4⟩ := hd_len l
    split
    · rename_i r hr; have := g1 r hr; exact rd_fuel n m r k true (by omega) (by omega)
    · rename_i r hr
      have := g2 r hr
      split
      · rename_i q hq
        have := congrArg List.length (cut_some.1 hq)
        simp at this
        exact rd_fuel n m q k _ (by omega) (by omega)
      · exact rd_fuel n m r (k + 1) true (by omega) (by omega)
    · rename_i r hr; have := g3 r hr; exact rd_fuel n m r k false (by omega) (by omega)
    · rename_i r hr
      have := g4 r hr
      have := nmR_len r
      split
      · exact rd_fuel n m (nmR r) k false (by omega) (by omega)
      · rfl
    · rfl
  | n + 1, m + 1, l, 0, false, _, _ => by rw [rd, rd]
  | n + 1, m + 1, l, k + 1, false, h, h' => by
    rw [rd, rd]
    split
    · rename_i r hr
      have := congrArg List.length (cut_some.1 hr)
      simp at this
      exact rd_fuel n m r (k + 1) true (by omega) (by omega)
    · split
      · rename_i r hr
        have := congrArg List.length (cut_some.1 hr)
        simp at this
        exact rd_fuel n m r k _ (by omega) (by omega)
      · rfl
theorem rd_up : ∀ (n m : Nat) (l : List UInt8) (k : Nat) (w : Bool), rd n l k w = true → n ≤ m → rd m l k w = true
  | 0, _, _, _, _, h, _ => by rw [rd] at h; cases h
  | _ + 1, 0, _, _, _, _, h => by omega
  | n + 1, m + 1, l, k, true, h, h' => by
    rw [rd] at h ⊢
    split
    · rename_i r hr; rw [hr] at h; exact rd_up n m r k true h (by omega)
    · rename_i r hr
      rw [hr] at h
      simp only at h
      split
      · rename_i q hq; rw [hq] at h; exact rd_up n m q k _ h (by omega)
      · rename_i hq; rw [hq] at h; exact rd_up n m r (k + 1) true h (by omega)
    · rename_i r hr; rw [hr] at h; exact rd_up n m r k false h (by omega)
    · rename_i r hr
      rw [hr] at h
      simp only at h
      split
      · rename_i hn; rw [if_pos hn] at h; exact rd_up n m (nmR r) k false h (by omega)
      · rename_i hn; rw [if_neg hn] at h; cases h
    · rename_i hr; rw [hr] at h; cases h
  | n + 1, m + 1, l, 0, false, h, _ => by rw [rd] at h ⊢; exact h
  | n + 1, m + 1, l, k + 1, false, h, h' => by
    rw [rd] at h ⊢
    split
    · rename_i r hr; rw [hr] at h; exact rd_up n m r (k + 1) true h (by omega)
    · rename_i hr
      rw [hr] at h
      simp only at h
      split
      · rename_i r hq; rw [hq] at h; exact rd_up n m r k _ h (by omega)
      · rename_i hq; rw [hq] at h; cases h
/-- From a state in which a type must begin: one does, and the reader goes on behind it. -/
theorem rd_ty : ∀ (n : Nat), (∀ (l : List UInt8) (k : Nat), rd n l k true = true → ∃ r n', n' < n ∧ Ty 0 l r ∧ rd n' r k false = true) ∧ (∀ (l : List UInt8) (k : Nat), rd n l (k + 1) true = true → ∃ r n', n' < n ∧ Ty 1 l r ∧ rd n' r k false = true) ∧ (∀ (l : List UInt8) (k : Nat), rd n l k (!okR l) = true → ∃ r n', n' ≤ n ∧ Ty 2 l r ∧ rd n' r k false = true) := by
  intro n
  induction n using Nat.strongRecOn with
  | ind n IH =>
    have A : ∀ (l : List UInt8) (k : Nat), rd n l k true = true → ∃ r n', n' < n ∧ Ty 0 l r ∧ rd n' r k false = true := by
      intro l k h
      cases n with
      | zero => rw [rd] at h; cases h
      | succ n =>
        rw [rd] at h
        split at h
        · rename_i r hr
          obtain ⟨s, n', h1, h2, h3⟩ := (IH n (by omega)).1 r k h
          exact ⟨s, n', by omega, .wrap hr h2, h3⟩
        · rename_i r hr
          split at h
          · rename_i q hq
            obtain ⟨s, n', h1, h2, h3⟩ := (IH n (by omega)).2.2 q k h
            have e := cut_some.1 hq
            rw [e] at hr
            exact ⟨s, n', by omega, .fn0 hr h2, h3⟩
          · rename_i hq
            obtain ⟨s, n', h1, h2, h3⟩ := (IH n (by omega)).2.1 r k h
            exact ⟨s, n', by omega, .fn1 hr hq h2, h3⟩
        · rename_i r hr; exact ⟨r, n, by omega, .base hr, h⟩
        · rename_i r hr
          split at h
          · rename_i hn; exact ⟨nmR r, n, by omega, .ptr hr hn, h⟩
          · cases h
        · cases h
    refine ⟨A, ?_, ?_⟩
    · intro l k h
      obtain ⟨r, n', h1, h2, h3⟩ := A l (k + 1) h
      cases n' with
      | zero => rw [rd] at h3; cases h3
      | succ n' =>
        rw [rd] at h3
        split at h3
        · rename_i q hq
          obtain ⟨s, n2, g1, g2, g3⟩ := (IH n' (by omega)).2.1 q k h3
          rw [cut_some.1 hq] at h2
          exact ⟨s, n2, by omega, .more h2 g2, g3⟩
        · split at h3
          · rename_i q hq
            obtain ⟨s, n2, g1, g2, g3⟩ := (IH n' (by omega)).2.2 q k h3
            rw [cut_some.1 hq] at h2
            exact ⟨s, n2, by omega, .last h2 g2, g3⟩
          · cases h3
    · intro l k h
      cases ho : okR l with
      | true => rw [ho] at h; exact ⟨l, n, by omega, .res0 ho, h⟩
      | false =>
        rw [ho] at h
        obtain ⟨r, n', h1, h2, h3⟩ := A l k h
        exact ⟨r, n', by omega, .res1 ho h2, h3⟩
theorem ty_rd {m : Nat} {l r : List UInt8} (t : Ty m l r) : ∀ (k n : Nat), rd n r k false = true → ∃ n', match m with | 0 => rd n' l k true = true | 1 => rd n' l (k + 1) true = true | _ => rd n' l k (!okR l) = true := by
  induction t with
  | wrap h t i => intro k n g; obtain ⟨n', e⟩ := i k n g; exact ⟨n' + 1, by simp only [rd, h]; exact e⟩
  | base h => intro k n g; exact ⟨n + 1, by simp only [rd, h]; exact g⟩
  | ptr h c => intro k n g; exact ⟨n + 1, by simp only [rd, h]; rw [if_pos c]; exact g⟩
  | @fn0 l q s h t i => intro k n g; obtain ⟨n', e⟩ := i k n g; exact ⟨n' + 1, by simp only [rd, h]; rw [show (41 :: q : List UInt8) = [41] ++ q from rfl, cut_app]; exact e⟩
  | fn1 h c t i => intro k n g; obtain ⟨n', e⟩ := i k n g; exact ⟨n' + 1, by simp only [rd, h, c]; exact e⟩
  | @more l r s t u i j =>
    intro k n g
    obtain ⟨n', e⟩ := j k n g
    obtain ⟨n2, e2⟩ := i (k + 1) (n' + 1) (by rw [rd, show (44 :: r : List UInt8) = [44] ++ r from rfl, cut_app]; exact e)
    exact ⟨n2, e2⟩
  | @last l r s t u i j =>
    intro k n g
    obtain ⟨n', e⟩ := j k n g
    obtain ⟨n2, e2⟩ := i (k + 1) (n' + 1) (by
      rw [rd, cut_none (p := [44]) (by intro x hx; cases hx), show (41 :: r : List UInt8) = [41] ++ r from rfl, cut_app]; exact e)
    exact ⟨n2, e2⟩
  | res0 h => intro k n g; exact ⟨n, by simp only [h]; exact g⟩
  | res1 h t i => intro k n g; obtain ⟨n', e⟩ := i k n g; exact ⟨n', by simp only [h]; exact e⟩
/-- Whether a text is a type. -/
def vd (l : List UInt8) : Bool := rd (l.length + 1) l 0 true
theorem vd_ty (l : List UInt8) : vd l = true ↔ Ty 0 l [] := by
  constructor
  · intro h
    obtain ⟨r, n', _, h2, h3⟩ := (rd_ty _).1 l 0 h
    cases n' with
    | zero => rw [rd] at h3; cases h3
    | succ n' =>
      rw [rd] at h3
      have : r = [] := by simpa using h3
      rw [← this]; exact h2
  · intro t
    obtain ⟨n, h⟩ := ty_rd t 0 1 rfl
    have h1 := rd_up n (n + l.length + 1) l 0 true h (by omega)
    unfold vd
    rw [rd_fuel (l.length + 1) (n + l.length + 1) l 0 true (by omega) (by omega)]
    exact h1
end Go.Proofs.YtpmpjbnnjdpbnaaDoor.Lx
