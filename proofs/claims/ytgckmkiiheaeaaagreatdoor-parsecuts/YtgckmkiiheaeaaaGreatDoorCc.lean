/- The plain parser's faults hang on nothing behind their token. -/
import Derived.Test.YtgckmkiiheaeaaaGreatDoorCb
set_option linter.unusedVariables false
set_option linter.unusedSimpArgs false
set_option maxRecDepth 100000
namespace Go.Proofs.YtgckmkiiheaeaaaGreatDoor.Px
open Go.Proofs.YtgckmkiiheaeaaaGreatDoor.Lx
def Cut (ts : List Tok) (N m q b : Nat) (r r' : R) : Prop := (∀ l s k, r = .ok l s k → q ≤ k ∧ k < N ∧ (k < m → r' = .ok l s k ∨ r' = .out)) ∧ ∀ p, r = .bad p → ∃ i, b ≤ i ∧ i < N ∧ p = (tok ts i).pos ∧ (i < m → r' = .bad p ∨ r' = .out)
def Agr (ts ts' : List Tok) (m : Nat) : Prop := ∀ i, i < m → tok ts' i = tok ts i
section
variable {ts ts' : List Tok} {N m q b : Nat}
theorem ag_sign (H : Agr ts ts' m) {i : Nat} (h : i < m) : sign ts' i = sign ts i := by unfold sign; rw [H i h]
theorem ag_is (H : Agr ts ts' m) {i : Nat} (h : i < m) (l : List (List UInt8)) : isS ts' i l = isS ts i l := by unfold isS; rw [ag_sign H h]
theorem cut_far {r r' : R} (hq : m ≤ q) (hb : m ≤ b) (h : Bk ts N q b r) : Cut ts N m q b r r' :=
  ⟨(fun l s k e => by have := h.1 l s k e; exact ⟨this.1, this.2, fun hk => by omega⟩), fun p e => by obtain ⟨i, h1, h2, h3⟩ := h.2 p e; exact ⟨i, h1, h2, h3, fun hk => by omega⟩⟩
theorem cut_none {r : R} (h : Bk ts N q b r) : Cut ts N m q b r .out :=
  ⟨(fun l s k e => by have := h.1 l s k e; exact ⟨this.1, this.2, fun hk => .inr rfl⟩), fun p e => by obtain ⟨i, h1, h2, h3⟩ := h.2 p e; exact ⟨i, h1, h2, h3, fun hk => .inr rfl⟩⟩
theorem cut_weak {q1 b1 : Nat} {r r' : R} (h : Cut ts N m q1 b1 r r') (hq : q ≤ q1) (hb : b ≤ b1) : Cut ts N m q b r r' :=
  ⟨(fun l s k e => by have := h.1 l s k e; exact ⟨by omega, this.2⟩), fun p e => by obtain ⟨i, h1, h2⟩ := h.2 p e; exact ⟨i, by omega, h2⟩⟩
theorem cut_ok {l : List Tree} {s : Int} {k : Nat} {r' : R} (hq : q ≤ k) (hN : k < N) (h : k < m → r' = .ok l s k) : Cut ts N m q b (.ok l s k) r' :=
  ⟨(fun _ _ _ e => by cases e; exact ⟨hq, hN, fun hk => .inl (h hk)⟩), (fun _ e => by cases e)⟩
theorem cut_bad {i : Nat} {r' : R} (hb : b ≤ i) (hN : i < N) (h : i < m → r' = .bad (tok ts i).pos) : Cut ts N m q b (.bad (tok ts i).pos) r' :=
  ⟨(fun _ _ _ e => by cases e), (fun _ e => by cases e; exact ⟨i, hb, hN, rfl, fun hk => .inl (h hk)⟩)⟩
theorem cut_out {r' : R} : Cut ts N m q b .out r' := ⟨(fun _ _ _ e => by cases e), (fun _ e => by cases e)⟩
theorem cut_if {c c' : Prop} [Decidable c] [Decidable c'] {i : Nat} {x y x' y' : R} (hc : i < m → (c' ↔ c)) (h1 : c → Cut ts N m (max q i) (max b i) x x') (h2 : ¬ c → Cut ts N m (max q i) (max b i) y y') : Cut ts N m q b (if c then x else y) (if c' then x' else y') := by
  by_cases h : c
  · rw [if_pos h]
    have g := h1 h
    refine ⟨fun l s k e => ?_, fun p e => ?_⟩
    · obtain ⟨a1, a2, a3⟩ := g.1 l s k e
      exact ⟨by omega, a2, fun hk => by rw [if_pos ((hc (by omega)).2 h)]; exact a3 hk⟩
    · obtain ⟨j, a1, a2, a3, a4⟩ := g.2 p e
      exact ⟨j, by omega, a2, a3, fun hk => by rw [if_pos ((hc (by omega)).2 h)]; exact a4 hk⟩
  · rw [if_neg h]
    have g := h2 h
    refine ⟨fun l s k e => ?_, fun p e => ?_⟩
    · obtain ⟨a1, a2, a3⟩ := g.1 l s k e
      exact ⟨by omega, a2, fun hk => by rw [if_neg (fun x => h ((hc (by omega)).1 x))]; exact a3 hk⟩
    · obtain ⟨j, a1, a2, a3, a4⟩ := g.2 p e
      exact ⟨j, by omega, a2, a3, fun hk => by rw [if_neg (fun x => h ((hc (by omega)).1 x))]; exact a4 hk⟩
theorem cut_same {c : Prop} [Decidable c] {x y x' y' : R} (h1 : c → Cut ts N m q b x x') (h2 : ¬ c → Cut ts N m q b y y') : Cut ts N m q b (if c then x else y) (if c then x' else y') := by
  by_cases h : c
  · rw [if_pos h, if_pos h]; exact h1 h
  · rw [if_neg h, if_neg h]; exact h2 h
theorem cut_isS (E : Ends ts N) {i : Nat} {L : List (List UInt8)} {x y x' y' : R} (hk : i < N) (h1 : i + 1 < N → Cut ts N m q b x x') (h2 : Cut ts N m q b y y') : Cut ts N m q b (if isS ts i L = true then x else y) (if isS ts i L = true then x' else y') := cut_same (fun e => h1 (E.is hk e)) (fun _ => h2)
theorem cut_signS (E : Ends ts N) {i : Nat} {c : UInt8} {L : List UInt8} {x y x' y' : R} (hk : i < N) (h1 : i + 1 < N → Cut ts N m q b x x') (h2 : Cut ts N m q b y y') : Cut ts N m q b (if sign ts i = c :: L then x else y) (if sign ts i = c :: L then x' else y') := cut_same (fun e => h1 (E.sign hk (by rw [e]; simp))) (fun _ => h2)
theorem cut_textS (E : Ends ts N) {i : Nat} {c : UInt8} {L : List UInt8} {x y x' y' : R} (hk : i < N) (h1 : i + 1 < N → Cut ts N m q b x x') (h2 : Cut ts N m q b y y') : Cut ts N m q b (if (tok ts i).text = c :: L then x else y) (if (tok ts i).text = c :: L then x' else y') := cut_same (fun e => h1 (E.text hk (by rw [e]; simp))) (fun _ => h2)
theorem cut_strS (E : Ends ts N) {i : Nat} {n : Int} {x y x' y' : R} (hk : i < N) (hn : 1 ≤ n) (h1 : i + 1 < N → Cut ts N m q b x x') (h2 : Cut ts N m q b y y') : Cut ts N m q b (if n ≤ strength (sign ts i) then x else y) (if n ≤ strength (sign ts i) then x' else y') := cut_same (fun e => h1 (E.str hn hk e)) (fun _ => h2)
theorem cut_hastS (E : Ends ts N) {i : Nat} {L : List (List UInt8)} {x y x' y' : R} (hk : i < N) (h0 : L.contains [] = false) (h1 : i + 1 < N → Cut ts N m q b x x') (h2 : Cut ts N m q b y y') : Cut ts N m q b (if L.contains (tok ts i).text = true then x else y) (if L.contains (tok ts i).text = true then x' else y') := cut_same (fun e => h1 (E.has hk h0 e)) (fun _ => h2)
theorem cut_andS (E : Ends ts N) {i : Nat} {c : Prop} [Decidable c] {L : List (List UInt8)} {x y x' y' : R} (hk : i < N) (h1 : i + 1 < N → Cut ts N m q b x x') (h2 : Cut ts N m q b y y') : Cut ts N m q b (if c ∧ isS ts i L = true then x else y) (if c ∧ isS ts i L = true then x' else y') := cut_same (fun e => h1 (E.is hk e.2)) (fun _ => h2)
theorem cut_kindS (E : Ends ts N) {i : Nat} {n : Int} {x y x' y' : R} (hk : i < N) (h1 : (n ≠ 6 → i + 1 < N) → Cut ts N m q b x x') (h2 : Cut ts N m q b y y') : Cut ts N m q b (if (tok ts i).kind = n then x else y) (if (tok ts i).kind = n then x' else y') := cut_same (fun e => h1 fun hn => E.kind hk (by rw [e]; exact hn)) (fun _ => h2)
theorem cut_is (E : Ends ts N) (H : Agr ts ts' m) {i : Nat} {L : List (List UInt8)} {x y x' y' : R} (hk : i < N) (h1 : i + 1 < N → Cut ts N m (max q i) (max b i) x x') (h2 : Cut ts N m (max q i) (max b i) y y') : Cut ts N m q b (if isS ts i L = true then x else y) (if isS ts' i L = true then x' else y') :=
  cut_if (i := i) (fun h => by rw [ag_is H h]) (fun e => h1 (E.is hk e)) (fun _ => h2)
theorem cut_and (E : Ends ts N) (H : Agr ts ts' m) {c : Prop} [Decidable c] {i : Nat} {L : List (List UInt8)} {x y x' y' : R} (hk : i < N) (h1 : i + 1 < N → Cut ts N m (max q i) (max b i) x x') (h2 : Cut ts N m (max q i) (max b i) y y') : Cut ts N m q b (if c ∧ isS ts i L = true then x else y) (if c ∧ isS ts' i L = true then x' else y') :=
  cut_if (i := i) (fun h => by rw [ag_is H h]) (fun e => h1 (E.is hk e.2)) (fun _ => h2)
theorem cut_sign (E : Ends ts N) (H : Agr ts ts' m) {i : Nat} {c : UInt8} {L : List UInt8} {x y x' y' : R} (hk : i < N) (h1 : i + 1 < N → Cut ts N m (max q i) (max b i) x x') (h2 : Cut ts N m (max q i) (max b i) y y') : Cut ts N m q b (if sign ts i = c :: L then x else y) (if sign ts' i = c :: L then x' else y') :=
  cut_if (i := i) (fun h => by rw [ag_sign H h]) (fun e => h1 (E.sign hk (by rw [e]; simp))) (fun _ => h2)
theorem cut_has (H : Agr ts ts' m) {i : Nat} {L : List (List UInt8)} {x y x' y' : R} (h1 : Cut ts N m (max q i) (max b i) x x') (h2 : Cut ts N m (max q i) (max b i) y y') : Cut ts N m q b (if L.contains (sign ts i) = true then x else y) (if L.contains (sign ts' i) = true then x' else y') :=
  cut_if (i := i) (fun h => by rw [ag_sign H h]) (fun _ => h1) (fun _ => h2)
theorem cut_kind (E : Ends ts N) (H : Agr ts ts' m) {i : Nat} {n : Int} {x y x' y' : R} (hk : i < N) (h1 : (n ≠ 6 → i + 1 < N) → Cut ts N m (max q i) (max b i) x x') (h2 : Cut ts N m (max q i) (max b i) y y') : Cut ts N m q b (if (tok ts i).kind = n then x else y) (if (tok ts' i).kind = n then x' else y') :=
  cut_if (i := i) (fun h => by rw [H i h]) (fun e => h1 fun hn => E.kind hk (by rw [e]; exact hn)) (fun _ => h2)
theorem cut_text (E : Ends ts N) (H : Agr ts ts' m) {i : Nat} {c : UInt8} {L : List UInt8} {x y x' y' : R} (hk : i < N) (h1 : i + 1 < N → Cut ts N m (max q i) (max b i) x x') (h2 : Cut ts N m (max q i) (max b i) y y') : Cut ts N m q b (if (tok ts i).text = c :: L then x else y) (if (tok ts' i).text = c :: L then x' else y') :=
  cut_if (i := i) (fun h => by rw [H i h]) (fun e => h1 (E.text hk (by rw [e]; simp))) (fun _ => h2)
theorem cut_hast (E : Ends ts N) (H : Agr ts ts' m) {i : Nat} {L : List (List UInt8)} {x y x' y' : R} (hk : i < N) (h0 : L.contains [] = false) (h1 : i + 1 < N → Cut ts N m (max q i) (max b i) x x') (h2 : Cut ts N m (max q i) (max b i) y y') : Cut ts N m q b (if L.contains (tok ts i).text = true then x else y) (if L.contains (tok ts' i).text = true then x' else y') :=
  cut_if (i := i) (fun h => by rw [H i h]) (fun e => h1 (E.has hk h0 e)) (fun _ => h2)
theorem cut_str (E : Ends ts N) (H : Agr ts ts' m) {i : Nat} {n : Int} {x y x' y' : R} (hk : i < N) (hn : 1 ≤ n) (h1 : i + 1 < N → Cut ts N m (max q i) (max b i) x x') (h2 : Cut ts N m (max q i) (max b i) y y') : Cut ts N m q b (if n ≤ strength (sign ts i) then x else y) (if n ≤ strength (sign ts' i) then x' else y') :=
  cut_if (i := i) (fun h => by rw [ag_sign H h]) (fun e => h1 (E.str hn hk e)) (fun _ => h2)
theorem cut_lab1 (E : Ends ts N) (H : Agr ts ts' m) {i : Nat} {x y x' y' : R} (hk : i < N) (h1 : i + 1 < N → Cut ts N m (max q (i + 1)) (max b (i + 1)) x x') (h2 : Cut ts N m (max q (i + 1)) (max b (i + 1)) y y') : Cut ts N m q b (if labels ts i = true then x else y) (if labels ts' i = true then x' else y') :=
  cut_if (i := i + 1) (fun h => by unfold labels; rw [H i (by omega), H (i + 1) h]) (fun e => h1 (E.lab hk e)) (fun _ => h2)
theorem cut_lab2 (H : Agr ts ts' m) {i : Nat} {x y x' y' : R} (hm : i < m) (hn : (tok ts i).kind ≠ 1) (h2 : Cut ts N m q b y y') : Cut ts N m q b (if labels ts i = true then x else y) (if labels ts' i = true then x' else y') := by
  rw [if_neg (by unfold labels; simp [hn]), if_neg (by unfold labels; rw [H i hm]; simp [hn])]
  exact h2
theorem cut_want (E : Ends ts N) (H : Agr ts ts' m) {i : Nat} {s : List UInt8} {f f' : Tok → Nat → R} (hk : i < N) (hb : b ≤ i) (h : i + 1 < N → Cut ts N m (max q i) (max b i) (f (tok ts i) (i + 1)) (f' (tok ts' i) (i + 1))) : Cut ts N m q b (want ts i s f) (want ts' i s f') :=
  cut_is E H hk h (cut_bad (by omega) hk fun hx => by rw [H i hx])
theorem cut_name (E : Ends ts N) (H : Agr ts ts' m) {i : Nat} {f f' : Tok → Nat → R} (hk : i < N) (hb : b ≤ i) (h : i + 1 < N → Cut ts N m (max q i) (max b i) (f (tok ts i) (i + 1)) (f' (tok ts' i) (i + 1))) : Cut ts N m q b (wantName ts i f) (wantName ts' i f') :=
  cut_kind E H hk (fun g => h (g (by decide))) (cut_bad (by omega) hk fun hx => by rw [H i hx])
theorem cut_bind {r r' : R} {q1 b1 : Nat} {f f' : List Tree → Int → Nat → R} (h : Cut ts N m q1 b1 r r') (hb : b ≤ b1) (g1 : ∀ l s k, q1 ≤ k → k < N → Bk ts N (max q k) (max b k) (f l s k))
    (g2 : ∀ l s k, q1 ≤ k → k < N → k < m → Cut ts N m q b (f l s k) (f' l s k)) : Cut ts N m q b (r.bind f) (r'.bind f') := by
  cases r with
  | out => exact cut_out
  | bad p =>
    refine ⟨(fun _ _ _ e => by cases e), fun _ e => ?_⟩
    cases e
    obtain ⟨i, a1, a2, a3, a4⟩ := h.2 p rfl
    exact ⟨i, by omega, a2, a3, fun hk => by rcases a4 hk with rfl | rfl <;> simp [R.bind]⟩
  | ok l s k =>
    obtain ⟨a1, a2, a3⟩ := h.1 l s k rfl
    show Cut ts N m q b (f l s k) _
    by_cases hm : k < m
    · rcases a3 hm with rfl | rfl
      · exact g2 l s k a1 a2 hm
      · exact cut_none (bk_weak (g1 l s k a1 a2) (by omega) (by omega))
    · exact cut_weak (cut_far (by omega) (by omega) (g1 l s k a1 a2)) (by omega) (by omega)
theorem cut_bind1 {r r' : R} {q1 b1 : Nat} {f f' : Tree → Int → Nat → R} (h : Cut ts N m q1 b1 r r') (hb : b ≤ b1) (g1 : ∀ t s k, q1 ≤ k → k < N → Bk ts N (max q k) (max b k) (f t s k))
    (g2 : ∀ t s k, q1 ≤ k → k < N → k < m → Cut ts N m q b (f t s k) (f' t s k)) : Cut ts N m q b (r.bind1 f) (r'.bind1 f') := by
  cases r with
  | out => exact cut_out
  | bad p =>
    refine ⟨(fun _ _ _ e => by cases e), fun _ e => ?_⟩
    cases e
    obtain ⟨i, a1, a2, a3, a4⟩ := h.2 p rfl
    exact ⟨i, by omega, a2, a3, fun hk => by rcases a4 hk with rfl | rfl <;> simp [R.bind1]⟩
  | ok l s k =>
    match l, h with
    | [], _ => exact cut_out
    | _ :: _ :: _, _ => exact cut_out
    | [t], h =>
      obtain ⟨a1, a2, a3⟩ := h.1 [t] s k rfl
      show Cut ts N m q b (f t s k) _
      by_cases hm : k < m
      · rcases a3 hm with rfl | rfl
        · exact g2 t s k a1 a2 hm
        · exact cut_none (bk_weak (g1 t s k a1 a2) (by omega) (by omega))
      · exact cut_weak (cut_far (by omega) (by omega) (g1 t s k a1 a2)) (by omega) (by omega)
end
set_option maxHeartbeats 40000000 in
theorem step_cut (ts ts' : List Tok) (N m : Nat) (E : Ends ts N) (H : Agr ts ts' m) (rec rec' : Job → Bool → Nat → R)
    (fw : ∀ j h k, Gd j → k + nx j < N → Bk ts N (k + su j) (lb ts j k) (rec j h k))
    (ih : ∀ j j' h k, Gd j → k + nx j < N → (k < m → j' = j) → Cut ts N m (k + su j) (lb ts j k) (rec j h k) (rec' j' h k))
    (j : Job) (h : Bool) (k : Nat) (hg : Gd j) (hp : k + nx j < N) (hm : k < m) : Cut ts N m (k + su j) (lb ts j k) (step ts rec j h k) (step ts' rec' j h k) := by
  have q3 : ∀ it : It, Gd it.job := by intro it; cases it <;> trivial
  have q4 : ∀ it : It, nx it.job = 0 := by intro it; cases it <;> rfl
  have e0 := H k hm
  have e1 := ag_sign H hm
  have e2 := ag_is H hm
  by_cases hn : (tok ts k).kind = 1
  all_goals
    cases j
    all_goals
      simp only [nx] at hp
      simp only [step, fWtype, fResult, fNamed, fListed, fListMore, fFunction, fBlock, fStmts, fStmt, fVarStmt, fReturnStmt, fCallStmt, fLabelled, fSimple, fActing, fIfStmt, fBreakable, fForStmt, forTail2, forTail, fForHead, fForLead, fSwitchStmt, fSelectStmt, fClauses, fClausesMore, fClause, fCaseMore, fClauseBlock, fComm, fCommHead, fOp, fOpOf, fUnary, fShaped, fPrimary, fPrimMore, fBr3, fBr2, fBracketed, fOperand, fWordOperand, fBuiltin, fMakeArgs, fNewArgs, fMarkOperand, fBraced, fBracedMore, fInitial, fDecl, fTypeDecl, fFieldsMore, fFileMore, jump, behind, su, lb]
      (try (rename_i it acc; (have hit : It := it); clear hit; cases it <;> simp only [It.job]))
      (try (rename_i it; (have hit : It := it); clear hit; cases it <;> simp only [It.job]))
      (try (rcases (show _ ∨ _ ∨ _ from hg) with rfl | rfl | rfl))
      (try (rename_i c acc; cases c <;> simp only [Bool.false_eq_true, if_false, if_true]))
      (try simp only [e0, e1, e2])
      (try simp only [is_name hn])
      (try simp only [hn, if_true, if_false, Bool.false_eq_true, and_false])
      repeat' (first
        | exact cut_bad (by omega) (by omega) (fun hx => by first | with_reducible rfl | (repeat rw [H _ (by omega)]))
        | refine cut_isS E (by omega) (fun hk => ?_) ?_
        | refine cut_signS E (by omega) (fun hk => ?_) ?_
        | refine cut_textS E (by omega) (fun hk => ?_) ?_
        | refine cut_andS E (by omega) (fun hk => ?_) ?_
        | refine cut_hastS E (by omega) rfl (fun hk => ?_) ?_
        | (refine cut_kindS E (by omega) (fun hk => ?_) ?_; (try replace hk := hk (by decide)))
        | refine cut_strS E (by omega) hg (fun hk => ?_) ?_
        | refine cut_same (fun hc => ?_) (fun hc => ?_)
        | refine cut_want E H (by omega) (by omega) (fun hk => ?_)
        | refine cut_name E H (by omega) (by omega) (fun hk => ?_)
        | refine cut_is E H (by omega) (fun hk => ?_) ?_
        | refine cut_sign E H (by omega) (fun hk => ?_) ?_
        | refine cut_has H ?_ ?_
        | refine cut_text E H (by omega) (fun hk => ?_) ?_
        | refine cut_and E H (by omega) (fun hk => ?_) ?_
        | refine cut_hast E H (by omega) rfl (fun hk => ?_) ?_
        | (refine cut_kind E H (by omega) (fun hk => ?_) ?_; (try replace hk := hk (by decide)))
        | refine cut_str E H (by omega) hg (fun hk => ?_) ?_
        | refine cut_lab2 H (by omega) hn ?_
        | refine cut_lab1 E H (by omega) (fun hk => ?_) ?_
        | refine cut_same (fun hc => ?_) (fun hc => ?_)
        | (refine cut_bind1 (ih _ _ _ _ (by first | trivial | exact q3 _ | (show 1 ≤ _; first | exact hg | (have := str_ge (tok ts k).text; omega)) | exact Or.inl rfl | exact Or.inr (Or.inl rfl) | exact Or.inr (Or.inr rfl)) (by simp only [nx, q4]; omega) (fun hx => by first | with_reducible rfl | (repeat rw [H _ (by omega)]))) (by first | (refine Nat.le_trans ?_ (lb_ge _ _ _); omega) | (simp only [lb, hn, if_true]; omega)) ?_ ?_
           · (intro _ _ _ hx hy; (try simp only [su, su_item] at hx); repeat' (first
              | exact bk_bad (by omega) (by omega) | refine bk_want E (by omega) (by omega) (fun hk => ?_) | refine bk_name E (by omega) (by omega) (fun hk => ?_) | refine bk_is E (by omega) (fun hk => ?_) ?_ | refine bk_sign E (by omega) (fun hk => ?_) ?_ | refine bk_and E (by omega) (fun hk => ?_) ?_ | refine bk_ite (fun hc => ?_) (fun hc => ?_)
              | (refine bk_bind1 (fw _ _ _ (by first | trivial | exact q3 _ | exact hg | (show (1 : Int) ≤ 1; decide)) (by simp only [nx, q4]; omega)) (by refine Nat.le_trans ?_ (lb_ge _ _ _); omega) ?_; intro _ _ _ hx hy; (try simp only [su, su_item] at hx))
              | (refine bk_bind (fw _ _ _ (by first | trivial | exact q3 _ | exact hg | (show (1 : Int) ≤ 1; decide)) (by simp only [nx, q4]; omega)) (by refine Nat.le_trans ?_ (lb_ge _ _ _); omega) ?_; intro _ _ _ hx hy; (try simp only [su, su_item] at hx))
              | (refine bk_weak (fw _ _ _ (by first | trivial | exact q3 _ | exact hg | (show (1 : Int) ≤ 1; decide)) (by simp only [nx, q4]; omega)) (by (try simp only [su, su_item]); omega) (by refine Nat.le_trans ?_ (lb_ge _ _ _); omega))
              | (refine bk_ok ?_ ?_ <;> omega)))
           intro _ _ _ hx hy hz
           (try simp only [su, su_item] at hx)
           (try simp only [H _ hz, ag_sign H hz, ag_is H hz]))
        | (refine cut_bind (ih _ _ _ _ (by first | trivial | exact q3 _ | (show 1 ≤ _; first | exact hg | (have := str_ge (tok ts k).text; omega)) | exact Or.inl rfl | exact Or.inr (Or.inl rfl) | exact Or.inr (Or.inr rfl)) (by simp only [nx, q4]; omega) (fun hx => by first | with_reducible rfl | (repeat rw [H _ (by omega)]))) (by first | (refine Nat.le_trans ?_ (lb_ge _ _ _); omega) | (simp only [lb, hn, if_true]; omega)) ?_ ?_
           · (intro _ _ _ hx hy; (try simp only [su, su_item] at hx); repeat' (first
              | exact bk_bad (by omega) (by omega) | refine bk_want E (by omega) (by omega) (fun hk => ?_) | refine bk_name E (by omega) (by omega) (fun hk => ?_) | refine bk_is E (by omega) (fun hk => ?_) ?_ | refine bk_sign E (by omega) (fun hk => ?_) ?_ | refine bk_and E (by omega) (fun hk => ?_) ?_ | refine bk_ite (fun hc => ?_) (fun hc => ?_)
              | (refine bk_bind1 (fw _ _ _ (by first | trivial | exact q3 _ | exact hg | (show (1 : Int) ≤ 1; decide)) (by simp only [nx, q4]; omega)) (by refine Nat.le_trans ?_ (lb_ge _ _ _); omega) ?_; intro _ _ _ hx hy; (try simp only [su, su_item] at hx))
              | (refine bk_bind (fw _ _ _ (by first | trivial | exact q3 _ | exact hg | (show (1 : Int) ≤ 1; decide)) (by simp only [nx, q4]; omega)) (by refine Nat.le_trans ?_ (lb_ge _ _ _); omega) ?_; intro _ _ _ hx hy; (try simp only [su, su_item] at hx))
              | (refine bk_weak (fw _ _ _ (by first | trivial | exact q3 _ | exact hg | (show (1 : Int) ≤ 1; decide)) (by simp only [nx, q4]; omega)) (by (try simp only [su, su_item]); omega) (by refine Nat.le_trans ?_ (lb_ge _ _ _); omega))
              | (refine bk_ok ?_ ?_ <;> omega)))
           intro _ _ _ hx hy hz
           (try simp only [su, su_item] at hx)
           (try simp only [H _ hz, ag_sign H hz, ag_is H hz]))
        | (refine cut_weak (ih _ _ _ _ (by first | trivial | exact q3 _ | (show 1 ≤ _; first | exact hg | (have := str_ge (tok ts k).text; omega)) | exact Or.inl rfl | exact Or.inr (Or.inl rfl) | exact Or.inr (Or.inr rfl)) (by simp only [nx, q4]; omega) (fun hx => by first | with_reducible rfl | (repeat rw [H _ (by omega)]))) (by (try simp only [su, su_item]); omega) (by first | (refine Nat.le_trans ?_ (lb_ge _ _ _); omega) | (simp only [lb, hn, if_true]; omega)))
        | (refine cut_ok ?_ ?_ (fun hx => ?_)
           · omega
           · first | omega | exact E.kind (k := k) (by omega) (by rw [hn]; decide)
           · first | with_reducible rfl | (repeat rw [H _ (by omega)])))
theorem run_cut (ts ts' : List Tok) (N m : Nat) (E : Ends ts N) (H : Agr ts ts' m) : ∀ (n n' : Nat) (j j' : Job) (h : Bool) (k : Nat), Gd j → k + nx j < N → (k < m → j' = j) → Cut ts N m (k + su j) (lb ts j k) (run ts n j h k) (run ts' n' j' h k)
  | 0, _, _, _, _, _, _, _, _ => cut_out
  | n + 1, 0, j, j', h, k, hg, hp, hj => cut_none (run_bk ts N E (n + 1) j h k hg hp)
  | n + 1, n' + 1, j, j', h, k, hg, hp, hj => by
    by_cases hm : k < m
    · obtain rfl := hj hm
      exact step_cut ts ts' N m E H (run ts n) (run ts' n') (run_bk ts N E n) (run_cut ts ts' N m E H n n') j' h k hg hp hm
    · exact cut_far (by omega) (by have := lb_ge ts j k; omega) (run_bk ts N E (n + 1) j h k hg hp)
theorem bad_cut {ts ts' : List Tok} {N m n n' : Nat} {p : Int} {h : Bool} (E : Ends ts N) (h0 : 0 < N) (H : Agr ts ts' m) (hr : run ts n (.fileMore []) h 0 = .bad p) (ho : run ts' n' (.fileMore []) h 0 ≠ .out) (hp : ∀ i, m ≤ i → i < N → (tok ts i).pos ≠ p) : run ts' n' (.fileMore []) h 0 = .bad p := by
  obtain ⟨i, _, h2, h3, h4⟩ := (run_cut ts ts' N m E H n n' (.fileMore []) (.fileMore []) h 0 trivial (by simp only [nx]; omega) (fun _ => rfl)).2 p hr
  rcases Nat.lt_or_ge i m with hi | hi
  · rcases h4 hi with g | g
    · exact g
    · exact absurd g ho
  · exact absurd h3.symm (hp i hi h2)
end Go.Proofs.YtgckmkiiheaeaaaGreatDoor.Px
