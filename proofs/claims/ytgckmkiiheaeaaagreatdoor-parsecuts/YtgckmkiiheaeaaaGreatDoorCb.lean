/- The plain parser's faults: each stands at a token that is there, none ahead of where its rule began. -/
import Derived.Test.YtgckmkiiheaeaaaGreatDoorParF
set_option linter.unusedVariables false
set_option linter.unusedSimpArgs false
set_option maxRecDepth 100000
namespace Go.Proofs.YtgckmkiiheaeaaaGreatDoor.Px
open Go.Proofs.YtgckmkiiheaeaaaGreatDoor.Lx
def su : Job → Nat
  | .simple => 1 | .shaped => 1 | .primary => 1 | .operand => 1 | .wordOperand => 1 | .markOperand => 1 | .builtin _ => 1 | .labelled => 1
  | _ => 0
theorem su_item (it : It) : su it.job = 0 := by cases it <;> rfl
/-- The last token is the end. -/
structure Ends (ts : List Tok) (N : Nat) : Prop where
  len : ts.length = N
  kd : (tok ts (N - 1)).kind = 6
  tx : (tok ts (N - 1)).text = []
def nx : Job → Nat
  | .varStmt => 1 | .returnStmt => 1 | .callStmt _ => 1 | .labelled => 1 | .ifStmt => 1 | .forStmt => 1 | .switchStmt => 1 | .selectStmt => 1 | .typeDecl => 1 | .builtin _ => 1
  | _ => 0
def lb (ts : List Tok) (j : Job) (k : Nat) : Nat :=
  match j with
  | .labelled => k + 1
  | .simple => if (tok ts k).kind = 1 then k + 1 else k
  | .shaped => if (tok ts k).kind = 1 then k + 1 else k
  | .primary => if (tok ts k).kind = 1 then k + 1 else k
  | .operand => if (tok ts k).kind = 1 then k + 1 else k
  | _ => k
def Gd : Job → Prop
  | .op least => 1 ≤ least
  | .opOf _ least => 1 ≤ least
  | .builtin r => r = .makeArgs ∨ r = .newArgs ∨ r = .args
  | _ => True
def Bk (ts : List Tok) (N q b : Nat) (r : R) : Prop := (∀ l s k, r = .ok l s k → q ≤ k ∧ k < N) ∧ ∀ p, r = .bad p → ∃ i, b ≤ i ∧ i < N ∧ p = (tok ts i).pos
theorem lb_ge (ts : List Tok) (j : Job) (k : Nat) : k ≤ lb ts j k := by
  cases j <;> simp only [lb] <;> first | omega | (split <;> omega)
theorem sign_name {ts : List Tok} {k : Nat} (h : (tok ts k).kind = 1) : sign ts k = [] := by
  unfold sign; rw [h]; rfl
theorem is_name {ts : List Tok} {k : Nat} (h : (tok ts k).kind = 1) (l : List (List UInt8)) : isS ts k l = false := by
  unfold isS; rw [sign_name h]; rfl
theorem str_nil : strength [] = 0 := by decide
theorem str_ge (s : List UInt8) : 0 ≤ strength s := by
  unfold strength
  repeat' split
  all_goals decide
section
variable {ts : List Tok} {N q b : Nat}
theorem Ends.kind (E : Ends ts N) {k : Nat} (h : k < N) (hk : (tok ts k).kind ≠ 6) : k + 1 < N := by
  rcases Nat.lt_or_ge (k + 1) N with g | g
  · exact g
  · obtain rfl : k = N - 1 := by omega
    exact absurd E.kd hk
theorem Ends.text (E : Ends ts N) {k : Nat} (h : k < N) (hk : (tok ts k).text ≠ []) : k + 1 < N := by
  rcases Nat.lt_or_ge (k + 1) N with g | g
  · exact g
  · obtain rfl : k = N - 1 := by omega
    exact absurd E.tx hk
theorem Ends.sign (E : Ends ts N) {k : Nat} (h : k < N) (hk : sign ts k ≠ []) : k + 1 < N := by
  unfold Px.sign at hk
  split at hk
  · exact E.text h hk
  · exact absurd rfl hk
theorem Ends.is (E : Ends ts N) {k : Nat} {l : List (List UInt8)} (h : k < N) (hk : isS ts k l = true) : k + 1 < N := by
  unfold isS at hk
  simp only [Bool.and_eq_true, Bool.not_eq_true', List.isEmpty_eq_false_iff] at hk
  exact E.sign h hk.1
theorem Ends.lab (E : Ends ts N) {k : Nat} (h : k < N) (hk : labels ts k = true) : k + 1 < N := by
  unfold labels at hk
  simp only [Bool.and_eq_true, decide_eq_true_eq] at hk
  exact E.kind h (by rw [hk.1]; decide)
theorem Ends.str (E : Ends ts N) {k : Nat} {n : Int} (hn : 1 ≤ n) (h : k < N) (hk : n ≤ strength (Px.sign ts k)) : k + 1 < N :=
  E.sign h fun e => by rw [e, str_nil] at hk; omega
theorem Ends.has (E : Ends ts N) {k : Nat} {l : List (List UInt8)} (h : k < N) (h0 : l.contains [] = false) (hk : l.contains (tok ts k).text = true) : k + 1 < N :=
  E.text h fun e => by rw [e, h0] at hk; cases hk
theorem bk_ok {l : List Tree} {s : Int} {k : Nat} (h : q ≤ k) (g : k < N) : Bk ts N q b (.ok l s k) := ⟨(fun _ _ _ e => by cases e; exact ⟨h, g⟩), (fun _ e => by cases e)⟩
theorem bk_bad {k : Nat} (h : b ≤ k) (g : k < N) : Bk ts N q b (.bad (tok ts k).pos) := ⟨(fun _ _ _ e => by cases e), (fun _ e => by cases e; exact ⟨k, h, g, rfl⟩)⟩
theorem bk_out : Bk ts N q b .out := ⟨(fun _ _ _ e => by cases e), (fun _ e => by cases e)⟩
theorem bk_ite {c : Prop} [Decidable c] {x y : R} (h1 : c → Bk ts N q b x) (h2 : ¬ c → Bk ts N q b y) : Bk ts N q b (if c then x else y) := by
  by_cases h : c
  · rw [if_pos h]; exact h1 h
  · rw [if_neg h]; exact h2 h
theorem bk_want (E : Ends ts N) {k : Nat} {s : List UInt8} {f : Tok → Nat → R} (hk : k < N) (hb : b ≤ k) (h : k + 1 < N → Bk ts N q b (f (tok ts k) (k + 1))) : Bk ts N q b (want ts k s f) := bk_ite (fun e => h (E.is hk e)) (fun _ => bk_bad hb hk)
theorem bk_name (E : Ends ts N) {k : Nat} {f : Tok → Nat → R} (hk : k < N) (hb : b ≤ k) (h : k + 1 < N → Bk ts N q b (f (tok ts k) (k + 1))) : Bk ts N q b (wantName ts k f) := bk_ite (fun e => h (E.kind hk (by rw [e]; decide))) (fun _ => bk_bad hb hk)
theorem bk_is (E : Ends ts N) {k : Nat} {l : List (List UInt8)} {x y : R} (hk : k < N) (h1 : k + 1 < N → Bk ts N q b x) (h2 : Bk ts N q b y) : Bk ts N q b (if isS ts k l = true then x else y) := bk_ite (fun e => h1 (E.is hk e)) (fun _ => h2)
theorem bk_and (E : Ends ts N) {c : Prop} [Decidable c] {k : Nat} {l : List (List UInt8)} {x y : R} (hk : k < N) (h1 : k + 1 < N → Bk ts N q b x) (h2 : Bk ts N q b y) : Bk ts N q b (if c ∧ isS ts k l = true then x else y) := bk_ite (fun e => h1 (E.is hk e.2)) (fun _ => h2)
theorem bk_sign (E : Ends ts N) {k : Nat} {c : UInt8} {l : List UInt8} {x y : R} (hk : k < N) (h1 : k + 1 < N → Bk ts N q b x) (h2 : Bk ts N q b y) : Bk ts N q b (if sign ts k = c :: l then x else y) := bk_ite (fun e => h1 (E.sign hk (by rw [e]; simp))) (fun _ => h2)
theorem bk_text (E : Ends ts N) {k : Nat} {c : UInt8} {l : List UInt8} {x y : R} (hk : k < N) (h1 : k + 1 < N → Bk ts N q b x) (h2 : Bk ts N q b y) : Bk ts N q b (if (tok ts k).text = c :: l then x else y) := bk_ite (fun e => h1 (E.text hk (by rw [e]; simp))) (fun _ => h2)
theorem bk_hast (E : Ends ts N) {k : Nat} {l : List (List UInt8)} {x y : R} (hk : k < N) (h0 : l.contains [] = false) (h1 : k + 1 < N → Bk ts N q b x) (h2 : Bk ts N q b y) : Bk ts N q b (if l.contains (tok ts k).text = true then x else y) := bk_ite (fun e => h1 (E.has hk h0 e)) (fun _ => h2)
theorem bk_kind (E : Ends ts N) {k : Nat} {n : Int} {x y : R} (hk : k < N) (hn : n ≠ 6) (h1 : k + 1 < N → Bk ts N q b x) (h2 : Bk ts N q b y) : Bk ts N q b (if (tok ts k).kind = n then x else y) := bk_ite (fun e => h1 (E.kind hk (by rw [e]; exact hn))) (fun _ => h2)
theorem bk_lab (E : Ends ts N) {k : Nat} {x y : R} (hk : k < N) (h1 : k + 1 < N → Bk ts N q b x) (h2 : Bk ts N q b y) : Bk ts N q b (if labels ts k = true then x else y) := bk_ite (fun e => h1 (E.lab hk e)) (fun _ => h2)
theorem bk_str (E : Ends ts N) {k : Nat} {n : Int} {x y : R} (hk : k < N) (hn : 1 ≤ n) (h1 : k + 1 < N → Bk ts N q b x) (h2 : Bk ts N q b y) : Bk ts N q b (if n ≤ strength (sign ts k) then x else y) := bk_ite (fun e => h1 (E.str hn hk e)) (fun _ => h2)
theorem bk_bind {r : R} {q1 b1 : Nat} {f : List Tree → Int → Nat → R} (h : Bk ts N q1 b1 r) (hb : b ≤ b1) (g : ∀ l s k, q1 ≤ k → k < N → Bk ts N q b (f l s k)) : Bk ts N q b (r.bind f) := by
  cases r with
  | ok l s k => have := h.1 l s k rfl; exact g l s k this.1 this.2
  | bad p => refine ⟨(fun _ _ _ e => by cases e), fun _ e => ?_⟩; cases e; obtain ⟨i, h1, h2⟩ := h.2 p rfl; exact ⟨i, by omega, h2⟩
  | out => exact bk_out
theorem bk_bind1 {r : R} {q1 b1 : Nat} {f : Tree → Int → Nat → R} (h : Bk ts N q1 b1 r) (hb : b ≤ b1) (g : ∀ t s k, q1 ≤ k → k < N → Bk ts N q b (f t s k)) : Bk ts N q b (r.bind1 f) := by
  cases r with
  | ok l s k =>
    have := h.1 l s k rfl
    match l with
    | [] => exact bk_out
    | [t] => exact g t s k this.1 this.2
    | _ :: _ :: _ => exact bk_out
  | bad p => refine ⟨(fun _ _ _ e => by cases e), fun _ e => ?_⟩; cases e; obtain ⟨i, h1, h2⟩ := h.2 p rfl; exact ⟨i, by omega, h2⟩
  | out => exact bk_out
theorem bk_weak {r : R} {q1 b1 : Nat} (h : Bk ts N q1 b1 r) (hq : q ≤ q1) (hb : b ≤ b1) : Bk ts N q b r := ⟨(fun l s k e => by have := h.1 l s k e; exact ⟨by omega, this.2⟩), fun p e => by obtain ⟨i, h1, h2⟩ := h.2 p e; exact ⟨i, by omega, h2⟩⟩
end
set_option maxHeartbeats 40000000 in
theorem step_bk (ts : List Tok) (N : Nat) (E : Ends ts N) (rec : Job → Bool → Nat → R) (ih : ∀ j h k, Gd j → k + nx j < N → Bk ts N (k + su j) (lb ts j k) (rec j h k)) (j : Job) (h : Bool) (k : Nat) (hg : Gd j) (hp : k + nx j < N) : Bk ts N (k + su j) (lb ts j k) (step ts rec j h k) := by
  have q3 : ∀ it : It, Gd it.job := by intro it; cases it <;> trivial
  have q4 : ∀ it : It, nx it.job = 0 := by intro it; cases it <;> rfl
  by_cases hn : (tok ts k).kind = 1
  all_goals
    cases j
    all_goals
      simp only [nx] at hp
      simp only [step, fWtype, fResult, fNamed, fListed, fListMore, fFunction, fBlock, fStmts, fStmt, fVarStmt, fReturnStmt, fCallStmt, fLabelled, fSimple, fActing, fIfStmt, fBreakable, fForStmt, forTail2, forTail, fForHead, fForLead, fSwitchStmt, fSelectStmt, fClauses, fClausesMore, fClause, fCaseMore, fClauseBlock, fComm, fCommHead, fOp, fOpOf, fUnary, fShaped, fPrimary, fPrimMore, fBr3, fBr2, fBracketed, fOperand, fWordOperand, fBuiltin, fMakeArgs, fNewArgs, fMarkOperand, fBraced, fBracedMore, fInitial, fDecl, fTypeDecl, fFieldsMore, fFileMore, jump, behind, su, lb]
      (try (rename_i it acc; (have hit : It := it); clear hit; cases it <;> simp only [It.job]))
      (try (rename_i it; (have hit : It := it); clear hit; cases it <;> simp only [It.job]))
      (try (rcases (show _ ∨ _ ∨ _ from hg) with rfl | rfl | rfl))
      (try (rename_i c acc; cases c <;> simp only [Bool.false_eq_true, if_false, if_true]))
      (try simp only [is_name hn])
      (try simp only [hn, if_true, if_false, Bool.false_eq_true, and_false])
      repeat' (first
        | exact bk_bad (by omega) (by omega)
        | refine bk_want E (by omega) (by omega) (fun hk => ?_)
        | refine bk_name E (by omega) (by omega) (fun hk => ?_)
        | refine bk_is E (by omega) (fun hk => ?_) ?_
        | refine bk_sign E (by omega) (fun hk => ?_) ?_
        | refine bk_text E (by omega) (fun hk => ?_) ?_
        | refine bk_and E (by omega) (fun hk => ?_) ?_
        | refine bk_hast E (by omega) rfl (fun hk => ?_) ?_
        | refine bk_kind E (by omega) (by decide) (fun hk => ?_) ?_
        | refine bk_lab E (by omega) (fun hk => ?_) ?_
        | refine bk_str E (by omega) hg (fun hk => ?_) ?_
        | refine bk_ite (fun hc => ?_) (fun hc => ?_)
        | (refine bk_bind1 (ih _ _ _ (by first | trivial | exact q3 _ | (show 1 ≤ _; first | exact hg | (have := str_ge (tok ts k).text; omega)) | exact Or.inl rfl | exact Or.inr (Or.inl rfl) | exact Or.inr (Or.inr rfl)) (by simp only [nx, q4]; omega)) (by first | (refine Nat.le_trans ?_ (lb_ge _ _ _); omega) | (simp only [lb, hn, if_true]; omega)) ?_; intro _ _ _ hx hy; (try simp only [su, su_item] at hx))
        | (refine bk_bind (ih _ _ _ (by first | trivial | exact q3 _ | (show 1 ≤ _; first | exact hg | (have := str_ge (tok ts k).text; omega)) | exact Or.inl rfl | exact Or.inr (Or.inl rfl) | exact Or.inr (Or.inr rfl)) (by simp only [nx, q4]; omega)) (by first | (refine Nat.le_trans ?_ (lb_ge _ _ _); omega) | (simp only [lb, hn, if_true]; omega)) ?_; intro _ _ _ hx hy; (try simp only [su, su_item] at hx))
        | (refine bk_weak (ih _ _ _ (by first | trivial | exact q3 _ | (show 1 ≤ _; first | exact hg | (have := str_ge (tok ts k).text; omega)) | exact Or.inl rfl | exact Or.inr (Or.inl rfl) | exact Or.inr (Or.inr rfl)) (by simp only [nx, q4]; omega)) (by (try simp only [su, su_item]); omega) (by first | (refine Nat.le_trans ?_ (lb_ge _ _ _); omega) | (simp only [lb, hn, if_true]; omega)))
        | (refine bk_ok ?_ ?_ <;> omega)
        | (have hz := E.kind (k := k) (by omega) (by rw [hn]; decide); refine bk_ok ?_ ?_ <;> omega))
theorem run_bk (ts : List Tok) (N : Nat) (E : Ends ts N) : ∀ (n : Nat) (j : Job) (h : Bool) (k : Nat), Gd j → k + nx j < N → Bk ts N (k + su j) (lb ts j k) (run ts n j h k)
  | 0, _, _, _, _, _ => bk_out
  | n + 1, j, h, k, hg, hp => step_bk ts N E (run ts n) (run_bk ts N E n) j h k hg hp
end Go.Proofs.YtgckmkiiheaeaaaGreatDoor.Px
