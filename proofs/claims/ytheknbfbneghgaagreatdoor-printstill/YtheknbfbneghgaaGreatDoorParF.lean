import Derived.Test.YtheknbfbneghgaaGreatDoorParP
set_option maxHeartbeats 2000000
set_option maxRecDepth 100000
namespace Go.Proofs.YtheknbfbneghgaaGreatDoor.Px
open Lx
def st : Job → Nat
 | .clause => 1
 | .comm => 1
 | _ => 0
def bnd : Job → Nat
 | .listMore _ acc => acc.length
 | .stmts acc => acc.length + 1
 | .clausesMore _ acc => acc.length
 | .caseMore acc => acc.length
 | .bracedMore _ acc => acc.length
 | .fieldsMore acc => acc.length
 | .listed _ => 1
 | _ => 4
def F (P : List Tree → Int → Nat → Prop) (r : R) : Prop := ∀ l s k', r = .ok l s k' → P l s k'
section
variable {P Q : List Tree → Int → Nat → Prop} {ts : List Tok}
theorem fine_ok {l : List Tree} {s : Int} {k : Nat} (h : P l s k) : F P (.ok l s k) := fun _ _ _ e => by cases e; exact h
theorem fine_bad {p : Int} : F P (.bad p) := fun _ _ _ e => by cases e
theorem fine_out : F P .out := fun _ _ _ e => by cases e
theorem fine_ite {c : Prop} [Decidable c] {a b : R} (h1 : c → F P a) (h2 : ¬ c → F P b) : F P (if c then a else b) := by
 by_cases h : c
 ·rw [if_pos h]; exact h1 h
 ·rw [if_neg h]; exact h2 h
theorem fine_want {k : Nat} {s : List UInt8} {f : Tok → Nat → R} (h : F P (f (zp ts k) (k + 1))) : F P (want ts k s f) := fine_ite (fun _ => h) (fun _ => fine_bad)
theorem fine_name {k : Nat} {f : Tok → Nat → R} (h : F P (f (zp ts k) (k + 1))) : F P (wantName ts k f) := fine_ite (fun _ => h) (fun _ => fine_bad)
theorem fine_bind {r : R} {f : List Tree → Int → Nat → R} (h : F Q r) (k : ∀ l s k', Q l s k' → F P (f l s k')) : F P (r.bind f) := by
 cases r with
 | ok l s k' => exact k l s k' (h l s k' rfl)
 | bad p => exact fine_bad
 | out => exact fine_out
theorem fine_bind1 {r : R} {f : Tree → Int → Nat → R} (h : F Q r) (k : ∀ t s k', Q [t] s k' → F P (f t s k')) : F P (r.bind1 f) := by
 cases r with
 | ok l s k' =>
   match l, h with
   | [], _ => exact fine_out
   | [t], h => exact k t s k' (h [t] s k' rfl)
   | _ :: _ :: _, _ => exact fine_out
 | bad p => exact fine_bad
 | out => exact fine_out
theorem fine_tail {r : R} (h : F Q r) (k : ∀ l s k', Q l s k' → P l s k') : F P r := fun l s k' e => k l s k' (h l s k' e)
end
def Fine (j : Job) (k : Nat) (r : R) : Prop := F (fun l _ k' => k + st j ≤ k' ∧ l.length ≤ bnd j + (k' - k)) r
set_option linter.unusedSimpArgs false in
theorem step_fine (ts : List Tok) (rec : Job → Bool → Nat → R) (ih : ∀ j h k, Fine j k (rec j h k)) (j : Job) (h : Bool) (k : Nat) : Fine j k (step ts rec j h k) := by
 unfold Fine
 have q1 : ∀ it : It, st it.job = 0 := by intro it; cases it <;> rfl
 have q2 : ∀ it : It, bnd it.job = 4 := by intro it; cases it <;> rfl
 cases j
 all_goals
  simp only [step, fWtype, fResult, fNamed, fListed, yo, fFunction, fBlock, fStmts, fStmt, fVarStmt, fReturnStmt, fCallStmt, fLabelled, fSimple, yO, fIfStmt, fBreakable, fForStmt, yY, fForLead, yt, fSelectStmt, fClauses, yu, fClause, fCaseMore, fClauseBlock, fComm, yl, fOp, fOpOf, fUnary, fShaped, fPrimary, fPrimMore, yH, fOperand, yC, fBuiltin, fMakeArgs, fNewArgs, yG, fBraced, yk, fInitial, fDecl, fTypeDecl, fFieldsMore, fFileMore, yn, ya, fBr2, fBr3, jump]
  repeat' (first
   | exact fine_bad
   | refine fine_ite (fun _ => ?_) (fun _ => ?_)
   | refine fine_want ?_
   | refine fine_name ?_
   | (refine fine_bind1 (ih _ _ _) ?_; rintro _ _ _ ⟨_, _⟩)
   | (refine fine_bind (ih _ _ _) ?_; rintro _ _ _ ⟨_, _⟩)
   | (refine fine_tail (ih _ _ _) ?_; rintro _ _ _ ⟨_, _⟩)
   | refine fine_ok ?_)
  all_goals (try split at *)
  all_goals (simp only [st, bnd, q1, q2, List.length_append, List.length_cons, List.length_nil] at *)
  all_goals (try (refine ⟨?_, ?_⟩ <;> omega))
theorem yq (ts : List Tok) : ∀ (n : Nat) (j : Job) (h : Bool) (k : Nat), Fine j k (run ts n j h k)
 | 0, _, _, _ => fine_out
 | n + 1, j, h, k => step_fine ts (run ts n) (fun j h k => yq ts n j h k) j h k
end Go.Proofs.YtheknbfbneghgaaGreatDoor.Px
