import Derived.Test.YtgckmkiiheaeaaaGreatDoorParF
import Derived.Test.YtgckmkiiheaeaaaGreatDoorLexP
set_option linter.unusedVariables false
set_option linter.unusedSimpArgs false
set_option maxRecDepth 100000
namespace Go.Proofs.YtgckmkiiheaeaaaGreatDoor.Px
open Lx
structure TRel where
 E : Tree → Tree → Prop
 L : List Tree → List Tree → Prop
 P : Int → Int → Prop
 node : ∀ {a : Int} {b : List UInt8} {c p p' : Int} {l l' : List Tree}, P p p' → L l l' → E (.mk a b c p l) (.mk a b c p' l')
 nil : L [] []
 cons : ∀ {t t' : Tree} {l l' : List Tree}, E t t' → L l l' → L (t :: l) (t' :: l')
 app : ∀ {l l' r r' : List Tree}, L l l' → L r r' → L (l ++ r) (l' ++ r')
 text : ∀ {t t' : Tree}, E t t' → t.text = t'.text
 pos : ∀ {t t' : Tree}, E t t' → P t.pos t'.pos
 kids : ∀ {t t' : Tree}, E t t' → L t.kids t'.kids
 zero : P 0 0
 reflE : ∀ t, E t t
 reflL : ∀ l, L l l
 reflP : ∀ p, P p p
 one : ∀ {t : Tree} {l' : List Tree}, L [t] l' → ∃ t', l' = [t'] ∧ E t t'
def su : Job → Nat
 | .simple => 1 | .shaped => 1 | .primary => 1 | .operand => 1 | .wordOperand => 1 | .markOperand => 1 | .builtin _ => 1 | .labelled => 1
 | _ => 0
def JR (T : TRel) : Job → Job → Prop
 | .listMore it acc, .listMore it' acc' => it = it' ∧ T.L acc acc'
 | .stmts acc, .stmts acc' => T.L acc acc'
 | .acting t s, .acting t' s' => T.E t t' ∧ s = s'
 | .clausesMore c acc, .clausesMore c' acc' => c = c' ∧ T.L acc acc'
 | .caseMore acc, .caseMore acc' => T.L acc acc'
 | .opOf t n, .opOf t' n' => T.E t t' ∧ n = n'
 | .primMore t s, .primMore t' s' => T.E t t' ∧ s = s'
 | .bracketed t p, .bracketed t' p' => T.E t t' ∧ T.P p p'
 | .bracedMore it acc, .bracedMore it' acc' => it = it' ∧ T.L acc acc'
 | .fieldsMore acc, .fieldsMore acc' => T.L acc acc'
 | .fileMore acc, .fileMore acc' => T.L acc acc'
 | .wtype, .wtype => True | .result, .result => True | .named a, .named b => a = b | .listed a, .listed b => a = b
 | .function, .function => True | .block, .block => True | .stmt, .stmt => True | .varStmt, .varStmt => True | .returnStmt, .returnStmt => True
 | .callStmt a, .callStmt b => a = b | .labelled, .labelled => True | .simple, .simple => True | .ifStmt, .ifStmt => True | .breakable, .breakable => True
 | .forStmt, .forStmt => True | .forHead, .forHead => True | .forLead, .forLead => True | .switchStmt, .switchStmt => True | .selectStmt, .selectStmt => True
 | .clauses a, .clauses b => a = b | .clause, .clause => True | .clauseBlock, .clauseBlock => True | .comm, .comm => True | .commHead, .commHead => True
 | .expr, .expr => True | .op a, .op b => a = b | .unary, .unary => True | .shaped, .shaped => True | .primary, .primary => True | .args, .args => True
 | .operand, .operand => True | .wordOperand, .wordOperand => True | .builtin a, .builtin b => a = b
 | .makeArgs, .makeArgs => True | .newArgs, .newArgs => True | .markOperand, .markOperand => True | .braced a, .braced b => a = b
 | .initial, .initial => True | .decl, .decl => True | .typeDecl, .typeDecl => True
 | _, _ => False
def TokR (T : TRel) (m o : Nat) (ts ts' : List Tok) : Prop := ∀ i, i < m → (tok ts' (i + o)).kind = (tok ts i).kind ∧ (tok ts' (i + o)).text = (tok ts i).text ∧ (tok ts' (i + o)).num = (tok ts i).num ∧ T.P (tok ts i).pos (tok ts' (i + o)).pos
def Sim (T : TRel) (m o q : Nat) (r r' : R) : Prop := ∀ l s k, r = .ok l s k → q ≤ k ∧ (k < m → ∃ l' kk, r' = .ok l' s kk ∧ kk = k + o ∧ T.L l l')
section
variable {T : TRel} {m o : Nat} {ts ts' : List Tok} {q : Nat}
theorem sim_ok {l l' : List Tree} {s s' : Int} {k kk : Nat} (hq : q ≤ k) (hk : kk = k + o) (hs : s' = s) (hl : k < m → T.L l l') : Sim T m o q (.ok l s k) (.ok l' s' kk) := by
 intro l0 s0 k0 e
 cases e
 exact ⟨hq, fun h => ⟨l', kk, by rw [hs], hk, hl h⟩⟩
theorem sim_bad {p : Int} {r' : R} : Sim T m o q (.bad p) r' := fun _ _ _ e => by cases e
theorem sim_out {r' : R} : Sim T m o q .out r' := fun _ _ _ e => by cases e
theorem sim_weak {p : Nat} {r r' : R} (hp : q ≤ p) (h : Sim T m o p r r') : Sim T m o q r r' := fun l s k e => ⟨Nat.le_trans hp (h l s k e).1, (h l s k e).2⟩
theorem sim_low {c c' : Prop} [Decidable c] [Decidable c'] {i : Nat} {a b a' b' : R} (hi : i ≤ q) (hc : i < m → (c' ↔ c)) (h1 : c → Sim T m o q a a') (h2 : ¬ c → Sim T m o q b b') : Sim T m o q (if c then a else b) (if c' then a' else b') := by
 intro l s k e
 by_cases h : c
 ·rw [if_pos h] at e
  have g := h1 h l s k e
  refine ⟨g.1, fun hk => ?_⟩
  rw [if_pos ((hc (by omega)).2 h)]
  exact g.2 hk
 ·rw [if_neg h] at e
  have g := h2 h l s k e
  refine ⟨g.1, fun hk => ?_⟩
  rw [if_neg (fun x => h ((hc (by omega)).1 x))]
  exact g.2 hk
theorem sim_if {c c' : Prop} [Decidable c] [Decidable c'] {i : Nat} {a b a' b' : R} (hc : i < m → (c' ↔ c)) (hi : i ≤ q ∨ q ≤ i) (h1 : c → Sim T m o (max q i) a a') (h2 : ¬ c → Sim T m o (max q i) b b') : Sim T m o q (if c then a else b) (if c' then a' else b') :=
 sim_weak (Nat.le_max_left _ _) (sim_low (i := i) (Nat.le_max_right _ _) hc h1 h2)
theorem sim_same {c : Prop} [Decidable c] {a b a' b' : R} (h1 : c → Sim T m o q a a') (h2 : ¬ c → Sim T m o q b b') : Sim T m o q (if c then a else b) (if c then a' else b') := by
 by_cases h : c
 ·rw [if_pos h, if_pos h]; exact h1 h
 ·rw [if_neg h, if_neg h]; exact h2 h
theorem tk_kind (H : TokR T m o ts ts') {i ii : Nat} (hi : ii = i + o) (h : i < m) : (tok ts' ii).kind = (tok ts i).kind := by subst hi; exact (H i h).1
theorem tk_text (H : TokR T m o ts ts') {i ii : Nat} (hi : ii = i + o) (h : i < m) : (tok ts' ii).text = (tok ts i).text := by subst hi; exact (H i h).2.1
theorem tk_num (H : TokR T m o ts ts') {i ii : Nat} (hi : ii = i + o) (h : i < m) : (tok ts' ii).num = (tok ts i).num := by subst hi; exact (H i h).2.2.1
theorem tk_pos (H : TokR T m o ts ts') {i ii : Nat} (hi : ii = i + o) (h : i < m) : T.P (tok ts i).pos (tok ts' ii).pos := by subst hi; exact (H i h).2.2.2
theorem tk_sign (H : TokR T m o ts ts') {i ii : Nat} (hi : ii = i + o) (h : i < m) : sign ts' ii = sign ts i := by
 unfold sign; rw [tk_kind H hi h, tk_text H hi h]
theorem tk_is (H : TokR T m o ts ts') {i ii : Nat} (hi : ii = i + o) (h : i < m) (l : List (List UInt8)) : isS ts' ii l = isS ts i l := by
 unfold isS; rw [tk_sign H hi h]
theorem sim_is (H : TokR T m o ts ts') {i ii : Nat} {L : List (List UInt8)} {a b a' b' : R} (hi : ii = i + o) (hq : i ≤ q ∨ q ≤ i) (h1 : Sim T m o (max q i) a a') (h2 : Sim T m o (max q i) b b') : Sim T m o q (if isS ts i L = true then a else b) (if isS ts' ii L = true then a' else b') :=
 sim_if (i := i) (fun h => by rw [tk_is H hi h]) hq (fun _ => h1) (fun _ => h2)
theorem sim_and (H : TokR T m o ts ts') {c : Prop} [Decidable c] {i ii : Nat} {L : List (List UInt8)} {a b a' b' : R} (hi : ii = i + o) (hq : i ≤ q ∨ q ≤ i) (h1 : Sim T m o (max q i) a a') (h2 : Sim T m o (max q i) b b') : Sim T m o q (if c ∧ isS ts i L = true then a else b) (if c ∧ isS ts' ii L = true then a' else b') :=
 sim_if (i := i) (fun h => by rw [tk_is H hi h]) hq (fun _ => h1) (fun _ => h2)
theorem sim_sign (H : TokR T m o ts ts') {i ii : Nat} {L : List UInt8} {a b a' b' : R} (hi : ii = i + o) (hq : i ≤ q ∨ q ≤ i) (h1 : Sim T m o (max q i) a a') (h2 : Sim T m o (max q i) b b') : Sim T m o q (if sign ts i = L then a else b) (if sign ts' ii = L then a' else b') :=
 sim_if (i := i) (fun h => by rw [tk_sign H hi h]) hq (fun _ => h1) (fun _ => h2)
theorem sim_has (H : TokR T m o ts ts') {i ii : Nat} {L : List (List UInt8)} {a b a' b' : R} (hi : ii = i + o) (hq : i ≤ q ∨ q ≤ i) (h1 : Sim T m o (max q i) a a') (h2 : Sim T m o (max q i) b b') : Sim T m o q (if L.contains (sign ts i) = true then a else b) (if L.contains (sign ts' ii) = true then a' else b') :=
 sim_if (i := i) (fun h => by rw [tk_sign H hi h]) hq (fun _ => h1) (fun _ => h2)
theorem sim_kind (H : TokR T m o ts ts') {i ii : Nat} {L : Int} {a b a' b' : R} (hi : ii = i + o) (hq : i ≤ q ∨ q ≤ i) (h1 : Sim T m o (max q i) a a') (h2 : Sim T m o (max q i) b b') : Sim T m o q (if (tok ts i).kind = L then a else b) (if (tok ts' ii).kind = L then a' else b') :=
 sim_if (i := i) (fun h => by rw [tk_kind H hi h]) hq (fun _ => h1) (fun _ => h2)
theorem sim_text (H : TokR T m o ts ts') {i ii : Nat} {L : List UInt8} {a b a' b' : R} (hi : ii = i + o) (hq : i ≤ q ∨ q ≤ i) (h1 : Sim T m o (max q i) a a') (h2 : Sim T m o (max q i) b b') : Sim T m o q (if (tok ts i).text = L then a else b) (if (tok ts' ii).text = L then a' else b') :=
 sim_if (i := i) (fun h => by rw [tk_text H hi h]) hq (fun _ => h1) (fun _ => h2)
theorem sim_hast (H : TokR T m o ts ts') {i ii : Nat} {L : List (List UInt8)} {a b a' b' : R} (hi : ii = i + o) (hq : i ≤ q ∨ q ≤ i) (h1 : Sim T m o (max q i) a a') (h2 : Sim T m o (max q i) b b') : Sim T m o q (if L.contains (tok ts i).text = true then a else b) (if L.contains (tok ts' ii).text = true then a' else b') :=
 sim_if (i := i) (fun h => by rw [tk_text H hi h]) hq (fun _ => h1) (fun _ => h2)
theorem sim_str (H : TokR T m o ts ts') {i ii : Nat} {n : Int} {a b a' b' : R} (hi : ii = i + o) (hq : i ≤ q ∨ q ≤ i) (h1 : Sim T m o (max q i) a a') (h2 : Sim T m o (max q i) b b') : Sim T m o q (if n ≤ strength (sign ts i) then a else b) (if n ≤ strength (sign ts' ii) then a' else b') :=
 sim_if (i := i) (fun h => by rw [tk_sign H hi h]) hq (fun _ => h1) (fun _ => h2)
theorem sim_labels (H : TokR T m o ts ts') {i ii : Nat} {a b a' b' : R} (hi : ii = i + o) (hq : i + 1 ≤ q ∨ q ≤ i + 1) (h1 : Sim T m o (max q (i + 1)) a a') (h2 : Sim T m o (max q (i + 1)) b b') : Sim T m o q (if labels ts i = true then a else b) (if labels ts' ii = true then a' else b') :=
 sim_if (i := i + 1) (fun h => by unfold labels; rw [tk_kind H hi (by omega), tk_kind H (ii := ii + 1) (i := i + 1) (by omega) h, tk_text H (ii := ii + 1) (i := i + 1) (by omega) h]) hq (fun _ => h1) (fun _ => h2)
theorem sim_want (H : TokR T m o ts ts') {i ii : Nat} {s : List UInt8} {f f' : Tok → Nat → R} (hi : ii = i + o) (hq : i ≤ q ∨ q ≤ i) (h : Sim T m o (max q i) (f (tok ts i) (i + 1)) (f' (tok ts' ii) (ii + 1))) : Sim T m o q (want ts i s f) (want ts' ii s f') := sim_is H hi hq h sim_bad
theorem sim_name (H : TokR T m o ts ts') {i ii : Nat} {f f' : Tok → Nat → R} (hi : ii = i + o) (hq : i ≤ q ∨ q ≤ i) (h : Sim T m o (max q i) (f (tok ts i) (i + 1)) (f' (tok ts' ii) (ii + 1))) : Sim T m o q (wantName ts i f) (wantName ts' ii f') := sim_kind H hi hq h sim_bad
def Fw (q : Nat) (r : R) : Prop := F (fun _ _ k => q ≤ k) r
theorem sim_far {r r' : R} (hm : m ≤ q) (h : Fw q r) : Sim T m o q r r' := fun l s k e => ⟨h l s k e, fun hk => absurd (h l s k e) (by omega)⟩
theorem sim_bind {r r' : R} {a : Nat} {f f' : List Tree → Int → Nat → R} (h : Sim T m o a r r') (g1 : ∀ l s k, a ≤ k → Fw (max q k) (f l s k))
 (g2 : ∀ l l' s k kk, kk = k + o → a ≤ k → k < m → T.L l l' → Sim T m o (max q k) (f l s k) (f' l' s kk)) : Sim T m o q (r.bind f) (r'.bind f') := by
 cases r with
 | bad p => exact sim_bad
 | out => exact sim_out
 | ok l s k =>
   obtain ⟨h1, h2⟩ := h l s k rfl
   intro l0 s0 k0 e
   have e : f l s k = .ok l0 s0 k0 := e
   have hw : max q k ≤ k0 := g1 l s k h1 l0 s0 k0 e
   refine ⟨by omega, fun hm => ?_⟩
   obtain ⟨l', kk, rfl, hk, hl⟩ := h2 (by omega)
   exact (g2 l l' s k kk hk h1 (by omega) hl l0 s0 k0 e).2 hm
theorem sim_bind1 {r r' : R} {a : Nat} {f f' : Tree → Int → Nat → R} (h : Sim T m o a r r') (g1 : ∀ t s k, a ≤ k → Fw (max q k) (f t s k))
 (g2 : ∀ t t' s k kk, kk = k + o → a ≤ k → k < m → T.E t t' → Sim T m o (max q k) (f t s k) (f' t' s kk)) : Sim T m o q (r.bind1 f) (r'.bind1 f') := by
 cases r with
 | bad p => exact sim_bad
 | out => exact sim_out
 | ok l s k =>
   match l, h with
   | [], _ => exact sim_out
   | _ :: _ :: _, _ => exact sim_out
   | [t], h =>
     obtain ⟨h1, h2⟩ := h [t] s k rfl
     intro l0 s0 k0 e
     have e : f t s k = .ok l0 s0 k0 := e
     have hw : max q k ≤ k0 := g1 t s k h1 l0 s0 k0 e
     refine ⟨by omega, fun hm => ?_⟩
     obtain ⟨l', kk, rfl, hk, hl⟩ := h2 (by omega)
     obtain ⟨t', rfl, ht⟩ := T.one hl
     exact (g2 t t' s k kk hk h1 (by omega) ht l0 s0 k0 e).2 hm
end
open Lx
theorem nd_rel {T : TRel} {a : Int} {b b' : List UInt8} {p p' : Int} {l l' : List Tree} (hb : b' = b) (hp : T.P p p') (hl : T.L l l') : T.E (nd a b p l) (nd a b' p' l') := by subst hb; exact T.node hp hl
theorem none_rel {T : TRel} : T.E none8 none8 := T.node T.zero T.nil
theorem alone_rel {T : TRel} {t t' : Tree} (h : T.E t t') : T.E (alone t) (alone t') := nd_rel rfl (T.pos h) (T.cons h T.nil)
theorem num_rel {T : TRel} {a n n' : Int} {p p' : Int} (hn : n' = n) (hp : T.P p p') : T.E (.mk a [] n p []) (.mk a [] n' p' []) := by subst hn; exact T.node hp T.nil
theorem jr_refl (T : TRel) (j : Job) : JR T j j := by
 cases j <;> first | trivial | rfl | exact T.reflL _ | exact ⟨rfl, T.reflL _⟩ | exact ⟨T.reflE _, rfl⟩ | exact ⟨T.reflE _, T.reflP _⟩
theorem su_item (it : It) : su it.job = 0 := by cases it <;> rfl
set_option maxHeartbeats 4000000 in
theorem step_fw (ts : List Tok) (rec : Job → Bool → Nat → R) (ih : ∀ j h k, Fw (k + su j) (rec j h k)) (j : Job) (h : Bool) (k : Nat) : Fw (k + su j) (step ts rec j h k) := by
 unfold Fw at *
 cases j
 all_goals
  simp only [step, fWtype, fResult, fNamed, fListed, fListMore, fFunction, fBlock, fStmts, fStmt, fVarStmt, fReturnStmt, fCallStmt, fLabelled, fSimple, fActing, fIfStmt, fBreakable, fForStmt, forTail2, forTail, fForHead, fForLead, fSwitchStmt, fSelectStmt, fClauses, fClausesMore, fClause, fCaseMore, fClauseBlock, fComm, fCommHead, fOp, fOpOf, fUnary, fShaped, fPrimary, fPrimMore, fBr3, fBr2, fBracketed, fOperand, fWordOperand, fBuiltin, fMakeArgs, fNewArgs, fMarkOperand, fBraced, fBracedMore, fInitial, fDecl, fTypeDecl, fFieldsMore, fFileMore, jump, behind]
  repeat' (first
   | exact fine_bad
   | refine fine_want ?_
   | refine fine_name ?_
   | refine fine_ite (fun _ => ?_) (fun _ => ?_)
   | (refine fine_bind1 (ih _ _ _) ?_; intro _ _ _ hx; (try simp only [su, su_item] at hx))
   | (refine fine_bind (ih _ _ _) ?_; intro _ _ _ hx; (try simp only [su, su_item] at hx))
   | (refine fine_tail (ih _ _ _) ?_; intro _ _ _ hx; (try simp only [su, su_item] at hx ⊢); omega)
   | (refine fine_ok ?_; (try simp only [su]); omega))
theorem run_fw (ts : List Tok) : ∀ (n : Nat) (j : Job) (h : Bool) (k : Nat), Fw (k + su j) (run ts n j h k)
 | 0, _, _, _ => fun _ _ _ e => by cases e
 | n + 1, j, h, k => step_fw ts (run ts n) (run_fw ts n) j h k
set_option maxHeartbeats 40000000 in
theorem step_sim (T : TRel) (m o : Nat) (ts ts' : List Tok) (H : TokR T m o ts ts') (rec rec' : Job → Bool → Nat → R) (fw : ∀ j h k, Fw (k + su j) (rec j h k))
 (ih : ∀ j j' h k kk, kk = k + o → (k < m → JR T j j') → Sim T m o (k + su j) (rec j h k) (rec' j' h kk))
 (j j' : Job) (hj : JR T j j') (h : Bool) (k kk : Nat) (hk : kk = k + o) (hm : k < m) : Sim T m o (k + su j) (step ts rec j h k) (step ts' rec' j' h kk) := by
 cases j <;> cases j' <;> first | exact hj.elim | skip
 all_goals
  simp only [JR] at hj
  (try obtain ⟨hj1, hj2⟩ := hj)
  (try subst hj)
  (try subst hj1)
  (try subst hj2)
  simp only [step, fWtype, fResult, fNamed, fListed, fListMore, fFunction, fBlock, fStmts, fStmt, fVarStmt, fReturnStmt, fCallStmt, fLabelled, fSimple, fActing, fIfStmt, fBreakable, fForStmt, forTail2, forTail, fForHead, fForLead, fSwitchStmt, fSelectStmt, fClauses, fClausesMore, fClause, fCaseMore, fClauseBlock, fComm, fCommHead, fOp, fOpOf, fUnary, fShaped, fPrimary, fPrimMore, fBr3, fBr2, fBracketed, fOperand, fWordOperand, fBuiltin, fMakeArgs, fNewArgs, fMarkOperand, fBraced, fBracedMore, fInitial, fDecl, fTypeDecl, fFieldsMore, fFileMore, jump, behind, su]
  repeat' (first
   | exact sim_bad
   | refine sim_want H (by omega) (by omega) ?_
   | refine sim_name H (by omega) (by omega) ?_
   | refine sim_is H (by omega) (by omega) ?_ ?_
   | refine sim_sign H (by omega) (by omega) ?_ ?_
   | refine sim_has H (by omega) (by omega) ?_ ?_
   | refine sim_kind H (by omega) (by omega) ?_ ?_
   | refine sim_text H (by omega) (by omega) ?_ ?_
   | refine sim_hast H (by omega) (by omega) ?_ ?_
   | refine sim_str H (by omega) (by omega) ?_ ?_
   | refine sim_labels H (by omega) (by omega) ?_ ?_
   | refine sim_and H (by omega) (by omega) ?_ ?_
   | refine sim_same (fun _ => ?_) (fun _ => ?_)
   | (refine sim_bind1 (ih _ _ _ _ _ (by omega) (fun hx => ?_)) ?_ ?_
      ·first | exact jr_refl T _ | ((try simp only [JR, and_true, true_and]); rw [tk_text H (by omega) (by omega)]; done) | ((try simp only [JR, and_true, true_and]); (repeat' (first | assumption | exact none_rel | exact T.nil | exact T.zero | rfl | exact tk_pos H (by omega) (by omega) | exact tk_text H (by omega) (by omega) | exact tk_sign H (by omega) (by omega) | exact tk_num H (by omega) (by omega) | exact T.pos (by assumption) | exact T.kids (by assumption) | exact (T.text (by assumption)).symm | refine T.cons ?_ ?_ | refine T.app ?_ ?_ | refine nd_rel ?_ ?_ ?_ | refine alone_rel ?_ | refine num_rel ?_ ?_ | refine ⟨?_, ?_⟩)))
      ·(intro _ _ _ hx; (try simp only [su, su_item] at hx); unfold Fw; repeat' (first | exact fine_bad | refine fine_want ?_ | refine fine_name ?_ | refine fine_ite (fun _ => ?_) (fun _ => ?_) | (refine fine_bind1 (fw _ _ _) ?_; intro _ _ _ hx; (try simp only [su, su_item] at hx)) | (refine fine_bind (fw _ _ _) ?_; intro _ _ _ hx; (try simp only [su, su_item] at hx)) | (refine fine_tail (fw _ _ _) ?_; intro _ _ _ hx; (try simp only [su, su_item] at hx ⊢); omega) | (refine fine_ok ?_; omega)))
      intro t t' s k2 kk2 hk2 hl2 hm2 ht2
      (try simp only [su, su_item] at hl2))
   | (refine sim_bind (ih _ _ _ _ _ (by omega) (fun hx => ?_)) ?_ ?_
      ·first | exact jr_refl T _ | ((try simp only [JR, and_true, true_and]); rw [tk_text H (by omega) (by omega)]; done) | ((try simp only [JR, and_true, true_and]); (repeat' (first | assumption | exact none_rel | exact T.nil | exact T.zero | rfl | exact tk_pos H (by omega) (by omega) | exact tk_text H (by omega) (by omega) | exact tk_sign H (by omega) (by omega) | exact tk_num H (by omega) (by omega) | exact T.pos (by assumption) | exact T.kids (by assumption) | exact (T.text (by assumption)).symm | refine T.cons ?_ ?_ | refine T.app ?_ ?_ | refine nd_rel ?_ ?_ ?_ | refine alone_rel ?_ | refine num_rel ?_ ?_ | refine ⟨?_, ?_⟩)))
      ·(intro _ _ _ hx; (try simp only [su, su_item] at hx); unfold Fw; repeat' (first | exact fine_bad | refine fine_want ?_ | refine fine_name ?_ | refine fine_ite (fun _ => ?_) (fun _ => ?_) | (refine fine_bind1 (fw _ _ _) ?_; intro _ _ _ hx; (try simp only [su, su_item] at hx)) | (refine fine_bind (fw _ _ _) ?_; intro _ _ _ hx; (try simp only [su, su_item] at hx)) | (refine fine_tail (fw _ _ _) ?_; intro _ _ _ hx; (try simp only [su, su_item] at hx ⊢); omega) | (refine fine_ok ?_; omega)))
      intro t t' s k2 kk2 hk2 hl2 hm2 ht2
      (try simp only [su, su_item] at hl2))
   | (refine sim_ok (by omega) (by omega) (by first | rfl | rw [tk_text H (by omega) (by omega)]) (fun hx => ?_)
      (repeat' (first | assumption | exact none_rel | exact T.nil | exact T.zero | rfl | exact tk_pos H (by omega) (by omega) | exact tk_text H (by omega) (by omega) | exact tk_sign H (by omega) (by omega) | exact tk_num H (by omega) (by omega) | exact T.pos (by assumption) | exact T.kids (by assumption) | exact (T.text (by assumption)).symm | refine T.cons ?_ ?_ | refine T.app ?_ ?_ | refine nd_rel ?_ ?_ ?_ | refine alone_rel ?_ | refine num_rel ?_ ?_ | refine ⟨?_, ?_⟩)))
   | (refine sim_weak ?_ (ih _ _ _ _ _ (by omega) (fun hx => ?_))
      ·(try simp only [su, su_item]); omega
      ·first | exact jr_refl T _ | ((try simp only [JR, and_true, true_and]); rw [tk_text H (by omega) (by omega)]; done) | ((try simp only [JR, and_true, true_and]); (repeat' (first | assumption | exact none_rel | exact T.nil | exact T.zero | rfl | exact tk_pos H (by omega) (by omega) | exact tk_text H (by omega) (by omega) | exact tk_sign H (by omega) (by omega) | exact tk_num H (by omega) (by omega) | exact T.pos (by assumption) | exact T.kids (by assumption) | exact (T.text (by assumption)).symm | refine T.cons ?_ ?_ | refine T.app ?_ ?_ | refine nd_rel ?_ ?_ ?_ | refine alone_rel ?_ | refine num_rel ?_ ?_ | refine ⟨?_, ?_⟩)))))
theorem run_sim (T : TRel) (m o : Nat) (ts ts' : List Tok) (H : TokR T m o ts ts') : ∀ (n : Nat) (j j' : Job) (h : Bool) (k kk : Nat), kk = k + o → (k < m → JR T j j') → Sim T m o (k + su j) (run ts n j h k) (run ts' n j' h kk)
 | 0, _, _, _, _, _, _, _ => sim_out
 | n + 1, j, j', h, k, kk, hk, hj => by
   by_cases hm : k < m
   ·exact step_sim T m o ts ts' H (run ts n) (run ts' n) (run_fw ts n) (run_sim T m o ts ts' H n) j j' (hj hm) h k kk hk hm
   ·exact sim_far (by omega) (run_fw ts (n + 1) j h k)
open Lx
def cnt : Tree → Nat
 | .mk _ _ _ _ l => 1 + (l.map cnt).sum
def cntL (l : List Tree) : Nat := (l.map cnt).sum
theorem cnt_mk (a : Int) (b : List UInt8) (c p : Int) (l : List Tree) : cnt (.mk a b c p l) = 1 + cntL l := by rw [cnt]; rfl
theorem cnt_nd (a : Int) (b : List UInt8) (p : Int) (l : List Tree) : cnt (nd a b p l) = 1 + cntL l := cnt_mk ..
theorem cnt_none : cnt none8 = 1 := by rw [none8, cnt_nd]; rfl
theorem cntL_nil : cntL [] = 0 := rfl
theorem cntL_cons (t : Tree) (l : List Tree) : cntL (t :: l) = cnt t + cntL l := by simp [cntL]
theorem cntL_app (l r : List Tree) : cntL (l ++ r) = cntL l + cntL r := by simp [cntL]
theorem cnt_alone (t : Tree) : cnt (alone t) = 1 + cnt t := by rw [alone, cnt_nd, cntL_cons, cntL_nil]; omega
theorem cnt_kids (t : Tree) : cnt t = 1 + cntL t.kids := by cases t; rw [cnt_mk]; rfl
def ex : Job → Int
 | .result => 1 | .fileMore _ => 1 | .forHead => 3 | .expr => -8 | .op _ => -8 | .unary => -8 | .shaped => -8 | .primary => -8 | .operand => -8 | .wordOperand => -8 | .markOperand => -8 | .builtin _ => -8
 | _ => 0
def cj : Job → Nat
 | .listMore _ acc => cntL acc | .stmts acc => cntL acc | .acting t _ => cnt t | .clausesMore _ acc => cntL acc | .caseMore acc => cntL acc | .opOf t _ => cnt t
 | .primMore t _ => cnt t | .bracketed t _ => cnt t | .bracedMore _ acc => cntL acc | .fieldsMore acc => cntL acc | .fileMore acc => cntL acc
 | _ => 0
def GB : Job → Prop
 | .builtin r => r = .makeArgs ∨ r = .newArgs ∨ r = .args
 | _ => True
def Few (j : Job) (k : Nat) (r : R) : Prop := F (fun l _ k' => k + su j ≤ k' ∧ (cntL l : Int) ≤ cj j + 16 * ((k' : Int) - k) + ex j) r
theorem cj_item (it : It) : cj it.job = 0 := by cases it <;> rfl
set_option maxHeartbeats 40000000 in
theorem step_few (ts : List Tok) (rec : Job → Bool → Nat → R) (ih : ∀ j h k, GB j → Few j k (rec j h k)) (j : Job) (h : Bool) (k : Nat) (hb : GB j) : Few j k (step ts rec j h k) := by
 unfold Few at *
 cases j
 all_goals
  simp only [step, fWtype, fResult, fNamed, fListed, fListMore, fFunction, fBlock, fStmts, fStmt, fVarStmt, fReturnStmt, fCallStmt, fLabelled, fSimple, fActing, fIfStmt, fBreakable, fForStmt, forTail2, forTail, fForHead, fForLead, fSwitchStmt, fSelectStmt, fClauses, fClausesMore, fClause, fCaseMore, fClauseBlock, fComm, fCommHead, fOp, fOpOf, fUnary, fShaped, fPrimary, fPrimMore, fBr3, fBr2, fBracketed, fOperand, fWordOperand, fBuiltin, fMakeArgs, fNewArgs, fMarkOperand, fBraced, fBracedMore, fInitial, fDecl, fTypeDecl, fFieldsMore, fFileMore, jump, behind, ex, cj, su]
  (try (rename_i it acc; (have hit : It := it); clear hit; cases it <;> simp only [It.job]))
  (try (rename_i it; (have hit : It := it); clear hit; cases it <;> simp only [It.job]))
  (try (rcases (show _ ∨ _ ∨ _ from hb) with rfl | rfl | rfl))
  (try (rename_i c acc; cases c <;> simp only [Bool.false_eq_true, if_false, if_true]))
  repeat' (first
   | exact fine_bad
   | refine fine_want ?_
   | refine fine_name ?_
   | refine fine_ite (fun _ => ?_) (fun _ => ?_)
   | (refine fine_bind1 (ih _ _ _ (by first | trivial | exact Or.inl rfl | exact Or.inr (Or.inl rfl) | exact Or.inr (Or.inr rfl))) ?_
      intro t _ _ hx
      (try simp only [cj_item, su_item] at hx)
      (try simp only [ex, cj, su, cntL_nil, cntL_cons, cntL_app, cnt_nd, cnt_none, cnt_alone] at hx)
      have hk := cnt_kids t)
   | (refine fine_bind (ih _ _ _ (by first | trivial | exact Or.inl rfl | exact Or.inr (Or.inl rfl) | exact Or.inr (Or.inr rfl))) ?_
      intro _ _ _ hx
      (try simp only [cj_item, su_item] at hx)
      (try simp only [ex, cj, su, cntL_nil, cntL_cons, cntL_app, cnt_nd, cnt_none, cnt_alone] at hx))
   | (refine fine_tail (ih _ _ _ (by first | trivial | exact Or.inl rfl | exact Or.inr (Or.inl rfl) | exact Or.inr (Or.inr rfl))) ?_
      intro _ _ _ hx
      (try simp only [cj_item, su_item] at hx)
      (try simp only [ex, cj, su, cntL_nil, cntL_cons, cntL_app, cnt_nd, cnt_none, cnt_alone] at hx)
      (first | omega | (constructor <;> omega)))
   | (refine fine_ok ?_
      (try simp only [cntL_nil, cntL_cons, cntL_app, cnt_nd, cnt_none, cnt_alone, cnt_mk])
      (first | omega | (constructor <;> omega))))
theorem run_few (ts : List Tok) : ∀ (n : Nat) (j : Job) (h : Bool) (k : Nat), GB j → Few j k (run ts n j h k)
 | 0, _, _, _, _ => fun _ _ _ e => by cases e
 | n + 1, j, h, k, hb => step_few ts (run ts n) (run_few ts n) j h k hb
theorem cnt_pos (t : Tree) : 1 ≤ cnt t := by rw [cnt_kids]; omega
theorem cntL_len : ∀ l : List Tree, l.length ≤ cntL l
 | [] => Nat.le_refl _
 | t :: r => by rw [cntL_cons, List.length_cons]; have := cntL_len r; have := cnt_pos t; omega
theorem cntL_mem {t : Tree} : ∀ {l : List Tree}, t ∈ l → cnt t ≤ cntL l
 | a :: r, h => by
   rw [cntL_cons]
   rcases List.mem_cons.1 h with rfl | h
   ·omega
   ·have := cntL_mem h; omega
end Go.Proofs.YtgckmkiiheaeaaaGreatDoor.Px
