import Derived.Test.YtnlmgifjmlpgoaaGreatDoorParF
import Derived.Test.YtnlmgifjmlpgoaaGreatDoorDeepP
import Derived.Test.YtnlmgifjmlpgoaaGreatDoorLexP
set_option linter.unusedVariables false
set_option linter.unusedSimpArgs false
set_option maxRecDepth 100000
namespace Go.Proofs.YtnlmgifjmlpgoaaGreatDoor.Px
open Go.Proofs.YtnlmgifjmlpgoaaGreatDoor.Lx
structure TRel where
  E : Tree → Tree → Prop
  L : List Tree → List Tree → Prop
  P : Int → Int → Prop
  node : ∀ {a : Int} {b : List UInt8} {c p p' : Int} {l l' : List Tree}, P p p' → L l l' → E (.mk a b c p l) (.mk a b c p' l')
  nil : L [] []
  cons : ∀ {t t' : Tree} {l l' : List Tree}, E t t' → L l l' → L (t :: l) (t' :: l')
  app : ∀ {l l' r r' : List Tree}, L l l' → L r r' → L (l ++ r) (l' ++ r')
  text : ∀ {t t' : Tree}, E t t' → t.text = t'.text
  pos : ∀ {t t' : Tree}, E t t' → P t.pos t'.pos
  kids : ∀ {t t' : Tree}, E t t' → L t.kids t'.kids
  zero : P 0 0
  reflE : ∀ t, E t t
  reflL : ∀ l, L l l
  reflP : ∀ p, P p p
  one : ∀ {t : Tree} {l' : List Tree}, L [t] l' → ∃ t', l' = [t'] ∧ E t t'
def su : Job → Nat
  | .simple => 1 | .shaped => 1 | .primary => 1 | .operand => 1 | .wordOperand => 1 | .markOperand => 1 | .builtin _ => 1 | .labelled => 1
  | _ => 0
def JR (T : TRel) : Job → Job → Prop
  | .listMore it acc, .listMore it' acc' => it = it' ∧ T.L acc acc'
  | .stmts acc, .stmts acc' => T.L acc acc'
  | .acting t s, .acting t' s' => T.E t t' ∧ s = s'
  | .clausesMore c acc, .clausesMore c' acc' => c = c' ∧ T.L acc acc'
  | .caseMore acc, .caseMore acc' => T.L acc acc'
  | .opOf t n, .opOf t' n' => T.E t t' ∧ n = n'
  | .primMore t s, .primMore t' s' => T.E t t' ∧ s = s'
  | .bracketed t p, .bracketed t' p' => T.E t t' ∧ T.P p p'
  | .bracedMore it acc, .bracedMore it' acc' => it = it' ∧ T.L acc acc'
  | .fieldsMore acc, .fieldsMore acc' => T.L acc acc'
  | .fileMore acc, .fileMore acc' => T.L acc acc'
  | .wtype, .wtype => True | .result, .result => True | .named a, .named b => a = b | .listed a, .listed b => a = b
  | .function, .function => True | .block, .block => True | .stmt, .stmt => True | .varStmt, .varStmt => True | .returnStmt, .returnStmt => True
  | .callStmt a, .callStmt b => a = b | .labelled, .labelled => True | .simple, .simple => True | .ifStmt, .ifStmt => True | .breakable, .breakable => True
  | .forStmt, .forStmt => True | .forHead, .forHead => True | .forLead, .forLead => True | .switchStmt, .switchStmt => True | .selectStmt, .selectStmt => True
  | .clauses a, .clauses b => a = b | .clause, .clause => True | .clauseBlock, .clauseBlock => True | .comm, .comm => True | .commHead, .commHead => True
  | .expr, .expr => True | .op a, .op b => a = b | .unary, .unary => True | .shaped, .shaped => True | .primary, .primary => True | .args, .args => True
  | .operand, .operand => True | .wordOperand, .wordOperand => True | .builtin a, .builtin b => a = b
  | .makeArgs, .makeArgs => True | .newArgs, .newArgs => True | .markOperand, .markOperand => True | .braced a, .braced b => a = b
  | .initial, .initial => True | .decl, .decl => True | .typeDecl, .typeDecl => True
  | _, _ => False
def TokR (T : TRel) (m o : Nat) (ts ts' : List Tok) : Prop := ∀ i, i < m → (tok ts' (i + o)).kind = (tok ts i).kind ∧ (tok ts' (i + o)).text = (tok ts i).text ∧ (tok ts' (i + o)).num = (tok ts i).num ∧ T.P (tok ts i).pos (tok ts' (i + o)).pos
def Sim (T : TRel) (m o q : Nat) (r r' : R) : Prop := ∀ l s k, r = .ok l s k → q ≤ k ∧ (k < m → ∃ l' kk, r' = .ok l' s kk ∧ kk = k + o ∧ T.L l l')
section
variable {T : TRel} {m o : Nat} {ts ts' : List Tok} {q : Nat}
theorem sim_ok {l l' : List Tree} {s s' : Int} {k kk : Nat} (hq : q ≤ k) (hk : kk = k + o) (hs : s' = s) (hl : k < m → T.L l l') : Sim T m o q (.ok l s k) (.ok l' s' kk) := by
  intro l0 s0 k0 e
  cases e
  exact ⟨hq, fun h => ⟨l', kk, by rw [hs], hk, hl h⟩⟩
theorem sim_bad {p : Int} {r' : R} : Sim T m o q (.bad p) r' := fun _ _ _ e => by cases e
theorem sim_out {r' : R} : Sim T m o q .out r' := fun _ _ _ e => by cases e
theorem sim_weak {p : Nat} {r r' : R} (hp : q ≤ p) (h : Sim T m o p r r') : Sim T m o q r r' := fun l s k e => ⟨Nat.le_trans hp (h l s k e).1, (h l s k e).2⟩
theorem sim_low {c c' : Prop} [Decidable c] [Decidable c'] {i : Nat} {a b a' b' : R} (hi : i ≤ q) (hc : i < m → (c' ↔ c)) (h1 : c → Sim T m o q a a') (h2 : ¬ c → Sim T m o q b b') : Sim T m o q (if c then a else b) (if c' then a' else b') := by
  intro l s k e
  by_cases h : c
  · rw [if_pos h] at e
    have g := h1 h l s k e
    refine ⟨g.1, fun hk => ?_⟩
    rw [if_pos ((hc (by omega)).2 h)]
    exact g.2 hk
  · rw [if_neg h] at e
    have g := h2 h l s k e
    refine ⟨g.1, fun hk => ?_⟩
    rw [if_neg (fun x => h ((hc (by omega)).1 x))]
    exact g.2 hk
theorem sim_if {c c' : Prop} [Decidable c] [Decidable c'] {i : Nat} {a b a' b' : R} (hc : i < m → (c' ↔ c)) (hi : i ≤ q ∨ q ≤ i) (h1 : c → Sim T m o (max q i) a a') (h2 : ¬ c → Sim T m o (max q i) b b') : Sim T m o q (if c then a else b) (if c' then a' else b') :=
  sim_weak (Nat.le_max_left _ _) (sim_low (i := i) (Nat.le_max_right _ _) hc h1 h2)
theorem sim_same {c : Prop} [Decidable c] {a b a' b' : R} (h1 : c → Sim T m o q a a') (h2 : ¬ c → Sim T m o q b b') : Sim T m o q (if c then a else b) (if c then a' else b') := by
  by_cases h : c
  · rw [if_pos h, if_pos h]; exact h1 h
  · rw [if_neg h, if_neg h]; exact h2 h
theorem tk_kind (H : TokR T m o ts ts') {i ii : Nat} (hi : ii = i + o) (h : i < m) : (tok ts' ii).kind = (tok ts i).kind := by subst hi; exact (H i h).1
theorem tk_text (H : TokR T m o ts ts') {i ii : Nat} (hi : ii = i + o) (h : i < m) : (tok ts' ii).text = (tok ts i).text := by subst hi; exact (H i h).2.1
theorem tk_num (H : TokR T m o ts ts') {i ii : Nat} (hi : ii = i + o) (h : i < m) : (tok ts' ii).num = (tok ts i).num := by subst hi; exact (H i h).2.2.1
theorem tk_pos (H : TokR T m o ts ts') {i ii : Nat} (hi : ii = i + o) (h : i < m) : T.P (tok ts i).pos (tok ts' ii).pos := by subst hi; exact (H i h).2.2.2
theorem tk_sign (H : TokR T m o ts ts') {i ii : Nat} (hi : ii = i + o) (h : i < m) : sign ts' ii = sign ts i := by
  unfold sign; rw [tk_kind H hi h, tk_text H hi h]
theorem tk_is (H : TokR T m o ts ts') {i ii : Nat} (hi : ii = i + o) (h : i < m) (l : List (List UInt8)) : isS ts' ii l = isS ts i l := by
  unfold isS; rw [tk_sign H hi h]
theorem sim_is (H : TokR T m o ts ts') {i ii : Nat} {L : List (List UInt8)} {a b a' b' : R} (hi : ii = i + o) (hq : i ≤ q ∨ q ≤ i) (h1 : Sim T m o (max q i) a a') (h2 : Sim T m o (max q i) b b') : Sim T m o q (if isS ts i L = true then a else b) (if isS ts' ii L = true then a' else b') :=
  sim_if (i := i) (fun h => by rw [tk_is H hi h]) hq (fun _ => h1) (fun _ => h2)
theorem sim_and (H : TokR T m o ts ts') {c : Prop} [Decidable c] {i ii : Nat} {L : List (List UInt8)} {a b a' b' : R} (hi : ii = i + o) (hq : i ≤ q ∨ q ≤ i) (h1 : Sim T m o (max q i) a a') (h2 : Sim T m o (max q i) b b') : Sim T m o q (if c ∧ isS ts i L = true then a else b) (if c ∧ isS ts' ii L = true then a' else b') :=
  sim_if (i := i) (fun h => by rw [tk_is H hi h]) hq (fun _ => h1) (fun _ => h2)
theorem sim_sign (H : TokR T m o ts ts') {i ii : Nat} {L : List UInt8} {a b a' b' : R} (hi : ii = i + o) (hq : i ≤ q ∨ q ≤ i) (h1 : Sim T m o (max q i) a a') (h2 : Sim T m o (max q i) b b') : Sim T m o q (if sign ts i = L then a else b) (if sign ts' ii = L then a' else b') :=
  sim_if (i := i) (fun h => by rw [tk_sign H hi h]) hq (fun _ => h1) (fun _ => h2)
theorem sim_has (H : TokR T m o ts ts') {i ii : Nat} {L : List (List UInt8)} {a b a' b' : R} (hi : ii = i + o) (hq : i ≤ q ∨ q ≤ i) (h1 : Sim T m o (max q i) a a') (h2 : Sim T m o (max q i) b b') : Sim T m o q (if L.contains (sign ts i) = true then a else b) (if L.contains (sign ts' ii) = true then a' else b') :=
  sim_if (i := i) (fun h => by rw [tk_sign H hi h]) hq (fun _ => h1) (fun _ => h2)
theorem sim_kind (H : TokR T m o ts ts') {i ii : Nat} {L : Int} {a b a' b' : R} (hi : ii = i + o) (hq : i ≤ q ∨ q ≤ i) (h1 : Sim T m o (max q i) a a') (h2 : Sim T m o (max q i) b b') : Sim T m o q (if (tok ts i).kind = L then a else b) (if (tok ts' ii).kind = L then a' else b') :=
  sim_if (i := i) (fun h => by rw [tk_kind H hi h]) hq (fun _ => h1) (fun _ => h2)
theorem sim_text (H : TokR T m o ts ts') {i ii : Nat} {L : List UInt8} {a b a' b' : R} (hi : ii = i + o) (hq : i ≤ q ∨ q ≤ i) (h1 : Sim T m o (max q i) a a') (h2 : Sim T m o (max q i) b b') : Sim T m o q (if (tok ts i).text = L then a else b) (if (tok ts' ii).text = L then a' else b') :=
  sim_if (i := i) (fun h => by rw [tk_text H hi h]) hq (fun _ => h1) (fun _ => h2)
theorem sim_hast (H : TokR T m o ts ts') {i ii : Nat} {L : List (List UInt8)} {a b a' b' : R} (hi : ii = i + o) (hq : i ≤ q ∨ q ≤ i) (h1 : Sim T m o (max q i) a a') (h2 : Sim T m o (max q i) b b') : Sim T m o q (if L.contains (tok ts i).text = true then a else b) (if L.contains (tok ts' ii).text = true then a' else b') :=
  sim_if (i := i) (fun h => by rw [tk_text H hi h]) hq (fun _ => h1) (fun _ => h2)
theorem sim_str (H : TokR T m o ts ts') {i ii : Nat} {n : Int} {a b a' b' : R} (hi : ii = i + o) (hq : i ≤ q ∨ q ≤ i) (h1 : Sim T m o (max q i) a a') (h2 : Sim T m o (max q i) b b') : Sim T m o q (if n ≤ strength (sign ts i) then a else b) (if n ≤ strength (sign ts' ii) then a' else b') :=
  sim_if (i := i) (fun h => by rw [tk_sign H hi h]) hq (fun _ => h1) (fun _ => h2)
theorem sim_labels (H : TokR T m o ts ts') {i ii : Nat} {a b a' b' : R} (hi : ii = i + o) (hq : i + 1 ≤ q ∨ q ≤ i + 1) (h1 : Sim T m o (max q (i + 1)) a a') (h2 : Sim T m o (max q (i + 1)) b b') : Sim T m o q (if labels ts i = true then a else b) (if labels ts' ii = true then a' else b') :=
  sim_if (i := i + 1) (fun h => by unfold labels; rw [tk_kind H hi (by omega), tk_kind H (ii := ii + 1) (i := i + 1) (by omega) h, tk_text H (ii := ii + 1) (i := i + 1) (by omega) h]) hq (fun _ => h1) (fun _ => h2)
theorem sim_want (H : TokR T m o ts ts') {i ii : Nat} {s : List UInt8} {f f' : Tok → Nat → R} (hi : ii = i + o) (hq : i ≤ q ∨ q ≤ i) (h : Sim T m o (max q i) (f (tok ts i) (i + 1)) (f' (tok ts' ii) (ii + 1))) : Sim T m o q (want ts i s f) (want ts' ii s f') := sim_is H hi hq h sim_bad
theorem sim_name (H : TokR T m o ts ts') {i ii : Nat} {f f' : Tok → Nat → R} (hi : ii = i + o) (hq : i ≤ q ∨ q ≤ i) (h : Sim T m o (max q i) (f (tok ts i) (i + 1)) (f' (tok ts' ii) (ii + 1))) : Sim T m o q (wantName ts i f) (wantName ts' ii f') := sim_kind H hi hq h sim_bad
def Fw (q : Nat) (r : R) : Prop := F (fun _ _ k => q ≤ k) r
theorem sim_far {r r' : R} (hm : m ≤ q) (h : Fw q r) : Sim T m o q r r' := fun l s k e => ⟨h l s k e, fun hk => absurd (h l s k e) (by omega)⟩
theorem sim_bind {r r' : R} {a : Nat} {f f' : List Tree → Int → Nat → R} (h : Sim T m o a r r') (g1 : ∀ l s k, a ≤ k → Fw (max q k) (f l s k))
    (g2 : ∀ l l' s k kk, kk = k + o → a ≤ k → k < m → T.L l l' → Sim T m o (max q k) (f l s k) (f' l' s kk)) : Sim T m o q (r.bind f) (r'.bind f') := by
  cases r with
  | bad p => exact sim_bad
  | out => exact sim_out
  | ok l s k =>
    obtain ⟨h1, h2⟩ := h l s k rfl
    intro l0 s0 k0 e
    have e : f l s k = .ok l0 s0 k0 := e
    have hw : max q k ≤ k0 := g1 l s k h1 l0 s0 k0 e
    refine ⟨by omega, fun hm => ?_⟩
    obtain ⟨l', kk, rfl, hk, hl⟩ := h2 (by omega)
    exact (g2 l l' s k kk hk h1 (by omega) hl l0 s0 k0 e).2 hm
theorem sim_bind1 {r r' : R} {a : Nat} {f f' : Tree → Int → Nat → R} (h : Sim T m o a r r') (g1 : ∀ t s k, a ≤ k → Fw (max q k) (f t s k))
    (g2 : ∀ t t' s k kk, kk = k + o → a ≤ k → k < m → T.E t t' → Sim T m o (max q k) (f t s k) (f' t' s kk)) : Sim T m o q (r.bind1 f) (r'.bind1 f') := by
  cases r with
  | bad p => exact sim_bad
  | out => exact sim_out
  | ok l s k =>
    match l, h with
    | [], _ => exact sim_out
    | _ :: _ :: _, _ => exact sim_out
    | [t], h =>
      obtain ⟨h1, h2⟩ := h [t] s k rfl
      intro l0 s0 k0 e
      have e : f t s k = .ok l0 s0 k0 := e
      have hw : max q k ≤ k0 := g1 t s k h1 l0 s0 k0 e
      refine ⟨by omega, fun hm => ?_⟩
      obtain ⟨l', kk, rfl, hk, hl⟩ := h2 (by omega)
      obtain ⟨t', rfl, ht⟩ := T.one hl
      exact (g2 t t' s k kk hk h1 (by omega) ht l0 s0 k0 e).2 hm
end
open Go.Proofs.YtnlmgifjmlpgoaaGreatDoor.Lx
theorem nd_rel {T : TRel} {a : Int} {b b' : List UInt8} {p p' : Int} {l l' : List Tree} (hb : b' = b) (hp : T.P p p') (hl : T.L l l') : T.E (nd a b p l) (nd a b' p' l') := by subst hb; exact T.node hp hl
theorem none_rel {T : TRel} : T.E none8 none8 := T.node T.zero T.nil
theorem alone_rel {T : TRel} {t t' : Tree} (h : T.E t t') : T.E (alone t) (alone t') := nd_rel rfl (T.pos h) (T.cons h T.nil)
theorem num_rel {T : TRel} {a n n' : Int} {p p' : Int} (hn : n' = n) (hp : T.P p p') : T.E (.mk a [] n p []) (.mk a [] n' p' []) := by subst hn; exact T.node hp T.nil
theorem jr_refl (T : TRel) (j : Job) : JR T j j := by
  cases j <;> first | trivial | rfl | exact T.reflL _ | exact ⟨rfl, T.reflL _⟩ | exact ⟨T.reflE _, rfl⟩ | exact ⟨T.reflE _, T.reflP _⟩
theorem su_item (it : It) : su it.job = 0 := by cases it <;> rfl
set_option maxHeartbeats 4000000 in
theorem step_fw (ts : List Tok) (rec : Job → Bool → Nat → R) (ih : ∀ j h k, Fw (k + su j) (rec j h k)) (j : Job) (h : Bool) (k : Nat) : Fw (k + su j) (step ts rec j h k) := by
  unfold Fw at *
  cases j
  all_goals
    simp only [step, fWtype, fResult, fNamed, fListed, fListMore, fFunction, fBlock, fStmts, fStmt, fVarStmt, fReturnStmt, fCallStmt, fLabelled, fSimple, fActing, fIfStmt, fBreakable, fForStmt, forTail2, forTail, fForHead, fForLead, fSwitchStmt, fSelectStmt, fClauses, fClausesMore, fClause, fCaseMore, fClauseBlock, fComm, fCommHead, fOp, fOpOf, fUnary, fShaped, fPrimary, fPrimMore, fBr3, fBr2, fBracketed, fOperand, fWordOperand, fBuiltin, fMakeArgs, fNewArgs, fMarkOperand, fBraced, fBracedMore, fInitial, fDecl, fTypeDecl, fFieldsMore, fFileMore, jump, behind]
    repeat' (first
      | exact fine_bad
      | refine fine_want ?_
      | refine fine_name ?_
      | refine fine_ite (fun _ => ?_) (fun _ => ?_)
      | (refine fine_bind1 (ih _ _ _) ?_; intro _ _ _ hx; (try simp only [su, su_item] at hx))
      | (refine fine_bind (ih _ _ _) ?_; intro _ _ _ hx; (try simp only [su, su_item] at hx))
      | (refine fine_tail (ih _ _ _) ?_; intro _ _ _ hx; (try simp only [su, su_item] at hx ⊢); omega)
      | (refine fine_ok ?_; (try simp only [su]); omega))
theorem run_fw (ts : List Tok) : ∀ (n : Nat) (j : Job) (h : Bool) (k : Nat), Fw (k + su j) (run ts n j h k)
  | 0, _, _, _ => fun _ _ _ e => by cases e
  | n + 1, j, h, k => step_fw ts (run ts n) (run_fw ts n) j h k
set_option maxHeartbeats 40000000 in
theorem step_sim (T : TRel) (m o : Nat) (ts ts' : List Tok) (H : TokR T m o ts ts') (rec rec' : Job → Bool → Nat → R) (fw : ∀ j h k, Fw (k + su j) (rec j h k))
    (ih : ∀ j j' h k kk, kk = k + o → (k < m → JR T j j') → Sim T m o (k + su j) (rec j h k) (rec' j' h kk))
    (j j' : Job) (hj : JR T j j') (h : Bool) (k kk : Nat) (hk : kk = k + o) (hm : k < m) : Sim T m o (k + su j) (step ts rec j h k) (step ts' rec' j' h kk) := by
  cases j <;> cases j' <;> first | exact hj.elim | skip
  all_goals
    simp only [JR] at hj
    (try obtain ⟨hj1, hj2⟩ := hj)
    (try subst hj)
    (try subst hj1)
    (try subst hj2)
    simp only [step, fWtype, fResult, fNamed, fListed, fListMore, fFunction, fBlock, fStmts, fStmt, fVarStmt, fReturnStmt, fCallStmt, fLabelled, fSimple, fActing, fIfStmt, fBreakable, fForStmt, forTail2, forTail, fForHead, fForLead, fSwitchStmt, fSelectStmt, fClauses, fClausesMore, fClause, fCaseMore, fClauseBlock, fComm, fCommHead, fOp, fOpOf, fUnary, fShaped, fPrimary, fPrimMore, fBr3, fBr2, fBracketed, fOperand, fWordOperand, fBuiltin, fMakeArgs, fNewArgs, fMarkOperand, fBraced, fBracedMore, fInitial, fDecl, fTypeDecl, fFieldsMore, fFileMore, jump, behind, su]
    repeat' (first
      | exact sim_bad
      | refine sim_want H (by omega) (by omega) ?_
      | refine sim_name H (by omega) (by omega) ?_
      | refine sim_is H (by omega) (by omega) ?_ ?_
      | refine sim_sign H (by omega) (by omega) ?_ ?_
      | refine sim_has H (by omega) (by omega) ?_ ?_
      | refine sim_kind H (by omega) (by omega) ?_ ?_
      | refine sim_text H (by omega) (by omega) ?_ ?_
      | refine sim_hast H (by omega) (by omega) ?_ ?_
      | refine sim_str H (by omega) (by omega) ?_ ?_
      | refine sim_labels H (by omega) (by omega) ?_ ?_
      | refine sim_and H (by omega) (by omega) ?_ ?_
      | refine sim_same (fun _ => ?_) (fun _ => ?_)
      | (refine sim_bind1 (ih _ _ _ _ _ (by omega) (fun hx => ?_)) ?_ ?_
         · first | exact jr_refl T _ | ((try simp only [JR, and_true, true_and]); rw [tk_text H (by omega) (by omega)]; done) | ((try simp only [JR, and_true, true_and]); (repeat' (first | assumption | exact none_rel | exact T.nil | exact T.zero | rfl | exact tk_pos H (by omega) (by omega) | exact tk_text H (by omega) (by omega) | exact tk_sign H (by omega) (by omega) | exact tk_num H (by omega) (by omega) | exact T.pos (by assumption) | exact T.kids (by assumption) | exact (T.text (by assumption)).symm | refine T.cons ?_ ?_ | refine T.app ?_ ?_ | refine nd_rel ?_ ?_ ?_ | refine alone_rel ?_ | refine num_rel ?_ ?_ | refine ⟨?_, ?_⟩)))
         · (intro _ _ _ hx; (try simp only [su, su_item] at hx); unfold Fw; repeat' (first | exact fine_bad | refine fine_want ?_ | refine fine_name ?_ | refine fine_ite (fun _ => ?_) (fun _ => ?_) | (refine fine_bind1 (fw _ _ _) ?_; intro _ _ _ hx; (try simp only [su, su_item] at hx)) | (refine fine_bind (fw _ _ _) ?_; intro _ _ _ hx; (try simp only [su, su_item] at hx)) | (refine fine_tail (fw _ _ _) ?_; intro _ _ _ hx; (try simp only [su, su_item] at hx ⊢); omega) | (refine fine_ok ?_; omega)))
         intro t t' s k2 kk2 hk2 hl2 hm2 ht2
         (try simp only [su, su_item] at hl2))
      | (refine sim_bind (ih _ _ _ _ _ (by omega) (fun hx => ?_)) ?_ ?_
         · first | exact jr_refl T _ | ((try simp only [JR, and_true, true_and]); rw [tk_text H (by omega) (by omega)]; done) | ((try simp only [JR, and_true, true_and]); (repeat' (first | assumption | exact none_rel | exact T.nil | exact T.zero | rfl | exact tk_pos H (by omega) (by omega) | exact tk_text H (by omega) (by omega) | exact tk_sign H (by omega) (by omega) | exact tk_num H (by omega) (by omega) | exact T.pos (by assumption) | exact T.kids (by assumption) | exact (T.text (by assumption)).symm | refine T.cons ?_ ?_ | refine T.app ?_ ?_ | refine nd_rel ?_ ?_ ?_ | refine alone_rel ?_ | refine num_rel ?_ ?_ | refine ⟨?_, ?_⟩)))
         · (intro _ _ _ hx; (try simp only [su, su_item] at hx); unfold Fw; repeat' (first | exact fine_bad | refine fine_want ?_ | refine fine_name ?_ | refine fine_ite (fun _ => ?_) (fun _ => ?_) | (refine fine_bind1 (fw _ _ _) ?_; intro _ _ _ hx; (try simp only [su, su_item] at hx)) | (refine fine_bind (fw _ _ _) ?_; intro _ _ _ hx; (try simp only [su, su_item] at hx)) | (refine fine_tail (fw _ _ _) ?_; intro _ _ _ hx; (try simp only [su, su_item] at hx ⊢); omega) | (refine fine_ok ?_; omega)))
         intro t t' s k2 kk2 hk2 hl2 hm2 ht2
         (try simp only [su, su_item] at hl2))
      | (refine sim_ok (by omega) (by omega) (by first | rfl | rw [tk_text H (by omega) (by omega)]) (fun hx => ?_)
         (repeat' (first | assumption | exact none_rel | exact T.nil | exact T.zero | rfl | exact tk_pos H (by omega) (by omega) | exact tk_text H (by omega) (by omega) | exact tk_sign H (by omega) (by omega) | exact tk_num H (by omega) (by omega) | exact T.pos (by assumption) | exact T.kids (by assumption) | exact (T.text (by assumption)).symm | refine T.cons ?_ ?_ | refine T.app ?_ ?_ | refine nd_rel ?_ ?_ ?_ | refine alone_rel ?_ | refine num_rel ?_ ?_ | refine ⟨?_, ?_⟩)))
      | (refine sim_weak ?_ (ih _ _ _ _ _ (by omega) (fun hx => ?_))
         · (try simp only [su, su_item]); omega
         · first | exact jr_refl T _ | ((try simp only [JR, and_true, true_and]); rw [tk_text H (by omega) (by omega)]; done) | ((try simp only [JR, and_true, true_and]); (repeat' (first | assumption | exact none_rel | exact T.nil | exact T.zero | rfl | exact tk_pos H (by omega) (by omega) | exact tk_text H (by omega) (by omega) | exact tk_sign H (by omega) (by omega) | exact tk_num H (by omega) (by omega) | exact T.pos (by assumption) | exact T.kids (by assumption) | exact (T.text (by assumption)).symm | refine T.cons ?_ ?_ | refine T.app ?_ ?_ | refine nd_rel ?_ ?_ ?_ | refine alone_rel ?_ | refine num_rel ?_ ?_ | refine ⟨?_, ?_⟩)))))
theorem run_sim (T : TRel) (m o : Nat) (ts ts' : List Tok) (H : TokR T m o ts ts') : ∀ (n : Nat) (j j' : Job) (h : Bool) (k kk : Nat), kk = k + o → (k < m → JR T j j') → Sim T m o (k + su j) (run ts n j h k) (run ts' n j' h kk)
  | 0, _, _, _, _, _, _, _ => sim_out
  | n + 1, j, j', h, k, kk, hk, hj => by
    by_cases hm : k < m
    · exact step_sim T m o ts ts' H (run ts n) (run ts' n) (run_fw ts n) (run_sim T m o ts ts' H n) j j' (hj hm) h k kk hk hm
    · exact sim_far (by omega) (run_fw ts (n + 1) j h k)
open Go.Proofs.YtnlmgifjmlpgoaaGreatDoor.Lx
def Mo (r r' : R) : Prop := r ≠ .out → r' = r
theorem mo_refl {r : R} : Mo r r := fun _ => rfl
theorem mo_ite {c : Prop} [Decidable c] {a b a' b' : R} (h1 : Mo a a') (h2 : Mo b b') : Mo (if c then a else b) (if c then a' else b') := by
  by_cases h : c
  · rw [if_pos h, if_pos h]; exact h1
  · rw [if_neg h, if_neg h]; exact h2
theorem mo_want {ts : List Tok} {k : Nat} {s : List UInt8} {f f' : Tok → Nat → R} (h : Mo (f (tok ts k) (k + 1)) (f' (tok ts k) (k + 1))) : Mo (want ts k s f) (want ts k s f') := mo_ite h mo_refl
theorem mo_name {ts : List Tok} {k : Nat} {f f' : Tok → Nat → R} (h : Mo (f (tok ts k) (k + 1)) (f' (tok ts k) (k + 1))) : Mo (wantName ts k f) (wantName ts k f') := mo_ite h mo_refl
theorem mo_bind {r r' : R} {f f' : List Tree → Int → Nat → R} (h : Mo r r') (g : ∀ l s k, Mo (f l s k) (f' l s k)) : Mo (r.bind f) (r'.bind f') := by
  cases r with
  | out => exact fun h => absurd rfl h
  | bad p => rw [h (by simp)]; exact mo_refl
  | ok l s k => rw [h (by simp)]; exact g l s k
theorem mo_bind1 {r r' : R} {f f' : Tree → Int → Nat → R} (h : Mo r r') (g : ∀ t s k, Mo (f t s k) (f' t s k)) : Mo (r.bind1 f) (r'.bind1 f') := by
  cases r with
  | out => exact fun h => absurd rfl h
  | bad p => rw [h (by simp)]; exact mo_refl
  | ok l s k =>
    rw [h (by simp)]
    match l with
    | [] => exact mo_refl
    | [t] => exact g t s k
    | _ :: _ :: _ => exact mo_refl
set_option maxHeartbeats 4000000 in
theorem step_mono (ts : List Tok) (rec rec' : Job → Bool → Nat → R) (ih : ∀ j h k, Mo (rec j h k) (rec' j h k)) (j : Job) (h : Bool) (k : Nat) : Mo (step ts rec j h k) (step ts rec' j h k) := by
  cases j
  all_goals
    simp only [step, fWtype, fResult, fNamed, fListed, fListMore, fFunction, fBlock, fStmts, fStmt, fVarStmt, fReturnStmt, fCallStmt, fLabelled, fSimple, fActing, fIfStmt, fBreakable, fForStmt, forTail2, forTail, fForHead, fForLead, fSwitchStmt, fSelectStmt, fClauses, fClausesMore, fClause, fCaseMore, fClauseBlock, fComm, fCommHead, fOp, fOpOf, fUnary, fShaped, fPrimary, fPrimMore, fBr3, fBr2, fBracketed, fOperand, fWordOperand, fBuiltin, fMakeArgs, fNewArgs, fMarkOperand, fBraced, fBracedMore, fInitial, fDecl, fTypeDecl, fFieldsMore, fFileMore, jump, behind]
    repeat' (first
      | exact ih _ _ _
      | exact mo_refl
      | refine mo_want ?_
      | refine mo_name ?_
      | refine mo_ite ?_ ?_
      | (refine mo_bind1 (ih _ _ _) ?_; intro _ _ _)
      | (refine mo_bind (ih _ _ _) ?_; intro _ _ _))
theorem run_mono (ts : List Tok) : ∀ (n d : Nat) (j : Job) (h : Bool) (k : Nat), Mo (run ts n j h k) (run ts (n + d) j h k)
  | 0, _, _, _, _ => fun h => absurd rfl h
  | n + 1, d, j, h, k => by
    rw [Nat.succ_add]
    exact step_mono ts (run ts n) (run ts (n + d)) (run_mono ts n d) j h k
open Go.Proofs.YtnlmgifjmlpgoaaGreatDoor.Lx
def lev (ts : List Tok) : Nat → Int
  | 0 => 0
  | k + 1 => openAft (lev ts k) (tok ts k)
def plain (t : List UInt8) : Bool := !(opens t) && !(closes t)
section
variable {ts : List Tok} {k : Nat}
theorem lev_kind (h : (tok ts k).kind ≠ 5) : lev ts (k + 1) = lev ts k := by rw [lev, openAft, if_neg h]
theorem lev_pl (h : plain (tok ts k).text = true) : lev ts (k + 1) = lev ts k := by
  unfold plain at h
  rw [lev, openAft]
  split
  · rw [if_neg (by cases ho : opens (tok ts k).text <;> simp_all), if_neg (by cases ho : closes (tok ts k).text <;> simp_all)]
  · rfl
theorem sign_text {s : List UInt8} (h : sign ts k = s) (hs : s ≠ []) : (tok ts k).text = s ∧ ((tok ts k).kind = 4 ∨ (tok ts k).kind = 5) := by
  unfold sign at h
  split at h
  · rename_i hk; exact ⟨h, hk⟩
  · exact absurd h.symm hs
theorem lev_sign {c : UInt8} {s : List UInt8} (h : sign ts k = c :: s) (hp : plain (c :: s) = true) : lev ts (k + 1) = lev ts k := by
  refine lev_pl ?_
  rw [(sign_text h (by simp)).1]; exact hp
theorem is_text {L : List (List UInt8)} (h : isS ts k L = true) : (tok ts k).text ∈ L ∧ ((tok ts k).kind = 4 ∨ (tok ts k).kind = 5) := by
  unfold isS at h
  simp only [Bool.and_eq_true, Bool.not_eq_true', List.isEmpty_eq_false_iff] at h
  have h1 := sign_text (ts := ts) (k := k) rfl h.1
  rw [← h1.1] at h
  exact ⟨by simpa using h.2, h1.2⟩
theorem lev_is {L : List (List UInt8)} (h : isS ts k L = true) (hL : L.all plain = true) : lev ts (k + 1) = lev ts k := lev_pl (List.all_eq_true.1 hL _ (is_text h).1)
def Words (ts : List Tok) : Prop := ∀ i, (tok ts i).kind = 4 → plain (tok ts i).text = true
theorem lev_up (W : Words ts) {L : List (List UInt8)} (h : isS ts k L = true) (hs : L.all opens = true) : lev ts (k + 1) = lev ts k + 1 := by
  obtain ⟨h1, h2⟩ := is_text h
  have ho := List.all_eq_true.1 hs _ h1
  rcases h2 with h2 | h2
  · have := W k h2
    unfold plain at this
    rw [ho] at this
    simp at this
  · rw [lev, openAft, if_pos h2, if_pos ho]
theorem lev_dn (W : Words ts) {L : List (List UInt8)} (h : isS ts k L = true) (hs : L.all (fun s => closes s && !(opens s)) = true) (hl : 1 ≤ lev ts k) : lev ts (k + 1) = lev ts k - 1 := by
  obtain ⟨h1, h2⟩ := is_text h
  have ho := List.all_eq_true.1 hs _ h1
  simp only [Bool.and_eq_true, Bool.not_eq_true'] at ho
  rcases h2 with h2 | h2
  · have := W k h2
    unfold plain at this
    rw [ho.1] at this
    simp at this
  · rw [lev, openAft, if_pos h2, if_neg (by rw [ho.2]; simp), if_pos ho.1]; omega
theorem lev_sup (W : Words ts) {c : UInt8} {s : List UInt8} (h : sign ts k = c :: s) (hs : opens (c :: s) = true) : lev ts (k + 1) = lev ts k + 1 := by
  obtain ⟨h1, h2⟩ := sign_text h (by simp)
  rcases h2 with h2 | h2
  · have := W k h2
    unfold plain at this
    rw [h1, hs] at this
    simp at this
  · rw [lev, openAft, if_pos h2, h1, if_pos hs]
theorem lev_has {L : List (List UInt8)} (h : L.contains (sign ts k) = true) (hL : L.all (fun s => plain s && !s.isEmpty) = true) : lev ts (k + 1) = lev ts k := by
  have hm : sign ts k ∈ L := by simpa using h
  have hp := List.all_eq_true.1 hL _ hm
  simp only [Bool.and_eq_true, Bool.not_eq_true', List.isEmpty_eq_false_iff] at hp
  refine lev_pl ?_
  rw [(sign_text rfl hp.2).1]; exact hp.1
theorem lev_text {s : List UInt8} (h : (tok ts k).text = s) (hp : plain s = true) : lev ts (k + 1) = lev ts k := lev_pl (by rw [h]; exact hp)
theorem lev_hast {L : List (List UInt8)} (h : L.contains (tok ts k).text = true) (hL : L.all plain = true) : lev ts (k + 1) = lev ts k := lev_pl (List.all_eq_true.1 hL _ (by simpa using h))
theorem lev_str {n : Int} (h : n ≤ strength (sign ts k)) (hn : 1 ≤ n) : lev ts (k + 1) = lev ts k := by
  have h1 : 1 ≤ strength (sign ts k) := by omega
  have hne : sign ts k ≠ [] := fun e => by rw [e] at h1; exact absurd h1 (by decide)
  refine lev_pl ?_
  rw [(sign_text rfl hne).1]
  generalize sign ts k = s at h1
  unfold strength at h1
  split at h1
  · rename_i e; subst e; decide
  split at h1
  · rename_i e; subst e; decide
  split at h1
  · rename_i e; simp at e; rcases e with rfl | rfl | rfl | rfl | rfl | rfl <;> decide
  split at h1
  · rename_i e; simp at e; rcases e with rfl | rfl <;> decide
  split at h1
  · rename_i e; simp at e; rcases e with rfl | rfl | rfl <;> decide
  · omega
theorem lev_kd {n : Int} (h : (tok ts k).kind = n) (hn : n ≠ 5) : lev ts (k + 1) = lev ts k := lev_kind (by rw [h]; exact hn)
theorem labels_kind (h : labels ts k = true) : (tok ts k).kind = 1 := by unfold labels at h; simp at h; exact h.1
end
def dl : Job → Int
  | .listed _ => -1 | .listMore _ _ => -1 | .args => -1 | .makeArgs => -1 | .newArgs => -1 | .bracketed _ _ => -1 | .clausesMore _ _ => -1 | .bracedMore _ _ => -1 | .fieldsMore _ => -1
  | _ => 0
def Pre (ts : List Tok) (k : Nat) : Job → Prop
  | .listed _ => 1 ≤ lev ts k | .listMore _ _ => 1 ≤ lev ts k | .args => 1 ≤ lev ts k | .makeArgs => 1 ≤ lev ts k | .newArgs => 1 ≤ lev ts k | .bracketed _ _ => 1 ≤ lev ts k
  | .clausesMore _ _ => 1 ≤ lev ts k | .bracedMore _ _ => 1 ≤ lev ts k | .fieldsMore _ => 1 ≤ lev ts k
  | .varStmt => lev ts (k + 1) = lev ts k | .returnStmt => lev ts (k + 1) = lev ts k | .callStmt _ => lev ts (k + 1) = lev ts k | .labelled => lev ts (k + 1) = lev ts k
  | .ifStmt => lev ts (k + 1) = lev ts k | .forStmt => lev ts (k + 1) = lev ts k | .switchStmt => lev ts (k + 1) = lev ts k | .selectStmt => lev ts (k + 1) = lev ts k
  | .builtin r => lev ts (k + 1) = lev ts k ∧ (r = .makeArgs ∨ r = .newArgs ∨ r = .args) | .typeDecl => lev ts (k + 1) = lev ts k
  | .op n => 1 ≤ n | .opOf _ n => 1 ≤ n
  | _ => True
theorem lev_nn (ts : List Tok) : ∀ k, 0 ≤ lev ts k
  | 0 => by simp [lev]
  | k + 1 => by
    have := lev_nn ts k
    rw [lev, openAft]
    split
    · split
      · omega
      · split
        · exact Int.le_max_right _ _
        · exact this
    · exact this
theorem bal_want {ts : List Tok} {P : List Tree → Int → Nat → Prop} {k : Nat} {s : List UInt8} {f : Tok → Nat → R} (h : isS ts k [s] = true → F P (f (tok ts k) (k + 1))) : F P (want ts k s f) := fine_ite h (fun _ => fine_bad)
theorem bal_name {ts : List Tok} {P : List Tree → Int → Nat → Prop} {k : Nat} {f : Tok → Nat → R} (h : (tok ts k).kind = 1 → F P (f (tok ts k) (k + 1))) : F P (wantName ts k f) := fine_ite h (fun _ => fine_bad)
theorem str_ge (s : List UInt8) : 0 ≤ strength s := by
  unfold strength
  repeat' split
  all_goals decide
theorem dl_item (it : It) : dl it.job = 0 := by cases it <;> rfl
theorem pre_item (ts : List Tok) (k : Nat) (it : It) : Pre ts k it.job := by cases it <;> trivial
set_option maxHeartbeats 40000000 in
theorem step_bal (ts : List Tok) (W : Words ts) (rec : Job → Bool → Nat → R) (ih : ∀ j h k, Pre ts k j → F (fun _ _ k' => lev ts k' = lev ts k + dl j) (rec j h k)) (j : Job) (h : Bool) (k : Nat) (hp : Pre ts k j) :
    F (fun _ _ k' => lev ts k' = lev ts k + dl j) (step ts rec j h k) := by
  have hnn := lev_nn ts k
  cases j
  all_goals
    simp only [step, fWtype, fResult, fNamed, fListed, fListMore, fFunction, fBlock, fStmts, fStmt, fVarStmt, fReturnStmt, fCallStmt, fLabelled, fSimple, fActing, fIfStmt, fBreakable, fForStmt, forTail2, forTail, fForHead, fForLead, fSwitchStmt, fSelectStmt, fClauses, fClausesMore, fClause, fCaseMore, fClauseBlock, fComm, fCommHead, fOp, fOpOf, fUnary, fShaped, fPrimary, fPrimMore, fBr3, fBr2, fBracketed, fOperand, fWordOperand, fBuiltin, fMakeArgs, fNewArgs, fMarkOperand, fBraced, fBracedMore, fInitial, fDecl, fTypeDecl, fFieldsMore, fFileMore, jump, behind, Pre, dl] at hp ⊢
    (try (obtain ⟨hp, hr⟩ := hp))
    (try (rcases (show _ ∨ _ ∨ _ from hr) with rfl | rfl | rfl))
    (try (rename_i c acc; cases c <;> simp only [Bool.false_eq_true, if_false, if_true]))
    repeat' (first
      | exact fine_bad
      | (refine bal_want (fun hc => ?_)
         have hn := lev_nn ts k
         first | have hv := lev_is hc rfl | have hv := lev_up W hc rfl | have hv := lev_dn W hc rfl (by omega))
      | (refine bal_name (fun hc => ?_)
         have hv := lev_kd hc (by decide))
      | (refine fine_ite (fun hc => ?_) (fun hc => ?_)
         all_goals try (first | have hv := lev_is hc rfl | have hv := lev_up W hc rfl | have hv := lev_dn W hc rfl (by omega) | have hv := lev_sign hc rfl | have hv := lev_sup W hc rfl | have hv := lev_has hc rfl | have hv := lev_text hc rfl | have hv := lev_hast hc rfl | have hv := lev_str hc hp | have hv := lev_is hc.2 rfl | have hv := lev_up W hc.2 rfl | have hv := lev_kd (labels_kind hc) (by decide) | have hv := lev_kd hc (by decide)))
      | (refine fine_bind1 (ih _ _ _ (by first | trivial | exact pre_item _ _ _ | (simp only [Pre]; omega) | (simp only [Pre]; have := str_ge (tok ts k).text; omega) | (simp only [Pre]; exact ⟨by omega, by simp⟩))) ?_
         intro _ _ _ hx
         (try simp only [dl_item] at hx)
         (try simp only [dl] at hx))
      | (refine fine_bind (ih _ _ _ (by first | trivial | exact pre_item _ _ _ | (simp only [Pre]; omega) | (simp only [Pre]; have := str_ge (tok ts k).text; omega) | (simp only [Pre]; exact ⟨by omega, by simp⟩))) ?_
         intro _ _ _ hx
         (try simp only [dl_item] at hx)
         (try simp only [dl] at hx))
      | (refine fine_tail (ih _ _ _ (by first | trivial | exact pre_item _ _ _ | (simp only [Pre]; omega) | (simp only [Pre]; exact ⟨by omega, by simp⟩))) ?_
         intro _ _ _ hx
         (try simp only [dl_item] at hx)
         (try simp only [dl] at hx)
         omega)
      | (refine fine_ok ?_; first | omega | (have e2 : lev ts (k + 2) = lev ts (k + 1 + 1) := rfl; omega)))
theorem run_bal (ts : List Tok) (W : Words ts) : ∀ (n : Nat) (j : Job) (h : Bool) (k : Nat), Pre ts k j → F (fun _ _ k' => lev ts k' = lev ts k + dl j) (run ts n j h k)
  | 0, _, _, _, _ => fine_out
  | n + 1, j, h, k, hp => step_bal ts W (run ts n) (run_bal ts W n) j h k hp
end Go.Proofs.YtnlmgifjmlpgoaaGreatDoor.Px
namespace Go.Proofs.YtnlmgifjmlpgoaaGreatDoor.Lx
theorem tw_join (p : UInt8 → Bool) (h : p 10 = false) (B : List UInt8) : ∀ t : List UInt8, (t ++ 10 :: B).takeWhile p = t.takeWhile p
  | [] => by simp [h]
  | c :: r => by
    by_cases hc : p c = true
    · simp [hc, tw_join p h B r]
    · simp [hc]
theorem drop_join (A B : List UInt8) (k : Nat) (h : k ≤ A.length) : (A ++ 10 :: B).drop k = A.drop k ++ 10 :: B := List.drop_append_of_le_length h
theorem re_join (p : UInt8 → Bool) (h : p 10 = false) (A B : List UInt8) (k : Nat) (hk : k ≤ A.length) : runEnd p (A ++ 10 :: B) k = runEnd p A k := by
  unfold runEnd
  rw [drop_join A B k hk, tw_join p h B]
theorem sub_join (A B : List UInt8) (a b : Nat) (ha : a ≤ A.length) (hb : b ≤ A.length) : sub (A ++ 10 :: B) a b = sub A a b := by
  unfold sub
  rw [drop_join A B a ha, List.take_append_of_le_length (by rw [List.length_drop]; omega)]
theorem txt_join (B : List UInt8) : ∀ (n : Nat) (t : List UInt8), t.length ≤ n → txt (t ++ 10 :: B) = txt t
  | 0, t, h => by
    have : t = [] := List.eq_nil_of_length_eq_zero (by omega)
    subst this
    rw [List.nil_append, txt_stop 10 B (by decide) (by decide) (by decide), txt]
  | n + 1, t, h => by
    cases t with
    | nil => rw [List.nil_append, txt_stop 10 B (by decide) (by decide) (by decide), txt]
    | cons c r =>
      rw [List.cons_append]
      by_cases h1 : c = 34
      · subst h1; rw [txt_quote, txt_quote]
      · by_cases h2 : c = 92
        · subst h2
          cases r with
          | nil =>
            rw [List.nil_append, txt_bad (10 :: B) (fun d r' hr => by cases hr; decide), txt_bad [] (fun d r' hr => by cases hr)]
          | cons d r' =>
            rw [List.cons_append]
            cases he : escC d with
            | none => rw [txt_bad (d :: (r' ++ 10 :: B)) (fun d' q hr => by cases hr; exact he), txt_bad (d :: r') (fun d' q hr => by cases hr; exact he)]
            | some x => rw [txt_esc d x _ he, txt_esc d x _ he, txt_join B n r' (by simp at h; omega)]
        · cases hp : isPln c with
          | true => rw [txt_plain c _ hp, txt_plain c _ hp, txt_join B n r (by simp at h; omega)]
          | false => rw [txt_stop c _ hp h1 h2, txt_stop c _ hp h1 h2]
theorem pr_nl (c : UInt8) : isPr [c, 10] = false := by simp [isPr, pairList]
theorem pr_one (c : UInt8) : isPr [c] = false := by simp [isPr, pairList]
theorem mlen_join (t B : List UInt8) (h : t ≠ []) : mLen (t ++ 10 :: B) = mLen t := by
  match t, h with
  | [c], _ =>
    show mLen (c :: 10 :: B) = mLen [c]
    unfold mLen
    simp [pr_nl, pr_one]
  | c :: d :: r, _ =>
    rfl
theorem cmt_join (A B : List UInt8) (k : Nat) (hk : k < A.length) : cmt (A ++ 10 :: B) k = cmt A k := by
  unfold cmt
  rw [drop_join A B k (by omega)]
  have hne : A.drop k ≠ [] := by
    intro e
    have := congrArg List.length e
    rw [List.length_drop] at this
    simp at this
    omega
  match h : A.drop k, hne with
  | [c], _ => simp
  | c :: d :: r, _ => simp
theorem letAt_join (A B : List UInt8) (k : Nat) (hk : k ≤ A.length) : letAt (A ++ 10 :: B) k = letAt A k := by
  unfold letAt
  rcases Nat.lt_or_ge k A.length with h | h
  · rw [List.getElem?_append_left h]
  · have : k = A.length := by omega
    subst this
    rw [List.getElem?_append_right (Nat.le_refl _), List.getElem?_eq_none (Nat.le_refl _)]
    simp
    decide
theorem part_join (A B : List UInt8) (k : Nat) (ts : List Tok) (hk : k < A.length) : partF (A ++ 10 :: B) k ts = partF A k ts := by
  have hc : A[k]? = some A[k] := List.getElem?_eq_getElem hk
  have hc' : (A ++ 10 :: B)[k]? = some A[k] := by rw [List.getElem?_append_left hk]; exact hc
  have hn : nameF (A ++ 10 :: B) k ts = nameF A k ts := by
    unfold nameF
    rw [re_join isNam (by decide) A B k (by omega), sub_join A B k _ (by omega) (re_le _ A k (by omega))]
  have hd : numF (A ++ 10 :: B) k ts = numF A k ts := by
    unfold numF
    rw [re_join isDig (by decide) A B k (by omega), sub_join A B k _ (by omega) (re_le _ A k (by omega)), letAt_join A B _ (re_le _ A k (by omega))]
  have ht : textF (A ++ 10 :: B) k ts = textF A k ts := by
    unfold textF
    rw [drop_join A B (k + 1) (by omega), txt_join B _ _ (Nat.le_refl _)]
  have hne : A.drop k ≠ [] := by
    intro e
    have := congrArg List.length e
    rw [List.length_drop] at this
    simp at this
    omega
  have hm : markF (A ++ 10 :: B) k ts = markF A k ts := by
    have hle := mlen_le2 (A.drop k)
    rw [List.length_drop] at hle
    unfold markF
    rw [drop_join A B k (by omega), mlen_join _ B hne, sub_join A B k _ (by omega) (by omega)]
  unfold partF
  rw [hc, hc']
  simp only
  rw [cmt_join A B k hk, hn, hd, ht, hm, re_join notNl (by decide) A B k (by omega)]
theorem scan_join (A B : List UInt8) : ∀ (n k : Nat) (ts : List Tok), A.length - k ≤ n → k ≤ A.length →
    (∀ p, scanAll A k ts = .inl p → scanAll (A ++ 10 :: B) k ts = .inl p) ∧ (∀ r, scanAll A k ts = .inr r → scanAll (A ++ 10 :: B) k ts = scanAll (A ++ 10 :: B) A.length r)
  | 0, k, ts, hn, hk => by
    have : k = A.length := by omega
    subst this
    rw [scanAll_end A _ ts (Nat.le_refl _)]
    exact ⟨fun p h => (by cases h), fun r h => by cases h; rfl⟩
  | n + 1, k, ts, hn, hk => by
    rcases Nat.lt_or_ge k A.length with hlt | hge
    · have hl : k < (A ++ 10 :: B).length := by rw [List.length_append]; omega
      have hp := part_join A B k ts hlt
      cases hq : partF A k ts with
      | inl p =>
        rw [hq] at hp
        rw [scanAll_inl A k ts p hlt hq, scanAll_inl _ k ts p hl hp]
        exact ⟨fun p' h => h, fun r h => by cases h⟩
      | inr q =>
        rw [hq] at hp
        obtain ⟨h1, h2, _⟩ := partF_prog A k ts hlt q.1 q.2 hq
        rw [scanAll_inr A k ts q.1 q.2 hlt hq, scanAll_inr _ k ts q.1 q.2 hl hp]
        exact scan_join A B n q.1 q.2 (by omega) h2
    · have : k = A.length := by omega
      subst this
      rw [scanAll_end A _ ts (Nat.le_refl _)]
      exact ⟨fun p h => (by cases h), fun r h => by cases h; rfl⟩
def shT (o : Nat) (t : Tok) : Tok := { t with pos := t.pos + (o : Int) }
def shL (o : Nat) (ts : List Tok) : List Tok := ts.map (shT o)
theorem drop_pre (P B : List UInt8) (k : Nat) : (P ++ B).drop (P.length + k) = B.drop k := by
  rw [List.drop_append]; simp
theorem get_pre (P B : List UInt8) (k : Nat) : (P ++ B)[P.length + k]? = B[k]? := by
  rw [List.getElem?_append_right (by omega)]; simp
theorem re_pre2 (p : UInt8 → Bool) (P B : List UInt8) (k : Nat) : runEnd p (P ++ B) (P.length + k) = P.length + runEnd p B k := by
  unfold runEnd
  rw [drop_pre]; omega
theorem sub_pre (P B : List UInt8) (a b : Nat) : sub (P ++ B) (P.length + a) (P.length + b) = sub B a b := by
  unfold sub
  rw [drop_pre]
  congr 1; omega
def shR (o : Nat) (pre : List Tok) : Sum Nat (Nat × List Tok) → Sum Nat (Nat × List Tok)
  | .inl p => .inl (o + p)
  | .inr q => .inr (o + q.1, pre ++ shL o q.2)
def Still (pre : List Tok) : Prop := ∀ k, endT pre k = pre
theorem endT_still (ts : List Tok) (k : Int) : Still (endT ts k) := by
  intro k'
  unfold endT
  cases h : ts.getLast? with
  | none => simp [h]
  | some t =>
    by_cases he : tokEnds t.kind t.text = true
    · simp [he]
      decide
    · simp [h, he]
theorem endT_sh (o : Nat) (pre ts : List Tok) (hp : Still pre) (k : Nat) : endT (pre ++ shL o ts) ((o + k : Nat) : Int) = pre ++ shL o (endT ts k) := by
  rcases List.eq_nil_or_concat ts with rfl | ⟨r, t, rfl⟩
  · have e : shL o [] = [] := rfl
    have e2 : endT [] (k : Int) = [] := rfl
    rw [e, List.append_nil, hp, e2, e, List.append_nil]
  · rw [List.concat_eq_append]
    have e1 : shL o (r ++ [t]) = shL o r ++ [shT o t] := by simp [shL]
    have g1 : (pre ++ (shL o r ++ [shT o t])).getLast? = some (shT o t) := by simp
    have g2 : (r ++ [t]).getLast? = some t := by simp
    unfold endT
    rw [e1, g1, g2]
    simp only
    by_cases he : tokEnds t.kind t.text = true
    · have he' : tokEnds (shT o t).kind (shT o t).text = true := he
      rw [if_pos he, if_pos he']
      simp [shL, shT]
      omega
    · have he' : ¬ tokEnds (shT o t).kind (shT o t).text = true := he
      rw [if_neg he, if_neg he', e1]
theorem shL_snoc (o : Nat) (ts : List Tok) (t : Tok) : shL o (ts ++ [t]) = shL o ts ++ [shT o t] := by simp [shL]
theorem part_pre (P B : List UInt8) (k : Nat) (pre ts : List Tok) (hp : Still pre) (hk : k < B.length) : partF (P ++ B) (P.length + k) (pre ++ shL P.length ts) = shR P.length pre (partF B k ts) := by
  have hc : B[k]? = some B[k] := List.getElem?_eq_getElem hk
  have hc' : (P ++ B)[P.length + k]? = some B[k] := by rw [get_pre]; exact hc
  have hcm : cmt (P ++ B) (P.length + k) = cmt B k := by unfold cmt; rw [drop_pre]
  have tk : ∀ (kd nm : Int) (x : List UInt8), pre ++ shL P.length ts ++ [⟨kd, x, nm, ((P.length + k : Nat) : Int)⟩] = pre ++ shL P.length (ts ++ [⟨kd, x, nm, (k : Int)⟩]) := fun kd nm x => by
    rw [shL_snoc, List.append_assoc]
    congr 3
    simp [shT]; omega
  unfold partF
  rw [hc, hc']
  simp only
  rw [hcm]
  split
  · simp [shR]; omega
  · split
    · simp only [shR]
      rw [endT_sh P.length pre ts hp k]
      rfl
    · split
      · rw [re_pre2]; rfl
      · split
        · unfold nameF
          rw [re_pre2, sub_pre, tk]
          have e : P.length + runEnd isNam B k - (P.length + k) = runEnd isNam B k - k := by omega
          rw [e]
          split <;> rfl
        · split
          · unfold numF
            have hla : letAt (P ++ B) (P.length + runEnd isDig B k) = letAt B (runEnd isDig B k) := by unfold letAt; rw [get_pre]
            rw [re_pre2, sub_pre, tk, hla]
            split
            · rfl
            · split <;> rfl
          · split
            · unfold textF
              have e : (P ++ B).drop (P.length + k + 1) = B.drop (k + 1) := by rw [Nat.add_assoc, drop_pre]
              rw [e]
              rcases txt (B.drop (k + 1)) with ⟨o, n⟩
              cases o with
              | none => simp [shR]; omega
              | some m =>
                simp only
                split
                · rfl
                · simp only [shR]
                  rw [tk]
                  congr 2; omega
            · unfold markF
              rw [drop_pre]
              have e : P.length + k + mLen (B.drop k) = P.length + (k + mLen (B.drop k)) := by omega
              rw [e, sub_pre, tk]
              split <;> rfl
theorem scan_pre (P B : List UInt8) (pre : List Tok) (hp : Still pre) : ∀ (n k : Nat) (ts : List Tok), B.length - k ≤ n → k ≤ B.length →
    scanAll (P ++ B) (P.length + k) (pre ++ shL P.length ts) = match scanAll B k ts with | .inl p => .inl (P.length + p) | .inr r => .inr (pre ++ shL P.length r)
  | 0, k, ts, hn, hk => by
    rw [scanAll_end B k ts (by omega), scanAll_end _ _ _ (by rw [List.length_append]; omega)]
  | n + 1, k, ts, hn, hk => by
    rcases Nat.lt_or_ge k B.length with hlt | hge
    · have hl : P.length + k < (P ++ B).length := by rw [List.length_append]; omega
      have hpp := part_pre P B k pre ts hp hlt
      cases hq : partF B k ts with
      | inl p =>
        rw [hq] at hpp
        rw [scanAll_inl B k ts p hlt hq, scanAll_inl _ _ _ _ hl hpp]
      | inr q =>
        rw [hq] at hpp
        obtain ⟨h1, h2, _⟩ := partF_prog B k ts hlt q.1 q.2 hq
        rw [scanAll_inr B k ts q.1 q.2 hlt hq, scanAll_inr _ _ _ _ _ hl hpp]
        exact scan_pre P B pre hp n q.1 q.2 (by omega) h2
    · rw [scanAll_end B k ts (by omega), scanAll_end _ _ _ (by rw [List.length_append]; omega)]
theorem join_ok (A B : List UInt8) (ta tb : List Tok) (ha : scanAll A 0 [] = .inr ta) (hb : scanAll B 0 [] = .inr tb) : scanAll (A ++ 10 :: B) 0 [] = .inr (endT ta A.length ++ shL (A.length + 1) tb) := by
  have h1 := (scan_join A B _ 0 [] (Nat.le_refl _) (Nat.zero_le _)).2 ta ha
  have hl : A.length < (A ++ 10 :: B).length := by rw [List.length_append]; simp
  have hp : partF (A ++ 10 :: B) A.length ta = .inr (A.length + 1, endT ta A.length) := by
    unfold partF
    rw [List.getElem?_append_right (Nat.le_refl _)]
    simp
  have e : A ++ 10 :: B = (A ++ [10]) ++ B := by simp
  have hlen : (A ++ [10]).length = A.length + 1 := by simp
  have h2 := scan_pre (A ++ [10]) B (endT ta A.length) (endT_still _ _) _ 0 [] (Nat.le_refl _) (Nat.zero_le _)
  rw [hb, hlen, ← e] at h2
  rw [h1, scanAll_inr _ _ _ _ _ hl hp]
  simpa [shL] using h2
theorem join_all (A B : List UInt8) (ta tb : List Tok) : allP (endT ta A.length ++ shL (A.length + 1) tb) (A ++ 10 :: B).length = endT ta A.length ++ shL (A.length + 1) (allP tb B.length) := by
  have hlen : (A ++ 10 :: B).length = A.length + 1 + B.length := by rw [List.length_append]; simp; omega
  unfold allP
  rw [hlen, endT_sh (A.length + 1) _ tb (endT_still _ _) B.length, shL_snoc, List.append_assoc]
  congr 3
  simp [shT]; omega
theorem lex_zero (A : List UInt8) (hl : A.length ≤ 8192) (tk : List Tok) (p : Int) (h : lexR A = (tk, 0, p)) : ∃ ta, scanAll A 0 [] = .inr ta ∧ tk = allP ta A.length ∧ p = 0 := by
  cases hs : scanAll A 0 [] with
  | inl q => rw [lexR_bad A hl q hs] at h; simp at h
  | inr ta =>
    cases hd : deepF 0 (allP ta A.length) with
    | some a => rw [lexR_deep A hl ta hs a hd] at h; simp at h
    | none =>
      rw [lexR_ok A hl ta hs hd] at h
      simp at h
      exact ⟨ta, rfl, h.1.symm, h.2.symm⟩
end Go.Proofs.YtnlmgifjmlpgoaaGreatDoor.Lx
namespace Go.Proofs.YtnlmgifjmlpgoaaGreatDoor.Px
open Go.Proofs.YtnlmgifjmlpgoaaGreatDoor.Lx
def KW (ts : List Tok) : Prop := ∀ t ∈ ts, t.kind ≠ 6 ∧ (t.kind = 4 → plain t.text = true)
theorem KW.snoc {ts : List Tok} (h : KW ts) (t : Tok) (h0 : t.kind ≠ 6) (h1 : t.kind = 4 → plain t.text = true) : KW (ts ++ [t]) := fun u hu => by
  rcases List.mem_append.1 hu with hu | hu
  · exact h u hu
  · rw [List.mem_singleton.1 hu]; exact ⟨h0, h1⟩
theorem KW.endT {ts : List Tok} (h : KW ts) (k : Int) : KW (endT ts k) := by
  unfold Lx.endT
  split
  · split
    · exact h.snoc _ (by simp) (fun e => absurd e (by simp))
    · exact h
  · exact h
theorem words_plain (t : List UInt8) (h : isWd t = true) : plain t = true := by
  have : wordList.all plain = true := by decide
  exact List.all_eq_true.1 this t (by simpa [isWd] using h)
theorem part_kw (l : List UInt8) (k : Nat) (ts : List Tok) (hk : k < l.length) (hp : KW ts) (q : Nat × List Tok) (h : partF l k ts = .inr q) : KW q.2 := by
  have hc : l[k]? = some l[k] := List.getElem?_eq_getElem hk
  generalize l[k] = c at hc
  unfold partF at h
  rw [hc] at h
  simp only at h
  split at h
  · cases h; exact hp
  · split at h
    · cases h; exact hp.endT _
    · split at h
      · cases h; exact hp
      · split at h
        · unfold nameF at h
          split at h
          · cases h
          · cases h
            refine hp.snoc _ ?_ ?_
            · show nmK _ ≠ 6
              unfold nmK; split <;> decide
            · intro e
              refine words_plain _ ?_
              have e : nmK _ = 4 := e
              unfold nmK at e
              split at e
              · assumption
              · exact absurd e (by decide)
        · split at h
          · unfold numF at h
            split at h
            · cases h
            · split at h
              · cases h
              · cases h; exact hp.snoc _ (by simp) (fun e => absurd e (by simp))
          · split at h
            · unfold textF at h
              split at h
              · cases h
              · split at h
                · cases h
                · cases h; exact hp.snoc _ (by simp) (fun e => absurd e (by simp))
            · unfold markF at h
              split at h
              · cases h
              · cases h; exact hp.snoc _ (by simp) (fun e => absurd e (by simp))
theorem scan_kw : ∀ (f : Nat) (l : List UInt8) (k : Nat) (ts r : List Tok), KW ts → scanF f l k ts = .inr r → KW r
  | 0, l, k, ts, r, h, hs => by rw [scanF] at hs; cases hs; exact h
  | f + 1, l, k, ts, r, h, hs => by
    rw [scanF] at hs
    by_cases hlt : k < l.length
    · rw [if_pos hlt] at hs
      cases hp : partF l k ts with
      | inl p => rw [hp] at hs; cases hs
      | inr q =>
        rw [hp] at hs
        exact scan_kw f l q.1 q.2 r (part_kw l k ts hlt h q hp) hs
    · rw [if_neg hlt] at hs; cases hs; exact h
theorem deep_app : ∀ (xs ys : List Tok) (o : Int), deepF o xs = none → deepF o (xs ++ ys) = deepF (xs.foldl openAft o) ys
  | [], _, _, _ => rfl
  | t :: r, ys, o, h => by
    rw [List.cons_append, deepF]
    rw [deepF] at h
    split at h
    · cases h
    · rename_i hn
      rw [if_neg hn]
      exact deep_app r ys (openAft o t) h
theorem deep_pre : ∀ (xs ys : List Tok) (o : Int), deepF o (xs ++ ys) = none → deepF o xs = none
  | [], _, _, _ => rfl
  | t :: r, ys, o, h => by
    rw [List.cons_append, deepF] at h
    rw [deepF]
    split at h
    · cases h
    · rename_i hn
      rw [if_neg hn]
      exact deep_pre r ys _ h
theorem deep_sh (d : Nat) : ∀ (ts : List Tok) (o : Int), deepF o ts = none → deepF o (shL d ts) = none
  | [], _, _ => rfl
  | t :: r, o, h => by
    rw [deepF] at h
    show deepF o (shT d t :: shL d r) = none
    rw [deepF]
    have e : openAft o (shT d t) = openAft o t := rfl
    rw [e]
    split at h
    · cases h
    · rename_i hn
      rw [if_neg (show ¬ ((shT d t).kind = 5 ∧ 40 < openAft o t) from hn)]
      exact deep_sh d r _ h
theorem tok_at {ts : List Tok} {k : Nat} (h : k < ts.length) : tok ts k = ts[k] := by
  unfold tok; rw [List.getD_eq_getElem?_getD, List.getElem?_eq_getElem h]; rfl
theorem lev_fold (ts : List Tok) : ∀ k, k ≤ ts.length → lev ts k = (ts.take k).foldl openAft 0
  | 0, _ => by simp [lev]
  | k + 1, h => by
    rw [lev, lev_fold ts k (by omega), tok_at (by omega), List.take_succ_eq_append_getElem (by omega), List.foldl_append]; rfl
def eqRel : TRel where
  E := Eq
  L := Eq
  P := Eq
  node := fun h1 h2 => by rw [h1, h2]
  nil := rfl
  cons := fun h1 h2 => by rw [h1, h2]
  app := fun h1 h2 => by rw [h1, h2]
  text := fun h => by rw [h]
  pos := fun h => by rw [h]
  kids := fun h => by rw [h]
  zero := rfl
  reflE := fun _ => rfl
  reflL := fun _ => rfl
  reflP := fun _ => rfl
  one := fun h => ⟨_, h.symm, rfl⟩
def bareT : Tree → Tree
  | .mk a b c _ l => .mk a b c 0 (l.map bareT)
theorem bareT_mk (a : Int) (b : List UInt8) (c p : Int) (l : List Tree) : bareT (.mk a b c p l) = .mk a b c 0 (l.map bareT) := by rw [bareT]
def bareRel : TRel where
  E := fun t t' => bareT t = bareT t'
  L := fun l l' => l.map bareT = l'.map bareT
  P := fun _ _ => True
  node := fun _ h2 => by rw [bareT_mk, bareT_mk, h2]
  nil := rfl
  cons := fun h1 h2 => by rw [List.map_cons, List.map_cons, h1, h2]
  app := fun h1 h2 => by rw [List.map_append, List.map_append, h1, h2]
  text := fun {t t'} h => by cases t; cases t'; rw [bareT_mk, bareT_mk] at h; exact (Tree.mk.inj h).2.1
  pos := fun _ => trivial
  kids := fun {t t'} h => by cases t; cases t'; rw [bareT_mk, bareT_mk] at h; exact (Tree.mk.inj h).2.2.2.2
  zero := trivial
  reflE := fun _ => rfl
  reflL := fun _ => rfl
  reflP := fun _ => trivial
  one := fun {t l'} h => by
    match l' with
    | [] => simp at h
    | [t'] => exact ⟨t', rfl, by simpa using h⟩
    | _ :: _ :: _ => simp at h
theorem run_file (ts : List Tok) (n : Nat) (acc : List Tree) (h : Bool) (k : Nat) : run ts (n + 1) (.fileMore acc) h k = fFileMore ts (run ts n) acc h k := rfl
theorem run_det (ts : List Tok) (n m : Nat) (j : Job) (h : Bool) (k : Nat) (h1 : run ts n j h k ≠ .out) (h2 : run ts m j h k ≠ .out) : run ts n j h k = run ts m j h k := by
  have a := run_mono ts n m j h k h1
  have b := run_mono ts m n j h k h2
  rw [← a, ← b, Nat.add_comm]
theorem tok_app_l (pre rest : List Tok) (k : Nat) (h : k < pre.length) : tok (pre ++ rest) k = tok pre k := by
  unfold tok; rw [List.getD_eq_getElem?_getD, List.getD_eq_getElem?_getD, List.getElem?_append_left h]
theorem tok_app_r (pre rest : List Tok) (k : Nat) : tok (pre ++ rest) (pre.length + k) = tok rest k := by
  unfold tok; rw [List.getD_eq_getElem?_getD, List.getD_eq_getElem?_getD, List.getElem?_append_right (by omega), Nat.add_sub_cancel_left]
theorem tok_end (pre : List Tok) (e : Tok) (he : e.kind = 6) (k : Nat) (h : pre.length ≤ k) : (tok (pre ++ [e]) k).kind = 6 := by
  obtain ⟨d, rfl⟩ : ∃ d, k = pre.length + d := ⟨k - pre.length, by omega⟩
  rw [tok_app_r]
  cases d with
  | zero => exact he
  | succ d => rfl
theorem bind1_ok {r : R} {f : Tree → Int → Nat → R} {l : List Tree} {s : Int} {k : Nat} (h : r.bind1 f = .ok l s k) : ∃ t s2 k2, r = .ok [t] s2 k2 ∧ f t s2 k2 = .ok l s k := by
  cases r with
  | bad p => cases h
  | out => cases h
  | ok l2 s2 k2 =>
    match l2, h with
    | [], h => cases h
    | [t], h => exact ⟨t, s2, k2, rfl, h⟩
    | _ :: _ :: _, h => cases h
theorem want_ok {ts : List Tok} {k : Nat} {s : List UInt8} {f : Tok → Nat → R} {l : List Tree} {s2 : Int} {k2 : Nat} (h : want ts k s f = .ok l s2 k2) : isS ts k [s] = true ∧ f (tok ts k) (k + 1) = .ok l s2 k2 := by
  unfold want at h
  split at h
  · rename_i hc; exact ⟨hc, h⟩
  · cases h
theorem file_front (pre rest : List Tok) (e : Tok) (he : e.kind = 6) (hk : KW pre) (h : Bool) : ∀ (n : Nat) (acc : List Tree) (k : Nat) (l : List Tree) (s : Int) (k' : Nat), k ≤ pre.length →
    run (pre ++ [e]) n (.fileMore acc) h k = .ok l s k' → ∃ kids, l = [nd 1 [] 0 kids] ∧ k' = pre.length ∧ s = 0 ∧ ∀ N r, run (pre ++ rest) N (.fileMore kids) h pre.length = r → r ≠ .out → run (pre ++ rest) (N + n) (.fileMore acc) h k = r
  | 0, acc, k, l, s, k', _, hr => by cases hr
  | n + 1, acc, k, l, s, k', hle, hr => by
    rw [run_file] at hr
    unfold fFileMore at hr
    by_cases h6 : (tok (pre ++ [e]) k).kind = 6
    · rw [if_pos h6] at hr
      have hkl : k = pre.length := by
        apply Decidable.byContradiction
        intro hn
        have hlt : k < pre.length := by omega
        rw [tok_app_l _ _ _ hlt, tok_at hlt] at h6
        exact (hk _ (List.getElem_mem hlt)).1 h6
      cases hr
      refine ⟨acc, rfl, hkl, rfl, fun N r hN hne => ?_⟩
      subst hkl
      have := run_mono (pre ++ rest) N (n + 1) (.fileMore acc) h pre.length (by rw [hN]; exact hne)
      rw [this, hN]
    · rw [if_neg h6] at hr
      have hlt : k < pre.length := by
        apply Decidable.byContradiction
        intro hn
        exact h6 (tok_end pre e he k (by omega))
      obtain ⟨d, s2, k2, hd, hr⟩ := bind1_ok hr
      obtain ⟨hs, hr⟩ := want_ok hr
      have hk2 : k2 < pre.length := by
        apply Decidable.byContradiction
        intro hn
        have h66 := tok_end pre e he k2 (by omega)
        have := (is_text hs).2
        omega
      obtain ⟨kids, rfl, rfl, rfl, hN⟩ := file_front pre rest e he hk h n (acc ++ [d]) (k2 + 1) l s k' (by omega) hr
      refine ⟨kids, rfl, rfl, rfl, fun N r hNr hne => ?_⟩
      have H : TokR eqRel pre.length 0 (pre ++ [e]) (pre ++ rest) := fun i hi => by
        rw [Nat.add_zero, tok_app_l _ _ _ hi, tok_app_l _ _ _ hi]; exact ⟨rfl, rfl, rfl, rfl⟩
      obtain ⟨_, hsim⟩ := run_sim eqRel pre.length 0 _ _ H n .decl .decl h k k rfl (fun _ => trivial) _ _ _ hd
      obtain ⟨l', kk, hd', hkk, hl⟩ := hsim hk2
      have hl : [d] = l' := hl
      subst hl
      rw [Nat.add_zero] at hkk
      rw [hkk] at hd'
      have hd2 := run_mono (pre ++ rest) n N .decl h k (by rw [hd']; simp)
      rw [hd', Nat.add_comm] at hd2
      rw [← Nat.add_assoc, run_file]
      unfold fFileMore
      rw [tok_app_l _ _ _ hlt] at h6
      rw [tok_app_l _ _ _ hlt, if_neg h6, hd2]
      simp only [R.bind1, want]
      have hs' : isS (pre ++ rest) k2 [[59]] = true := by rw [← tk_is H (i := k2) (ii := k2) rfl hk2] at hs; exact hs
      rw [if_pos hs']
      exact hN N r hNr hne
theorem file_back (T : TRel) (ts ts' : List Tok) (o : Nat) (H : ∀ m, TokR T m o ts ts') (h : Bool) : ∀ (n : Nat) (acc acc' : List Tree) (k : Nat) (l : List Tree) (s : Int) (k' : Nat),
    run ts n (.fileMore acc) h k = .ok l s k' → ∃ lb lb', l = [nd 1 [] 0 (acc ++ lb)] ∧ T.L lb lb' ∧ run ts' n (.fileMore acc') h (k + o) = .ok [nd 1 [] 0 (acc' ++ lb')] s (k' + o)
  | 0, acc, acc', k, l, s, k', hr => by cases hr
  | n + 1, acc, acc', k, l, s, k', hr => by
    rw [run_file] at hr
    unfold fFileMore at hr
    by_cases h6 : (tok ts k).kind = 6
    · rw [if_pos h6] at hr
      cases hr
      refine ⟨[], [], by rw [List.append_nil], T.nil, ?_⟩
      rw [run_file]
      unfold fFileMore
      rw [if_pos (by rw [tk_kind (H (k + 1)) rfl (by omega)]; exact h6), List.append_nil]
    · rw [if_neg h6] at hr
      obtain ⟨d, s2, k2, hd, hr⟩ := bind1_ok hr
      obtain ⟨hs, hr⟩ := want_ok hr
      obtain ⟨_, hsim⟩ := run_sim T (k2 + 1) o ts ts' (H _) n .decl .decl h k (k + o) rfl (fun _ => trivial) _ _ _ hd
      obtain ⟨l', kk, hd', rfl, hl⟩ := hsim (by omega)
      obtain ⟨d', rfl, he⟩ := T.one hl
      obtain ⟨lb, lb', rfl, hL, hrun⟩ := file_back T ts ts' o H h n (acc ++ [d]) (acc' ++ [d']) (k2 + 1) l s k' hr
      refine ⟨d :: lb, d' :: lb', by simp, T.cons he hL, ?_⟩
      rw [run_file]
      unfold fFileMore
      rw [if_neg (by rw [tk_kind (H (k + 1)) rfl (by omega)]; exact h6), hd']
      simp only [R.bind1, want]
      rw [if_pos (by rw [tk_is (H (k2 + 1)) rfl (by omega)]; exact hs)]
      have e1 : k2 + o + 1 = k2 + 1 + o := by omega
      rw [e1, hrun]
      simp
theorem tok_sh (d : Nat) (ts : List Tok) (k : Nat) : (tok (shL d ts) k).kind = (tok ts k).kind ∧ (tok (shL d ts) k).text = (tok ts k).text ∧ (tok (shL d ts) k).num = (tok ts k).num := by
  unfold tok shL
  rw [List.getD_eq_getElem?_getD, List.getD_eq_getElem?_getD, List.getElem?_map]
  cases ts[k]? <;> exact ⟨rfl, rfl, rfl⟩
theorem words_of (pre : List Tok) (e : Tok) (he : e.kind = 6) (hk : KW pre) : Words (pre ++ [e]) := by
  intro i h4
  by_cases hi : i < pre.length
  · rw [tok_app_l _ _ _ hi, tok_at hi] at *
    exact (hk _ (List.getElem_mem hi)).2 h4
  · have := tok_end pre e he i (by omega)
    omega
theorem join_parse (A B : List UInt8) (hl : A.length + B.length ≤ 8000) (ka kb : List Tok) (pa pb : Int) (ha : lexR A = (ka, 0, pa)) (hb : lexR B = (kb, 0, pb)) (h : Bool) (n m : Nat) (la lb : List Tree) (sa sb : Int) (ea eb : Nat)
    (hra : run ka n (.fileMore []) h 0 = .ok la sa ea) (hrb : run kb m (.fileMore []) h 0 = .ok lb sb eb) :
    ∃ ca cb cb' kj N ej, la = [nd 1 [] 0 ca] ∧ lb = [nd 1 [] 0 cb] ∧ cb.map bareT = cb'.map bareT ∧ lexR (A ++ 10 :: B) = (kj, 0, 0) ∧ run kj N (.fileMore []) h 0 = .ok [nd 1 [] 0 (ca ++ cb')] sb ej := by
  obtain ⟨ta, hsa, rfl, _⟩ := Lx.lex_zero A (by omega) ka pa ha
  obtain ⟨tb, hsb, rfl, _⟩ := Lx.lex_zero B (by omega) kb pb hb
  have hsj := join_ok A B ta tb hsa hsb
  have hlen : (A ++ 10 :: B).length ≤ 8192 := by rw [List.length_append, List.length_cons]; omega
  have hKa : KW (endT ta A.length) := (scan_kw _ A 0 [] ta (fun t ht => by simp at ht) hsa).endT _
  have he : (⟨6, [], 0, (A.length : Int)⟩ : Tok).kind = 6 := rfl
  -- the fronts
  obtain ⟨ca, rfl, rfl, rfl, hN⟩ := file_front (endT ta A.length) (shL (A.length + 1) (allP tb B.length)) ⟨6, [], 0, (A.length : Int)⟩ he hKa h n [] 0 la sa ea (Nat.zero_le _) hra
  have H : ∀ m, TokR bareRel m (endT ta A.length).length (allP tb B.length) (endT ta A.length ++ shL (A.length + 1) (allP tb B.length)) := fun m i _ => by
    rw [Nat.add_comm i, tok_app_r]
    obtain ⟨h1, h2, h3⟩ := tok_sh (A.length + 1) (allP tb B.length) i
    exact ⟨h1, h2, h3, trivial⟩
  obtain ⟨cb, cb', rfl, hL, hrj⟩ := file_back bareRel _ _ _ H h m [] ca 0 lb sb eb hrb
  have hL : cb.map bareT = cb'.map bareT := hL
  rw [Nat.zero_add] at hrj
  refine ⟨ca, cb, cb', _, _, _, rfl, by rw [List.nil_append], hL, ?_, hN m _ hrj (by simp)⟩
  -- how deep
  have hda : deepF 0 (allP ta A.length) = none := by
    cases hd : deepF 0 (allP ta A.length) with
    | none => rfl
    | some a => rw [lexR_deep A (by omega) ta hsa a hd] at ha; simp at ha
  have hdb : deepF 0 (allP tb B.length) = none := by
    cases hd : deepF 0 (allP tb B.length) with
    | none => rfl
    | some a => rw [lexR_deep B (by omega) tb hsb a hd] at hb; simp at hb
  have hlev : lev (allP ta A.length) (endT ta A.length).length = 0 := by
    have hb1 := run_bal (allP ta A.length) (words_of _ _ he hKa) n (.fileMore []) h 0 trivial _ _ _ hra
    have hb1 : lev (allP ta A.length) (endT ta A.length).length = lev (allP ta A.length) 0 + 0 := hb1
    rw [hb1]; rfl
  have hfold : (endT ta A.length).foldl openAft 0 = 0 := by
    rw [lev_fold _ _ (by unfold allP; simp)] at hlev
    unfold allP at hlev
    rwa [List.take_left] at hlev
  rw [lexR_ok _ hlen _ hsj]
  · rw [join_all]
  · rw [join_all, deep_app _ _ _ (deep_pre _ _ _ hda), hfold]
    exact deep_sh _ _ _ hdb
open Go.Proofs.YtnlmgifjmlpgoaaGreatDoor.Lx
def cnt : Tree → Nat
  | .mk _ _ _ _ l => 1 + (l.map cnt).sum
def cntL (l : List Tree) : Nat := (l.map cnt).sum
theorem cnt_mk (a : Int) (b : List UInt8) (c p : Int) (l : List Tree) : cnt (.mk a b c p l) = 1 + cntL l := by rw [cnt]; rfl
theorem cnt_nd (a : Int) (b : List UInt8) (p : Int) (l : List Tree) : cnt (nd a b p l) = 1 + cntL l := cnt_mk ..
theorem cnt_none : cnt none8 = 1 := by rw [none8, cnt_nd]; rfl
theorem cntL_nil : cntL [] = 0 := rfl
theorem cntL_cons (t : Tree) (l : List Tree) : cntL (t :: l) = cnt t + cntL l := by simp [cntL]
theorem cntL_app (l r : List Tree) : cntL (l ++ r) = cntL l + cntL r := by simp [cntL]
theorem cnt_alone (t : Tree) : cnt (alone t) = 1 + cnt t := by rw [alone, cnt_nd, cntL_cons, cntL_nil]; omega
theorem cnt_kids (t : Tree) : cnt t = 1 + cntL t.kids := by cases t; rw [cnt_mk]; rfl
def ex : Job → Int
  | .result => 1 | .fileMore _ => 1 | .forHead => 3 | .expr => -8 | .op _ => -8 | .unary => -8 | .shaped => -8 | .primary => -8 | .operand => -8 | .wordOperand => -8 | .markOperand => -8 | .builtin _ => -8
  | _ => 0
def cj : Job → Nat
  | .listMore _ acc => cntL acc | .stmts acc => cntL acc | .acting t _ => cnt t | .clausesMore _ acc => cntL acc | .caseMore acc => cntL acc | .opOf t _ => cnt t
  | .primMore t _ => cnt t | .bracketed t _ => cnt t | .bracedMore _ acc => cntL acc | .fieldsMore acc => cntL acc | .fileMore acc => cntL acc
  | _ => 0
def GB : Job → Prop
  | .builtin r => r = .makeArgs ∨ r = .newArgs ∨ r = .args
  | _ => True
def Few (j : Job) (k : Nat) (r : R) : Prop := F (fun l _ k' => k + su j ≤ k' ∧ (cntL l : Int) ≤ cj j + 16 * ((k' : Int) - k) + ex j) r
theorem ex_item (it : It) : ex it.job ≤ 0 := by cases it <;> decide
theorem cj_item (it : It) : cj it.job = 0 := by cases it <;> rfl
set_option maxHeartbeats 40000000 in
theorem step_few (ts : List Tok) (rec : Job → Bool → Nat → R) (ih : ∀ j h k, GB j → Few j k (rec j h k)) (j : Job) (h : Bool) (k : Nat) (hb : GB j) : Few j k (step ts rec j h k) := by
  unfold Few at *
  cases j
  all_goals
    simp only [step, fWtype, fResult, fNamed, fListed, fListMore, fFunction, fBlock, fStmts, fStmt, fVarStmt, fReturnStmt, fCallStmt, fLabelled, fSimple, fActing, fIfStmt, fBreakable, fForStmt, forTail2, forTail, fForHead, fForLead, fSwitchStmt, fSelectStmt, fClauses, fClausesMore, fClause, fCaseMore, fClauseBlock, fComm, fCommHead, fOp, fOpOf, fUnary, fShaped, fPrimary, fPrimMore, fBr3, fBr2, fBracketed, fOperand, fWordOperand, fBuiltin, fMakeArgs, fNewArgs, fMarkOperand, fBraced, fBracedMore, fInitial, fDecl, fTypeDecl, fFieldsMore, fFileMore, jump, behind, ex, cj, su]
    (try (rename_i it acc; (have hit : It := it); clear hit; cases it <;> simp only [It.job]))
    (try (rename_i it; (have hit : It := it); clear hit; cases it <;> simp only [It.job]))
    (try (rcases (show _ ∨ _ ∨ _ from hb) with rfl | rfl | rfl))
    (try (rename_i c acc; cases c <;> simp only [Bool.false_eq_true, if_false, if_true]))
    repeat' (first
      | exact fine_bad
      | refine fine_want ?_
      | refine fine_name ?_
      | refine fine_ite (fun _ => ?_) (fun _ => ?_)
      | (refine fine_bind1 (ih _ _ _ (by first | trivial | exact Or.inl rfl | exact Or.inr (Or.inl rfl) | exact Or.inr (Or.inr rfl))) ?_
         intro t _ _ hx
         (try simp only [cj_item, su_item] at hx)
         (try simp only [ex, cj, su, cntL_nil, cntL_cons, cntL_app, cnt_nd, cnt_none, cnt_alone] at hx)
         have hk := cnt_kids t)
      | (refine fine_bind (ih _ _ _ (by first | trivial | exact Or.inl rfl | exact Or.inr (Or.inl rfl) | exact Or.inr (Or.inr rfl))) ?_
         intro _ _ _ hx
         (try simp only [cj_item, su_item] at hx)
         (try simp only [ex, cj, su, cntL_nil, cntL_cons, cntL_app, cnt_nd, cnt_none, cnt_alone] at hx))
      | (refine fine_tail (ih _ _ _ (by first | trivial | exact Or.inl rfl | exact Or.inr (Or.inl rfl) | exact Or.inr (Or.inr rfl))) ?_
         intro _ _ _ hx
         (try simp only [cj_item, su_item] at hx)
         (try simp only [ex, cj, su, cntL_nil, cntL_cons, cntL_app, cnt_nd, cnt_none, cnt_alone] at hx)
         (first | omega | (constructor <;> omega)))
      | (refine fine_ok ?_
         (try simp only [cntL_nil, cntL_cons, cntL_app, cnt_nd, cnt_none, cnt_alone, cnt_mk])
         (first | omega | (constructor <;> omega))))
theorem run_few (ts : List Tok) : ∀ (n : Nat) (j : Job) (h : Bool) (k : Nat), GB j → Few j k (run ts n j h k)
  | 0, _, _, _, _ => fun _ _ _ e => by cases e
  | n + 1, j, h, k, hb => step_few ts (run ts n) (run_few ts n) j h k hb
theorem cnt_pos (t : Tree) : 1 ≤ cnt t := by rw [cnt_kids]; omega
theorem cntL_len : ∀ l : List Tree, l.length ≤ cntL l
  | [] => Nat.le_refl _
  | t :: r => by rw [cntL_cons, List.length_cons]; have := cntL_len r; have := cnt_pos t; omega
theorem cntL_mem {t : Tree} : ∀ {l : List Tree}, t ∈ l → cnt t ≤ cntL l
  | a :: r, h => by
    rw [cntL_cons]
    rcases List.mem_cons.1 h with rfl | h
    · omega
    · have := cntL_mem h; omega
end Go.Proofs.YtnlmgifjmlpgoaaGreatDoor.Px
