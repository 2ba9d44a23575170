import Derived.Test.YtheknbfbneghgaaGreatDoorParP
import Derived.Test.YtheknbfbneghgaaGreatDoorState
import Derived.Deep.Slices
import Derived.ProofKit
import Derived.SizedLaws
import Derived.Deep.RegionHeld2
import Derived.Deep.LoopGhost
import Derived.Deep.AppendLies
import Derived.Laws.MakeOwn
import Derived.Test.YtheknbfbneghgaaGreatDoorParF
import Derived.Test.YtheknbfbneghgaaGreatDoorLexP
set_option linter.unusedVariables false
set_option linter.unusedSimpArgs false
set_option maxRecDepth 100000
namespace Go.Proofs.YtheknbfbneghgaaGreatDoor.Px
open Go.Proofs.YtheknbfbneghgaaGreatDoor.Lx
def er : Tree → Tree
  | .mk a b c _ l => .mk a b c 0 (l.map er)
theorem er_mk (a : Int) (b : List UInt8) (c p : Int) (l : List Tree) : er (.mk a b c p l) = .mk a b c 0 (l.map er) := by rw [er]
end Go.Proofs.YtheknbfbneghgaaGreatDoor.Px
namespace Go.Proofs.YtheknbfbneghgaaGreatDoor
open Go.RowKit Go.Proofs.YtheknbfbneghgaaGreatDoor.Lx
theorem ba2 {a b : World} (h : Below a.heap.size a b) (o : Obj) : Below a.heap.size a (b.alloc o) := h.alloc h.size o
theorem b_ownsRow {w w' : World} {base e size n : Nat} {v : Value} {xs : List Value} (h : w.ownsRow base e size v n xs) (hb : ∀ g, v.ownBlock = some g → w'.heap[g]? = w.heap[g]?) : w'.ownsRow base e size v n xs := by
  refine ⟨h.1, ?_⟩
  rcases h.2 with h2 | ⟨g, cap, cur, rfl, h3, h4, h5⟩
  · exact .inl h2
  · exact .inr ⟨g, cap, cur, rfl, h3, (hb g rfl).trans h4, h5⟩
end Go.Proofs.YtheknbfbneghgaaGreatDoor
set_option maxRecDepth 100000
namespace Go.Proofs.YtheknbfbneghgaaGreatDoor.Px
open Go.Proofs.YtheknbfbneghgaaGreatDoor.Lx
def Tree.kind : Tree → Int | .mk k _ _ _ _ => k
def Tree.num : Tree → Int | .mk _ _ n _ _ => n
def zeroT : Tree := .mk 0 [] 0 0 []
def yM (t : Tree) (i : Nat) : Tree := t.kids.getD i zeroT
def qB (c : UInt8) : List UInt8 := if c = 10 then [92, 110] else if c = 34 then [92, 34] else if c = 92 then [92, 92] else [c]
def quoT (x : List UInt8) : List UInt8 := 34 :: (x.flatMap qB ++ [34])
def tabsT (d : Nat) : List UInt8 := List.replicate d 9
def sepJ : List (List UInt8) → List UInt8
  | [] => []
  | x :: r => x ++ r.flatMap fun y => [44, 32] ++ y
def linesT (f : Tree → List UInt8) (d : Nat) (l : List Tree) : List UInt8 := l.flatMap fun t => tabsT (d + 1) ++ f t ++ [10]
def unlT (ahead : List UInt8) (f : Tree → List UInt8) (t : Tree) : List UInt8 := if t.kind = 8 then [] else ahead ++ f t
inductive PrJ where
  | expr | stmt | block | wtype | typed | field | param | params | function | decl | simple | both (s : List UInt8) | exprStmt | initial | builtin | pointed | primary
  | ifStmt | forStmt | forParts | switchStmt | selectStmt | clause | comm | receiving | clauseStmts | jump (s : List UInt8) | file
section
variable (digits : Int → List UInt8) (rec : PrJ → Nat → Tree → List UInt8)
def ym (j : PrJ) (d : Nat) (t : Tree) : List UInt8 :=
  match j with
  | .expr =>
    if t.kind = 36 then digits t.num
    else if t.kind = 37 then quoT t.text
    else if t.kind = 38 ∨ t.kind = 40 then t.text
    else if t.kind = 39 then [110, 105, 108]
    else if t.kind = 41 then [40] ++ t.text ++ rec .expr d (yM t 0) ++ [41]
    else if t.kind = 42 then [40] ++ rec (.both t.text) d t ++ [41]
    else if t.kind = 44 then rec .builtin d t
    else if t.kind = 48 then [102, 117, 110, 99] ++ rec .function d t
    else if t.kind = 49 then [40, 38] ++ t.text ++ [123] ++ sepJ (t.kids.map (rec .initial d)) ++ [125, 41]
    else if t.kind = 50 then [40, 91, 93] ++ rec .wtype d (yM t 0) ++ [123] ++ sepJ ((t.kids.drop 1).map (rec .expr d)) ++ [125, 41]
    else rec .primary d t
  | .primary =>
    if t.kind = 43 then rec .expr d (yM t 0) ++ [40] ++ sepJ ((t.kids.drop 1).map (rec .expr d)) ++ [41]
    else if t.kind = 45 then rec .expr d (yM t 0) ++ [91] ++ rec .expr d (yM t 1) ++ [93]
    else if t.kind = 46 then rec .expr d (yM t 0) ++ [91] ++ unlT [] (rec .expr d) (yM t 1) ++ [58] ++ unlT [] (rec .expr d) (yM t 2) ++ [93]
    else if t.kind = 47 then rec .expr d (yM t 0) ++ [46] ++ t.text
    else [63]
  | .both s => rec .expr d (yM t 0) ++ [32] ++ s ++ [32] ++ rec .expr d (yM t 1)
  | .initial => if t.kind = 5 then t.text ++ [58, 32] ++ rec .expr d (yM t 0) else [63]
  | .builtin =>
    t.text ++ [40] ++ (if t.text = [109, 97, 107, 101] then rec .wtype d (yM t 0) ++ (if 1 < t.kids.length then [44, 32] ++ rec .expr d (yM t 1) else [])
      else if t.text = [110, 101, 119] then rec .pointed d (yM t 0) else sepJ (t.kids.map (rec .expr d))) ++ [41]
  | .pointed => if t.kind = 12 then t.text else [63]
  | .wtype =>
    if t.kind = 9 then [105, 110, 116]
    else if t.kind = 10 then [98, 111, 111, 108]
    else if t.kind = 11 then [115, 116, 114, 105, 110, 103]
    else if t.kind = 12 then [42] ++ t.text
    else if t.kind = 13 then [91, 93] ++ rec .wtype d (yM t 0)
    else if t.kind = 14 then [99, 104, 97, 110, 32] ++ rec .wtype d (yM t 0)
    else if t.kind = 15 then [102, 117, 110, 99, 40] ++ sepJ ((t.kids.take (t.kids.length - 1)).map (rec .wtype d)) ++ [41] ++ unlT [32] (rec .wtype d) (yM t (t.kids.length - 1))
    else [63]
  | .typed => t.text ++ [32] ++ rec .wtype d (yM t 0)
  | .field => if t.kind = 5 then rec .typed d t else [63]
  | .param => if t.kind = 7 then rec .typed d t else [63]
  | .params => if t.kind = 6 then sepJ (t.kids.map (rec .param d)) else [63]
  | .function => [40] ++ rec .params d (yM t 0) ++ [41] ++ unlT [32] (rec .wtype d) (yM t 1) ++ [32] ++ rec .block d (yM t 2)
  | .decl =>
    if t.kind = 2 then [116, 121, 112, 101, 32] ++ t.text ++ [32, 115, 116, 114, 117, 99, 116, 32, 123, 10] ++ linesT (rec .field (d + 1)) d t.kids ++ [125]
    else if t.kind = 3 then [118, 97, 114, 32] ++ rec .typed d t
    else if t.kind = 4 then [102, 117, 110, 99, 32] ++ t.text ++ rec .function d t
    else [63]
  | .file => if t.kind = 1 then t.kids.flatMap fun k => rec .decl d k ++ [10] else [63]
  | .block => if t.kind = 16 then [123, 10] ++ linesT (rec .stmt (d + 1)) d t.kids ++ tabsT d ++ [125] else [63]
  | .stmt =>
    if t.kind = 18 then [118, 97, 114, 32] ++ rec .typed d t ++ unlT [32, 61, 32] (rec .expr d) (yM t 1)
    else if t.kind = 16 then rec .block d t
    else if t.kind = 21 then rec .ifStmt d t
    else if t.kind = 22 then rec .forStmt d t
    else if t.kind = 23 then rec .switchStmt d t
    else if t.kind = 25 then rec .selectStmt d t
    else if t.kind = 27 then rec (.jump [98, 114, 101, 97, 107]) d t
    else if t.kind = 28 then rec (.jump [99, 111, 110, 116, 105, 110, 117, 101]) d t
    else if t.kind = 29 then [102, 97, 108, 108, 116, 104, 114, 111, 117, 103, 104]
    else if t.kind = 30 then [114, 101, 116, 117, 114, 110] ++ unlT [32] (rec .expr d) (yM t 0)
    else if t.kind = 31 then [103, 111, 32] ++ rec .expr d (yM t 0)
    else if t.kind = 32 then [100, 101, 102, 101, 114, 32] ++ rec .expr d (yM t 0)
    else if t.kind = 35 then t.text ++ [58, 32] ++ rec .stmt d (yM t 0)
    else rec .simple d t
  | .jump s => s ++ (if t.text = [] then [] else [32] ++ t.text)
  | .simple =>
    if t.kind = 17 then t.text ++ [32, 58, 61, 32] ++ rec .expr d (yM t 0)
    else if t.kind = 19 then rec (.both t.text) d t
    else if t.kind = 20 then rec .expr d (yM t 0) ++ t.text
    else if t.kind = 33 then rec (.both [60, 45]) d t
    else if t.kind = 34 then rec .exprStmt d (yM t 0)
    else [63]
  | .exprStmt => if t.kind = 41 ∧ t.text = [60, 45] then [60, 45] ++ rec .expr d (yM t 0) else rec .expr d t
  | .ifStmt => [105, 102, 32] ++ rec .expr d (yM t 0) ++ [32] ++ rec .block d (yM t 1) ++ unlT [32, 101, 108, 115, 101, 32] (rec .stmt d) (yM t 2)
  | .forStmt => [102, 111, 114] ++ (if (yM t 0).kind = 8 ∧ (yM t 2).kind = 8 then unlT [32] (rec .expr d) (yM t 1) else rec .forParts d t) ++ [32] ++ rec .block d (yM t 3)
  | .forParts => [32] ++ unlT [] (rec .stmt d) (yM t 0) ++ [59, 32] ++ unlT [] (rec .expr d) (yM t 1) ++ [59] ++ unlT [32] (rec .stmt d) (yM t 2)
  | .switchStmt => [115, 119, 105, 116, 99, 104] ++ unlT [32] (rec .expr d) (yM t 0) ++ [32, 123, 10] ++ (t.kids.drop 1).flatMap (rec .clause d) ++ tabsT d ++ [125]
  | .selectStmt => [115, 101, 108, 101, 99, 116] ++ [32, 123, 10] ++ t.kids.flatMap (rec .comm d) ++ tabsT d ++ [125]
  | .clause =>
    if t.kind = 24 ∧ t.text = [99, 97, 115, 101] then tabsT d ++ [99, 97, 115, 101, 32] ++ (if t.kids.length - 1 = 0 then [63] else []) ++ sepJ ((t.kids.take (t.kids.length - 1)).map (rec .expr d)) ++ rec .clauseStmts d (yM t (t.kids.length - 1))
    else if t.kind = 24 ∧ t.text = [100, 101, 102, 97, 117, 108, 116] then tabsT d ++ [100, 101, 102, 97, 117, 108, 116] ++ rec .clauseStmts d (yM t (t.kids.length - 1))
    else [63]
  | .comm =>
    if t.kind = 26 ∧ t.text = [114, 101, 99, 118] then rec .receiving d t
    else if t.kind = 26 ∧ t.text = [115, 101, 110, 100] then tabsT d ++ [99, 97, 115, 101, 32] ++ rec (.both [60, 45]) d t ++ rec .clauseStmts d (yM t 2)
    else if t.kind = 26 ∧ t.text = [100, 101, 102, 97, 117, 108, 116] then tabsT d ++ [100, 101, 102, 97, 117, 108, 116] ++ rec .clauseStmts d (yM t 0)
    else [63]
  | .receiving =>
    if (yM t 0).kind = 7 then tabsT d ++ [99, 97, 115, 101, 32] ++ (yM t 0).text ++ [32, 58, 61, 32] ++ [60, 45] ++ rec .expr d (yM t 1) ++ rec .clauseStmts d (yM t 2)
    else tabsT d ++ [99, 97, 115, 101, 32] ++ [60, 45] ++ rec .expr d (yM t 0) ++ rec .clauseStmts d (yM t 1)
  | .clauseStmts => [58, 10] ++ (if t.kind = 16 then linesT (rec .stmt (d + 1)) d t.kids else [63])
end
def pr (digits : Int → List UInt8) : Nat → PrJ → Nat → Tree → List UInt8
  | 0 => fun _ _ _ => []
  | n + 1 => ym digits (pr digits n)
end Go.Proofs.YtheknbfbneghgaaGreatDoor.Px
set_option maxHeartbeats 4000000
set_option maxRecDepth 100000
namespace Go.Proofs.YtheknbfbneghgaaGreatDoor.Px
open Go.Proofs.YtheknbfbneghgaaGreatDoor.Lx
theorem er_kind (t : Tree) : (er t).kind = t.kind := by cases t; rw [er_mk]; rfl
theorem er_text (t : Tree) : (er t).text = t.text := by cases t; rw [er_mk]; rfl
theorem er_num (t : Tree) : (er t).num = t.num := by cases t; rw [er_mk]; rfl
theorem er_kids (t : Tree) : (er t).kids = t.kids.map er := by cases t; rw [er_mk]; rfl
theorem er_zero : er zeroT = zeroT := by rw [zeroT, er_mk]; rfl
theorem er_part (t : Tree) (i : Nat) : yM (er t) i = er (yM t i) := by
  unfold yM
  rw [er_kids, List.getD_eq_getElem?_getD, List.getD_eq_getElem?_getD, List.getElem?_map]
  cases t.kids[i]? with
  | none => exact er_zero.symm
  | some x => rfl
theorem unlT_er {a : List UInt8} {f : Tree → List UInt8} (h : ∀ t, f (er t) = f t) (t : Tree) : unlT a f (er t) = unlT a f t := by
  unfold unlT; rw [er_kind, h]
theorem lines_er {f : Tree → List UInt8} (h : ∀ t, f (er t) = f t) (d : Nat) (l : List Tree) : linesT f d (l.map er) = linesT f d l := by
  unfold linesT; rw [List.flatMap_map]; simp only [h]
theorem prS_er (digits : Int → List UInt8) (rec : PrJ → Nat → Tree → List UInt8) (h : ∀ j d t, rec j d (er t) = rec j d t) (j : PrJ) (d : Nat) (t : Tree) : ym digits rec j d (er t) = ym digits rec j d t := by
  have hm : ∀ (j : PrJ) (d : Nat) (l : List Tree), (l.map er).map (rec j d) = l.map (rec j d) := fun j d l => by rw [List.map_map]; exact List.map_congr_left fun x _ => h j d x
  have hf : ∀ (j : PrJ) (d : Nat) (l : List Tree), (l.map er).flatMap (rec j d) = l.flatMap (rec j d) := fun j d l => by rw [List.flatMap_map]; simp only [h]
  have hg : ∀ (j : PrJ) (d : Nat) (l : List Tree), ((l.map er).flatMap fun k => rec j d k ++ [10]) = l.flatMap fun k => rec j d k ++ [10] := fun j d l => by rw [List.flatMap_map]; simp only [h]
  cases j <;> simp only [ym, er_kind, er_text, er_num, er_kids, er_part, List.length_map, ← List.map_drop, ← List.map_take, hm, hf, hg, h, unlT_er (h _ _), lines_er (h _ _)]
theorem pr_er (digits : Int → List UInt8) : ∀ (n : Nat) (j : PrJ) (d : Nat) (t : Tree), pr digits n j d (er t) = pr digits n j d t
  | 0, _, _, _ => rfl
  | n + 1, j, d, t => prS_er digits (pr digits n) (pr_er digits n) j d t
end Go.Proofs.YtheknbfbneghgaaGreatDoor.Px
set_option maxHeartbeats 40000000
set_option maxRecDepth 100000
namespace Go.Proofs.YtheknbfbneghgaaGreatDoor.Px
open Go.Proofs.YtheknbfbneghgaaGreatDoor.Lx
def I6 (v : Int) : Prop := -9223372036854775808 ≤ v ∧ v ≤ 9223372036854775807
theorem I6_0 : I6 0 := ⟨om, om⟩
def OkT (M : Nat) : Tree → Prop
  | .mk _ x n _ l => x.length ≤ M ∧ I6 n ∧ ∀ t ∈ l, OkT M t
def OkL (M : Nat) (l : List Tree) : Prop := ∀ t ∈ l, OkT M t
theorem OkT_mk (M : Nat) (k : Int) (x : List UInt8) (n p : Int) (l : List Tree) : OkT M (.mk k x n p l) = (x.length ≤ M ∧ I6 n ∧ OkL M l) := by rw [OkT]; rfl
theorem OkT_nd (M : Nat) (k : Int) (x : List UInt8) (p : Int) (l : List Tree) : OkT M (nd k x p l) = (x.length ≤ M ∧ OkL M l) := by rw [nd, OkT_mk]; simp [I6_0]
theorem OkL_nil (M : Nat) : OkL M [] = True := by simp [OkL]
theorem OkL_cons (M : Nat) (t : Tree) (l : List Tree) : OkL M (t :: l) = (OkT M t ∧ OkL M l) := by simp [OkL]
theorem OkL_app (M : Nat) (l r : List Tree) : OkL M (l ++ r) = (OkL M l ∧ OkL M r) := by
  simp only [OkL, List.mem_append, eq_iff_iff]
  exact ⟨fun h => ⟨fun t m => h t (.inl m), fun t m => h t (.inr m)⟩, fun h t m => m.elim (h.1 t) (h.2 t)⟩
theorem OkT_none (M : Nat) : OkT M none8 = True := by rw [none8, OkT_nd]; simp [OkL]
theorem OkT_alone (M : Nat) (t : Tree) : OkT M (alone t) = OkT M t := by rw [alone, OkT_nd, OkL_cons, OkL_nil]; simp
theorem OkT_kids {M : Nat} {t : Tree} (h : OkT M t) : OkL M t.kids := by cases t; rw [OkT_mk] at h; exact h.2.2
theorem OkT_text {M : Nat} {t : Tree} (h : OkT M t) : t.text.length ≤ M := by cases t; rw [OkT_mk] at h; exact h.1
def OJ (M : Nat) : Job → Prop
  | .listMore _ acc => OkL M acc | .stmts acc => OkL M acc | .acting t _ => OkT M t | .clausesMore _ acc => OkL M acc | .caseMore acc => OkL M acc | .opOf t _ => OkT M t
  | .primMore t _ => OkT M t | .bracketed t _ => OkT M t | .bracedMore _ acc => OkL M acc | .fieldsMore acc => OkL M acc | .fileMore acc => OkL M acc
  | _ => True
def GB2 : Job → Prop
  | .builtin r => r = .makeArgs ∨ r = .newArgs ∨ r = .args
  | _ => True
theorem oj_item (M : Nat) (it : It) : OJ M it.job = True := by cases it <;> rfl
theorem sign_le {M : Nat} {ts : List Tok} (h : ∀ k, (zp ts k).text.length ≤ M) (k : Nat) : (yI ts k).length ≤ M := by
  unfold yI; split
  · exact h k
  · simp
theorem step_okn (M : Nat) (hM : 20 ≤ M) (ts : List Tok) (ht1 : ∀ k, (zp ts k).text.length ≤ M) (ht2 : ∀ k, I6 (zp ts k).num) (hs : ∀ k, (yI ts k).length ≤ M) (rec : Job → Bool → Nat → R) (ih : ∀ j h k, GB2 j → OJ M j → F (fun l _ _ => OkL M l) (rec j h k)) (j : Job) (h : Bool) (k : Nat) (hb : GB2 j) (ho : OJ M j) : F (fun l _ _ => OkL M l) (step ts rec j h k) := by
  cases j
  all_goals
    simp only [step, fWtype, fResult, fNamed, fListed, yo, fFunction, fBlock, fStmts, fStmt, fVarStmt, fReturnStmt, fCallStmt, fLabelled, fSimple, yO, fIfStmt, fBreakable, fForStmt, ya, yn, yY, fForLead, yt, fSelectStmt, fClauses, yu, fClause, fCaseMore, fClauseBlock, fComm, yl, fOp, fOpOf, fUnary, fShaped, fPrimary, fPrimMore, fBr3, fBr2, yH, fOperand, yC, fBuiltin, fMakeArgs, fNewArgs, yG, fBraced, yk, fInitial, fDecl, fTypeDecl, fFieldsMore, fFileMore, jump, behind, OJ] at ho ⊢
    (try have hox := OkT_text ho)
    (try (rename_i it acc; (have hit : It := it); clear hit; cases it <;> simp only [It.job]))
    (try (rename_i it; (have hit : It := it); clear hit; cases it <;> simp only [It.job]))
    (try (rcases (show _ ∨ _ ∨ _ from hb) with rfl | rfl | rfl))
    (try (rename_i c acc; cases c <;> simp only [Bool.false_eq_true, if_false, if_true]))
    repeat' (first
      | exact fine_bad
      | refine fine_want ?_
      | refine fine_name ?_
      | refine fine_ite (fun _ => ?_) (fun _ => ?_)
      | (refine fine_bind1 (ih _ _ _ zS (by first | trivial | (simp [OJ, OkL_nil, OkL_cons, OkL_app, OkT_nd, OkT_mk, OkT_none, OkT_alone, oj_item, I6_0, *] <;> omega))) ?_
         intro t _ _ hx
         (try simp only [OkL_nil, OkL_cons, OkL_app, and_true] at hx)
         have hk1 := OkT_kids hx
         have hk2 := OkT_text hx)
      | (refine fine_bind (ih _ _ _ zS (by first | trivial | (simp [OJ, OkL_nil, OkL_cons, OkL_app, OkT_nd, OkT_mk, OkT_none, OkT_alone, oj_item, I6_0, *] <;> omega))) ?_
         intro _ _ _ hx)
      | (refine fine_tail (ih _ _ _ zS (by first | trivial | (simp [OJ, OkL_nil, OkL_cons, OkL_app, OkT_nd, OkT_mk, OkT_none, OkT_alone, oj_item, I6_0, *] <;> omega))) ?_
         intro _ _ _ hx
         exact hx)
      | (refine fine_ok ?_
         first | trivial | assumption | (simp [OJ, OkL_nil, OkL_cons, OkL_app, OkT_nd, OkT_mk, OkT_none, OkT_alone, oj_item, I6_0, *] <;> omega) | (split <;> (simp [OJ, OkL_nil, OkL_cons, OkL_app, OkT_nd, OkT_mk, OkT_none, OkT_alone, oj_item, I6_0, *] <;> omega))))
theorem run_okn (M : Nat) (hM : 20 ≤ M) (ts : List Tok) (ht1 : ∀ k, (zp ts k).text.length ≤ M) (ht2 : ∀ k, I6 (zp ts k).num) : ∀ (n : Nat) (j : Job) (h : Bool) (k : Nat), GB2 j → OJ M j → F (fun l _ _ => OkL M l) (run ts n j h k)
  | 0, _, _, _, _, _ => fun _ _ _ e => by cases e
  | n + 1, j, h, k, hb, ho => step_okn M hM ts ht1 ht2 (sign_le ht1) (run ts n) (run_okn M hM ts ht1 ht2 n) j h k hb ho
end Go.Proofs.YtheknbfbneghgaaGreatDoor.Px
set_option maxRecDepth 100000
namespace Go.Proofs.YtheknbfbneghgaaGreatDoor.Px
open Go.Proofs.YtheknbfbneghgaaGreatDoor.Lx
def TOk (t : Tok) : Prop := t.text.length ≤ 8192 ∧ I6 t.num
theorem sub_le (l : List UInt8) (a b : Nat) : (sub l a b).length ≤ l.length := by unfold sub; simp; omega
theorem endT_ok {ts : List Tok} {k : Int} (h : ∀ t ∈ ts, TOk t) : ∀ t ∈ endT ts k, TOk t := by
  unfold endT
  split
  · split
    · intro t m
      rcases List.mem_append.1 m with m | m
      · exact h t m
      · simp only [List.mem_singleton] at m; subst m; exact ⟨by simp, by simp [I6]⟩
    · exact h
  · exact h
theorem snoc_ok {ts : List Tok} {x : Tok} (h : ∀ t ∈ ts, TOk t) (hx : TOk x) : ∀ t ∈ ts ++ [x], TOk t := fun t m => (List.mem_append.1 m).elim (h t) (fun m => by simp only [List.mem_singleton] at m; subst m; exact hx)
theorem num_ok (l : List UInt8) (k : Nat) (hn : ¬ numBad (sub l k (yL isDig l k)) = true) : I6 (numV (sub l k (yL isDig l k))) := by
  have h18 : (sub l k (yL isDig l k)).length ≤ 18 := by
    unfold numBad at hn
    simp only [Bool.or_eq_true, decide_eq_true_eq, not_or] at hn
    omega
  have h1 := numV_lt _ _ rfl (run_sub_all isDig l k)
  have h2 := p10_mono _ 18 h18
  have h3 : p10 18 = 1000000000000000000 := by decide
  exact ⟨om, om⟩
theorem partF_ok (l : List UInt8) (hl : l.length ≤ 8192) (k : Nat) (ts : List Tok) (h : ∀ t ∈ ts, TOk t) (k' : Nat) (ts' : List Tok) (hp : partF l k ts = .inr (k', ts')) : ∀ t ∈ ts', TOk t := by
  have hsub : ∀ a b, (sub l a b).length ≤ 8192 := fun a b => Nat.le_trans (sub_le l a b) hl
  unfold partF at hp
  split at hp
  · cases hp
  · split at hp
    · cases hp; exact h
    · split at hp
      · cases hp; exact endT_ok h
      · split at hp
        · cases hp; exact h
        · split at hp
          · unfold nameF at hp
            split at hp
            · cases hp
            · cases hp; exact snoc_ok h ⟨hsub _ _, I6_0⟩
          · split at hp
            · unfold numF at hp
              split at hp
              · cases hp
              · rename_i hn
                split at hp
                · cases hp
                · cases hp; exact snoc_ok h ⟨hsub _ _, num_ok l k hn⟩
            · split at hp
              · unfold textF at hp
                split at hp
                · cases hp
                · split at hp
                  · cases hp
                  · rename_i hm
                    cases hp; exact snoc_ok h ⟨by simp; omega, I6_0⟩
              · unfold markF at hp
                split at hp
                · cases hp
                · cases hp; exact snoc_ok h ⟨hsub _ _, I6_0⟩
theorem scanF_ok (l : List UInt8) (hl : l.length ≤ 8192) : ∀ (f k : Nat) (ts : List Tok), (∀ t ∈ ts, TOk t) → ∀ ts', scanF f l k ts = .inr ts' → ∀ t ∈ ts', TOk t
  | 0, k, ts, h, ts', e => by cases e; exact h
  | f + 1, k, ts, h, ts', e => by
    unfold scanF at e
    split at e
    · split at e
      · cases e
      · rename_i q hq
        exact scanF_ok l hl f q.1 q.2 (partF_ok l hl k ts h q.1 q.2 hq) ts' e
    · cases e; exact h
theorem lex_ok (l : List UInt8) (h0 : (lexR l).2.1 = 0) : ∀ t ∈ (lexR l).1, TOk t := by
  unfold lexR at h0 ⊢
  split
  · intro t m; cases m
  · rename_i hl
    split
    · intro t m; cases m
    · rename_i ts hs
      split
      · intro t m; cases m
      · have := scanF_ok l om _ 0 [] (fun t m => by cases m) ts hs
        exact snoc_ok (endT_ok this) ⟨by simp, I6_0⟩
theorem tok_ok {ts : List Tok} (h : ∀ t ∈ ts, TOk t) (k : Nat) : TOk (zp ts k) := by
  unfold zp
  rw [List.getD_eq_getElem?_getD]
  cases e : ts[k]? with
  | some x => exact h x (List.mem_of_getElem? e)
  | none => exact ⟨by simp, I6_0⟩
/-- What is parsed out of a text is made of short texts and of numbers that are ints. -/
theorem parse_ok (l : List UInt8) (h0 : (lexR l).2.1 = 0) (n : Nat) (hb : Bool) (kids : List Tree) (s : Int) (k' : Nat) (hr : run (lexR l).1 n (.fileMore []) hb 0 = .ok [nd 1 [] 0 kids] s k') : OkL 8192 kids := by
  have h := lex_ok l h0
  have this : OkL 8192 [nd 1 [] 0 kids] := run_okn 8192 om (lexR l).1 (fun k => (tok_ok h k).1) (fun k => (tok_ok h k).2) n (.fileMore []) hb 0 trivial (by simp [OJ, OkL]) _ _ _ hr
  rw [OkL_cons, OkT_nd] at this
  exact this.1.2
end Go.Proofs.YtheknbfbneghgaaGreatDoor.Px
set_option maxHeartbeats 40000000
set_option maxRecDepth 100000
namespace Go.Proofs.YtheknbfbneghgaaGreatDoor.Px
open Go.Proofs.YtheknbfbneghgaaGreatDoor.Lx
def su : Job → Nat
 | .simple => 1 | .shaped => 1 | .primary => 1 | .operand => 1 | .wordOperand => 1 | .markOperand => 1 | .builtin _ => 1 | .labelled => 1
 | _ => 0
theorem su_item (it : It) : su it.job = 0 := by cases it <;> rfl
def cnt : Tree → Nat
 | .mk _ _ _ _ l => 1 + (l.map cnt).sum
def cntL (l : List Tree) : Nat := (l.map cnt).sum
theorem cnt_mk (a : Int) (b : List UInt8) (c p : Int) (l : List Tree) : cnt (.mk a b c p l) = 1 + cntL l := by rw [cnt]; rfl
theorem cnt_nd (a : Int) (b : List UInt8) (p : Int) (l : List Tree) : cnt (nd a b p l) = 1 + cntL l := cnt_mk ..
theorem cnt_none : cnt none8 = 1 := by rw [none8, cnt_nd]; rfl
theorem cntL_nil : cntL [] = 0 := rfl
theorem cntL_cons (t : Tree) (l : List Tree) : cntL (t :: l) = cnt t + cntL l := by simp [cntL]
theorem cntL_app (l r : List Tree) : cntL (l ++ r) = cntL l + cntL r := by simp [cntL]
theorem cnt_alone (t : Tree) : cnt (alone t) = 1 + cnt t := by rw [alone, cnt_nd, cntL_cons, cntL_nil]; omega
theorem cnt_kids (t : Tree) : cnt t = 1 + cntL t.kids := by cases t; rw [cnt_mk]; rfl
def ex : Job → Int
 | .result => 1 | .fileMore _ => 1 | .forHead => 3 | .expr => -8 | .op _ => -8 | .unary => -8 | .shaped => -8 | .primary => -8 | .operand => -8 | .wordOperand => -8 | .markOperand => -8 | .builtin _ => -8
 | _ => 0
def cj : Job → Nat
 | .listMore _ acc => cntL acc | .stmts acc => cntL acc | .acting t _ => cnt t | .clausesMore _ acc => cntL acc | .caseMore acc => cntL acc | .opOf t _ => cnt t
 | .primMore t _ => cnt t | .bracketed t _ => cnt t | .bracedMore _ acc => cntL acc | .fieldsMore acc => cntL acc | .fileMore acc => cntL acc
 | _ => 0
def GB : Job → Prop
 | .builtin r => r = .makeArgs ∨ r = .newArgs ∨ r = .args
 | _ => True
def Few (j : Job) (k : Nat) (r : R) : Prop := F (fun l _ k' => k + su j ≤ k' ∧ (cntL l : Int) ≤ cj j + 16 * ((k' : Int) - k) + ex j) r
theorem cj_item (it : It) : cj it.job = 0 := by cases it <;> rfl
theorem step_few (ts : List Tok) (rec : Job → Bool → Nat → R) (ih : ∀ j h k, GB j → Few j k (rec j h k)) (j : Job) (h : Bool) (k : Nat) (hb : GB j) : Few j k (step ts rec j h k) := by
 unfold Few at *
 cases j
 all_goals
  simp only [step, fWtype, fResult, fNamed, fListed, yo, fFunction, fBlock, fStmts, fStmt, fVarStmt, fReturnStmt, fCallStmt, fLabelled, fSimple, yO, fIfStmt, fBreakable, fForStmt, ya, yn, yY, fForLead, yt, fSelectStmt, fClauses, yu, fClause, fCaseMore, fClauseBlock, fComm, yl, fOp, fOpOf, fUnary, fShaped, fPrimary, fPrimMore, fBr3, fBr2, yH, fOperand, yC, fBuiltin, fMakeArgs, fNewArgs, yG, fBraced, yk, fInitial, fDecl, fTypeDecl, fFieldsMore, fFileMore, jump, behind, ex, cj, su]
  (try (rename_i it acc; (have hit : It := it); clear hit; cases it <;> simp only [It.job]))
  (try (rename_i it; (have hit : It := it); clear hit; cases it <;> simp only [It.job]))
  (try (rcases (show _ ∨ _ ∨ _ from hb) with rfl | rfl | rfl))
  (try (rename_i c acc; cases c <;> simp only [Bool.false_eq_true, if_false, if_true]))
  repeat' (first
   | exact fine_bad
   | refine fine_want ?_
   | refine fine_name ?_
   | refine fine_ite (fun _ => ?_) (fun _ => ?_)
   | (refine fine_bind1 (ih _ _ _ zS) ?_
      intro t _ _ hx
      (try simp only [cj_item, su_item] at hx)
      (try simp only [ex, cj, su, cntL_nil, cntL_cons, cntL_app, cnt_nd, cnt_none, cnt_alone] at hx)
      have hk := cnt_kids t)
   | (refine fine_bind (ih _ _ _ zS) ?_
      intro _ _ _ hx
      (try simp only [cj_item, su_item] at hx)
      (try simp only [ex, cj, su, cntL_nil, cntL_cons, cntL_app, cnt_nd, cnt_none, cnt_alone] at hx))
   | (refine fine_tail (ih _ _ _ zS) ?_
      intro _ _ _ hx
      (try simp only [cj_item, su_item] at hx)
      (try simp only [ex, cj, su, cntL_nil, cntL_cons, cntL_app, cnt_nd, cnt_none, cnt_alone] at hx)
      (first | omega | (constructor <;> omega)))
   | (refine fine_ok ?_
      (try simp only [cntL_nil, cntL_cons, cntL_app, cnt_nd, cnt_none, cnt_alone, cnt_mk])
      (first | omega | (constructor <;> omega))))
theorem run_few (ts : List Tok) : ∀ (n : Nat) (j : Job) (h : Bool) (k : Nat), GB j → Few j k (run ts n j h k)
 | 0, _, _, _, _ => fun _ _ _ e => by cases e
 | n + 1, j, h, k, hb => step_few ts (run ts n) (run_few ts n) j h k hb
theorem cnt_pos (t : Tree) : 1 ≤ cnt t := by rw [cnt_kids]; omega
theorem cntL_len : ∀ l : List Tree, l.length ≤ cntL l
 | [] => Nat.le_refl _
 | t :: r => by rw [cntL_cons, List.length_cons]; have := cntL_len r; have := cnt_pos t; omega
theorem cntL_mem {t : Tree} : ∀ {l : List Tree}, t ∈ l → cnt t ≤ cntL l
 | a :: r, h => by
   rw [cntL_cons]
   rcases List.mem_cons.1 h with rfl | h
   ·omega
   ·have := cntL_mem h; omega
end Go.Proofs.YtheknbfbneghgaaGreatDoor.Px
set_option maxHeartbeats 40000000
set_option maxRecDepth 100000
namespace Go.Proofs.YtheknbfbneghgaaGreatDoor.Px
open Go.Proofs.YtheknbfbneghgaaGreatDoor.Lx
def wsp (c : UInt8) : Bool := c == 32 || c == 9 || c == 10
def cl (x : List UInt8) : Bool := x.all fun c => !wsp c
def TxO : Tree → Prop
  | .mk k x _ _ l => (k ≠ 37 → cl x = true) ∧ (k = 38 ∨ k = 40 → x ≠ []) ∧ ∀ t ∈ l, TxO t
def TxL (l : List Tree) : Prop := ∀ t ∈ l, TxO t
theorem TxO_mk (k : Int) (x : List UInt8) (n p : Int) (l : List Tree) : TxO (.mk k x n p l) = ((k ≠ 37 → cl x = true) ∧ (k = 38 ∨ k = 40 → x ≠ []) ∧ TxL l) := by rw [TxO]; rfl
theorem TxO_nd (k : Int) (x : List UInt8) (p : Int) (l : List Tree) : TxO (nd k x p l) = ((k ≠ 37 → cl x = true) ∧ (k = 38 ∨ k = 40 → x ≠ []) ∧ TxL l) := by rw [nd, TxO_mk]
theorem TxL_nil : TxL [] = True := by simp [TxL]
theorem TxL_cons (t : Tree) (l : List Tree) : TxL (t :: l) = (TxO t ∧ TxL l) := by simp [TxL]
theorem TxL_app (l r : List Tree) : TxL (l ++ r) = (TxL l ∧ TxL r) := by
  simp only [TxL, List.mem_append, eq_iff_iff]
  exact ⟨fun h => ⟨fun t m => h t (.inl m), fun t m => h t (.inr m)⟩, fun h t m => m.elim (h.1 t) (h.2 t)⟩
theorem cl_nil : cl [] = true := rfl
theorem TxO_none : TxO none8 = True := by rw [none8, TxO_nd]; simp [TxL, cl]
theorem TxO_alone (t : Tree) : TxO (alone t) = TxO t := by rw [alone, TxO_nd, TxL_cons, TxL_nil]; simp [cl]
theorem TxO_kids {t : Tree} (h : TxO t) : TxL t.kids := by cases t; rw [TxO_mk] at h; exact h.2.2
def isN : Job → Prop | .named _ => True | _ => False
def RX (j : Job) (l : List Tree) (s : Int) : Prop := TxL l ∧ (s = 3 ∨ isN j → ∀ t ∈ l, cl t.text = true)
def KJ (ts : List Tok) (j : Job) (k : Nat) : Prop := match j with
  | .listMore _ acc => TxL acc | .stmts acc => TxL acc | .clausesMore _ acc => TxL acc | .caseMore acc => TxL acc | .bracedMore _ acc => TxL acc | .fieldsMore acc => TxL acc | .fileMore acc => TxL acc
  | .acting t s => TxO t ∧ (s = 3 → cl t.text = true) | .primMore t s => TxO t ∧ (s = 3 → cl t.text = true)
  | .opOf t least => TxO t ∧ 1 ≤ least | .op least => 1 ≤ least | .bracketed t _ => TxO t
  | .labelled => cl (zp ts k).text = true
  | .builtin r => (r = .makeArgs ∨ r = .newArgs ∨ r = .args) ∧ cl (zp ts k).text = true
  | .named kd => kd < 37 | .callStmt kd => kd < 37
  | _ => True
theorem kj_item (ts : List Tok) (it : It) (k : Nat) : KJ ts it.job k = True := by cases it <;> simp [It.job, KJ]
theorem isS_kind {ts : List Tok} {k : Nat} {l : List (List UInt8)} (h : yb ts k l = true) : (zp ts k).kind = 4 ∨ (zp ts k).kind = 5 := by
  apply Decidable.byContradiction
  intro hn
  simp [yb, yI, hn] at h
theorem isS_cl {ts : List Tok} (hC : ∀ k, (zp ts k).kind ≠ 3 → cl (zp ts k).text = true) {k : Nat} {l : List (List UInt8)} (h : yb ts k l = true) : cl (zp ts k).text = true := hC k (by have := isS_kind h; omega)
theorem sign_cl {ts : List Tok} (hC : ∀ k, (zp ts k).kind ≠ 3 → cl (zp ts k).text = true) (k : Nat) : cl (yI ts k) = true := by
  unfold yI
  split
  · exact hC k om
  · rfl
theorem str_cl {ts : List Tok} (hC : ∀ k, (zp ts k).kind ≠ 3 → cl (zp ts k).text = true) {k : Nat} {least : Int} (h1 : 1 ≤ least) (h : least ≤ strength (yI ts k)) : cl (zp ts k).text = true := by
  by_cases hk : (zp ts k).kind = 4 ∨ (zp ts k).kind = 5
  · exact hC k om
  · have : yI ts k = [] := by simp [yI, hk]
    rw [this] at h
    have h0 : strength [] = 0 := by decide
    omega
theorem lab_kind {ts : List Tok} {k : Nat} (h : labels ts k = true) : (zp ts k).kind = 1 := by
  simp only [labels, Bool.and_eq_true, decide_eq_true_eq] at h
  exact h.1
theorem has_cl {l : List (List UInt8)} (hl : (l.all fun x => cl x && !x.isEmpty) = true) {x : List UInt8} (h : l.contains x = true) : cl x = true ∧ x ≠ [] := by
  rw [List.all_eq_true] at hl
  have hm : x ∈ l := by simpa using h
  have := hl x hm
  simp only [Bool.and_eq_true, Bool.not_eq_true', List.isEmpty_eq_false_iff] at this
  exact this
theorem fine_nameK {P : List Tree → Int → Nat → Prop} {ts : List Tok} {k : Nat} {f : Tok → Nat → R} (h : (zp ts k).kind = 1 → F P (f (zp ts k) (k + 1))) : F P (wantName ts k f) := fine_ite h (fun _ => fine_bad)
theorem strength_ge0 (s : List UInt8) : 0 ≤ strength s := by unfold strength; repeat' split <;> omega
theorem nd_text (k : Int) (x : List UInt8) (p : Int) (l : List Tree) : (nd k x p l).text = x := rfl
theorem kx {p : Prop} (h : p := by (simp [RX, isN, KJ, TxL_nil, TxL_cons, TxL_app, TxO_nd, TxO_mk, TxO_none, TxO_alone, kj_item, cl_nil, nd_text, *] <;> first | omega | (have := strength_ge0 (zp ts k).text; omega) | rfl | decide)) : p := h
theorem step_okx (ts : List Tok) (hC : ∀ k, (zp ts k).kind ≠ 3 → cl (zp ts k).text = true) (hE : ∀ k, (zp ts k).kind = 1 → (zp ts k).text ≠ []) (hs : ∀ k, cl (yI ts k) = true) (rec : Job → Bool → Nat → R) (ih : ∀ j h k, KJ ts j k → F (fun l s _ => RX j l s) (rec j h k)) (j : Job) (h : Bool) (k : Nat) (ho : KJ ts j k) : F (fun l s _ => RX j l s) (step ts rec j h k) := by
  cases j
  all_goals
    simp only [step, fWtype, fResult, fNamed, fListed, yo, fFunction, fBlock, fStmts, fStmt, fVarStmt, fReturnStmt, fCallStmt, fLabelled, fSimple, yO, fIfStmt, fBreakable, fForStmt, ya, yn, yY, fForLead, yt, fSelectStmt, fClauses, yu, fClause, fCaseMore, fClauseBlock, fComm, yl, fOp, fOpOf, fUnary, fShaped, fPrimary, fPrimMore, fBr3, fBr2, yH, fOperand, yC, fBuiltin, fMakeArgs, fNewArgs, yG, fBraced, yk, fInitial, fDecl, fTypeDecl, fFieldsMore, fFileMore, jump, behind, KJ] at ho ⊢
    (try (rename_i it acc; (have hit : It := it); clear hit; cases it <;> simp only [It.job]))
    (try (rename_i it; (have hit : It := it); clear hit; cases it <;> simp only [It.job]))
    (try (obtain ⟨hb, hbc⟩ := ho; rcases (show _ ∨ _ ∨ _ from hb) with rfl | rfl | rfl))
    (try (rename_i c acc; cases c <;> simp only [Bool.false_eq_true, if_false, if_true]))
    repeat' (first
      | exact fine_bad
      | refine fine_want ?_
      | (refine fine_nameK (fun hnk => ?_)
         have hnc := hC _ (by rw [hnk]; decide)
         have hne := hE _ hnk)
      | (refine fine_ite (fun hc => ?_) (fun _ => ?_)
         (try have hq := isS_cl hC hc)
         (try have hq := isS_cl hC hc.2)
         (try have hq := hC _ (by rw [hc]; decide))
         (try have hqe := hE _ hc)
         (try have hq := hC _ (by rw [lab_kind hc]; decide))
         (try have hq := str_cl hC ho.2 hc)
         (try have hq := has_cl dc hc)
         (try have hq3 := ho.2 hc.1)
         (try have hq3 := hx2 hc.1))
      | (refine fine_bind1 (ih _ _ _ (by first | trivial | exact kx)) ?_
         intro t s _ hx
         have hx1 := hx.1 t (List.mem_singleton_self _)
         have hx2 : s = 3 → cl t.text = true := fun e => hx.2 (.inl e) t (List.mem_singleton_self _)
         (try have hx3 := hx.2 (.inr trivial) t (List.mem_singleton_self _))
         have hk1 := TxO_kids hx1)
      | (refine fine_bind (ih _ _ _ (by first | trivial | exact kx)) ?_
         intro _ _ _ hx
         have hx1 := hx.1)
      | (refine fine_tail (ih _ _ _ (by first | trivial | exact kx)) ?_
         intro _ _ _ hx
         exact ⟨hx.1, fun e => hx.2 (.inl (by simpa [isN] using e))⟩)
      | (refine fine_ok ?_
         first | trivial | assumption | exact kx | (split <;> exact kx) | (refine ⟨by simp [TxL, ho.1], fun e t m => ?_⟩; simp only [List.mem_singleton] at m; subst m; exact ho.2 (by simpa [isN] using e))))
theorem run_okx (ts : List Tok) (hC : ∀ k, (zp ts k).kind ≠ 3 → cl (zp ts k).text = true) (hE : ∀ k, (zp ts k).kind = 1 → (zp ts k).text ≠ []) : ∀ (n : Nat) (j : Job) (h : Bool) (k : Nat), KJ ts j k → F (fun l s _ => RX j l s) (run ts n j h k)
  | 0, _, _, _, _ => fun _ _ _ e => by cases e
  | n + 1, j, h, k, ho => step_okx ts hC hE (sign_cl hC) (run ts n) (run_okx ts hC hE n) j h k ho
end Go.Proofs.YtheknbfbneghgaaGreatDoor.Px
