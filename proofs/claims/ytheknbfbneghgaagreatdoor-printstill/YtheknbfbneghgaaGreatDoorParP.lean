import Derived.Test.YtheknbfbneghgaaGreatDoorSpec2
set_option maxRecDepth 100000
namespace Go.Proofs.YtheknbfbneghgaaGreatDoor.Px
open Lx
inductive Tree where
 | mk (kind : Int) (text : List UInt8) (num pos : Int) (kids : List Tree)
def Tree.text : Tree → List UInt8 | .mk _ t _ _ _ => t
def Tree.pos : Tree → Int | .mk _ _ _ p _ => p
def Tree.kids : Tree → List Tree | .mk _ _ _ _ l => l
def nd (kind : Int) (text : List UInt8) (pos : Int) (kids : List Tree) : Tree := .mk kind text 0 pos kids
def none8 : Tree := nd 8 [] 0 []
inductive R where
 | ok (l : List Tree) (s : Int) (k : Nat)
 | bad (p : Int)
 | out
def R.bind : R → (List Tree → Int → Nat → R) → R
 | .ok l s k, f => f l s k
 | .bad p, _ => .bad p
 | .out, _ => .out
def R.bind1 : R → (Tree → Int → Nat → R) → R
 | .ok [t] s k, f => f t s k
 | .ok _ _ _, _ => .out
 | .bad p, _ => .bad p
 | .out, _ => .out
inductive It where | named | wtype | expr | initial
inductive Job where
 | wtype | result | named (kind : Int) | listed (it : It) | listMore (it : It) (acc : List Tree)
 | function | block | stmts (acc : List Tree) | stmt | varStmt | returnStmt | callStmt (kind : Int) | labelled | simple
 | acting (lead : Tree) (s : Int) | ifStmt | breakable | forStmt | forHead | forLead | switchStmt | selectStmt
 | clauses (c : Bool) | clausesMore (c : Bool) (acc : List Tree) | clause | caseMore (acc : List Tree) | clauseBlock | comm | commHead
 | expr | op (least : Int) | opOf (left : Tree) (least : Int) | unary | shaped | primary | primMore (n : Tree) (s : Int) | args
 | bracketed (of : Tree) (pos : Int) | operand | wordOperand | builtin (r : Job) | makeArgs | newArgs | markOperand
 | braced (it : It) | bracedMore (it : It) (acc : List Tree) | initial
 | decl | typeDecl | fieldsMore (acc : List Tree) | fileMore (acc : List Tree)
def It.job : It → Job | .named => .named 7 | .wtype => .wtype | .expr => .expr | .initial => .initial
def zp (ts : List Tok) (k : Nat) : Tok := ts.getD k ⟨6, [], 0, 0⟩
def yI (ts : List Tok) (k : Nat) : List UInt8 := if (zp ts k).kind = 4 ∨ (zp ts k).kind = 5 then (zp ts k).text else []
def yb (ts : List Tok) (k : Nat) (l : List (List UInt8)) : Bool := !(yI ts k).isEmpty && l.contains (yI ts k)
def want (ts : List Tok) (k : Nat) (s : List UInt8) (f : Tok → Nat → R) : R := if yb ts k [s] = true then f (zp ts k) (k + 1) else .bad (zp ts k).pos
def wantName (ts : List Tok) (k : Nat) (f : Tok → Nat → R) : R := if (zp ts k).kind = 1 then f (zp ts k) (k + 1) else .bad (zp ts k).pos
def strength (s : List UInt8) : Int :=
 if s = [124, 124] then 1 else if s = [38, 38] then 2 else if [[61, 61], [33, 61], [60], [60, 61], [62], [62, 61]].contains s then 3 else if [[43], [45]].contains s then 4 else if [[42], [47], [37]].contains s then 5 else 0
def jump (ts : List Tok) (kind : Int) (k : Nat) : R :=
 if (zp ts (k + 1)).kind = 1 then .ok [nd kind (zp ts (k + 1)).text (zp ts k).pos []] 0 (k + 2) else .ok [nd kind [] (zp ts k).pos []] 0 (k + 1)
def labels (ts : List Tok) (k : Nat) : Bool := decide ((zp ts k).kind = 1) && (decide ((zp ts (k + 1)).kind = 5) && decide ((zp ts (k + 1)).text = [58]))
def behind (ts : List Tok) (k : Nat) : Bool := yb ts k [[59], [125], [99, 97, 115, 101], [100, 101, 102, 97, 117, 108, 116]]
def alone (lead : Tree) : Tree := nd 34 [] lead.pos [lead]
def stands (s : Int) : Bool := decide (s = 5) || decide (s = 1)
section
variable (ts : List Tok) (rec : Job → Bool → Nat → R)
def fWtype (h : Bool) (k : Nat) : R :=
 if yI ts k = [105, 110, 116] then .ok [nd 9 [] (zp ts k).pos []] 0 (k + 1)
 else if yI ts k = [98, 111, 111, 108] then .ok [nd 10 [] (zp ts k).pos []] 0 (k + 1)
 else if yI ts k = [115, 116, 114, 105, 110, 103] then .ok [nd 11 [] (zp ts k).pos []] 0 (k + 1)
 else if yI ts k = [42] then wantName ts (k + 1) fun nm k2 => .ok [nd 12 nm.text (zp ts k).pos []] 0 k2
 else if yI ts k = [91] then want ts (k + 1) [93] fun _ k2 => (rec .wtype h k2).bind1 fun t _ k3 => .ok [nd 13 [] (zp ts k).pos [t]] 0 k3
 else if yI ts k = [99, 104, 97, 110] then (rec .wtype h (k + 1)).bind1 fun t _ k3 => .ok [nd 14 [] (zp ts k).pos [t]] 0 k3
 else if yI ts k = [102, 117, 110, 99] then want ts (k + 1) [40] fun _ k2 => (rec (.listed .wtype) h k2).bind fun l _ k3 => (rec .result h k3).bind1 fun r _ k4 => .ok [nd 15 [] (zp ts k).pos (l ++ [r])] 0 k4
 else .bad (zp ts k).pos
def fResult (h : Bool) (k : Nat) : R :=
 if yb ts k [[105, 110, 116], [98, 111, 111, 108], [115, 116, 114, 105, 110, 103], [42], [91], [99, 104, 97, 110], [102, 117, 110, 99]] = true then rec .wtype h k else .ok [none8] 0 k
def fNamed (kind : Int) (h : Bool) (k : Nat) : R :=
 wantName ts k fun nm k2 => (rec .wtype h k2).bind1 fun t _ k3 => .ok [nd kind nm.text nm.pos [t]] 0 k3
def fListed (it : It) (h : Bool) (k : Nat) : R :=
 if yb ts k [[41]] = true then .ok [] 0 (k + 1) else (rec it.job h k).bind1 fun t _ k2 => rec (.listMore it [t]) h k2
def yo (it : It) (acc : List Tree) (h : Bool) (k : Nat) : R :=
 if yb ts k [[44]] = true then (rec it.job h (k + 1)).bind1 fun t _ k2 => rec (.listMore it (acc ++ [t])) h k2
 else want ts k [41] fun _ k2 => .ok acc 0 k2
def fFunction (h : Bool) (k : Nat) : R :=
 want ts k [40] fun p k1 => (rec (.listed .named) h k1).bind fun ps _ k2 => (rec .result h k2).bind1 fun r _ k3 => (rec .block false k3).bind1 fun b _ k4 => .ok [nd 6 [] p.pos ps, r, b] 0 k4
def fBlock (h : Bool) (k : Nat) : R :=
 want ts k [123] fun p k1 => (rec (.stmts []) h k1).bind fun l _ k2 => want ts k2 [125] fun _ k3 => .ok [nd 16 [] p.pos l] 0 k3
def fStmts (acc : List Tree) (h : Bool) (k : Nat) : R :=
 if behind ts k = true then (if yb ts k [[59]] = true then rec (.stmts acc) h (k + 1) else .ok acc 0 k)
 else (rec .stmt h k).bind1 fun t _ k2 => if yb ts k2 [[59]] = true then rec (.stmts (acc ++ [t])) h (k2 + 1) else .ok (acc ++ [t]) 0 k2
def fStmt (h : Bool) (k : Nat) : R :=
 if yI ts k = [118, 97, 114] then rec .varStmt h k
 else if yI ts k = [123] then rec .block h k
 else if yI ts k = [105, 102] then rec .ifStmt h k
 else if [[102, 111, 114], [115, 119, 105, 116, 99, 104], [115, 101, 108, 101, 99, 116]].contains (yI ts k) = true then rec .breakable h k
 else if yI ts k = [98, 114, 101, 97, 107] then jump ts 27 k
 else if yI ts k = [99, 111, 110, 116, 105, 110, 117, 101] then jump ts 28 k
 else if yI ts k = [102, 97, 108, 108, 116, 104, 114, 111, 117, 103, 104] then .ok [nd 29 [] (zp ts k).pos []] 0 (k + 1)
 else if yI ts k = [114, 101, 116, 117, 114, 110] then rec .returnStmt h k
 else if yI ts k = [103, 111] then rec (.callStmt 31) h k
 else if yI ts k = [100, 101, 102, 101, 114] then rec (.callStmt 32) h k
 else if labels ts k = true then rec .labelled h k
 else rec .simple h k
def fVarStmt (h : Bool) (k : Nat) : R :=
 (rec (.named 18) h (k + 1)).bind1 fun n _ k2 => if yb ts k2 [[61]] = true then (rec .expr h (k2 + 1)).bind1 fun v _ k3 => .ok [nd 18 n.text (zp ts k).pos (n.kids ++ [v])] 0 k3 else .ok [nd 18 n.text (zp ts k).pos (n.kids ++ [none8])] 0 k2
def fReturnStmt (h : Bool) (k : Nat) : R :=
 if behind ts (k + 1) = true then .ok [nd 30 [] (zp ts k).pos [none8]] 0 (k + 1) else (rec .expr h (k + 1)).bind1 fun v _ k2 => .ok [nd 30 [] (zp ts k).pos [v]] 0 k2
def fCallStmt (kind : Int) (h : Bool) (k : Nat) : R :=
 (rec .primary h (k + 1)).bind1 fun t s k2 => if s = 5 then .ok [nd kind [] (zp ts k).pos [t]] 0 k2 else .bad (zp ts k2).pos
def fLabelled (h : Bool) (k : Nat) : R :=
 want ts (k + 1) [58] fun _ k2 => (rec .breakable h k2).bind1 fun b _ k3 => .ok [nd 35 (zp ts k).text (zp ts k).pos [b]] 0 k3
def fSimple (h : Bool) (k : Nat) : R :=
 if yb ts k [[45], [33]] = true then .bad (zp ts k).pos
 else (rec .shaped h k).bind1 fun lead s k2 => (rec (.acting lead s) h k2).bind fun l f k3 => if f = 1 then .ok l 0 k3 else if stands s = true then .ok [alone lead] 0 k3 else .bad (zp ts k3).pos
def yO (lead : Tree) (s : Int) (h : Bool) (k : Nat) : R :=
 if s = 3 ∧ yb ts k [[58, 61]] = true then (rec .expr h (k + 1)).bind1 fun v _ k2 => .ok [nd 17 lead.text lead.pos [v]] 1 k2
 else if (s = 3 ∨ s = 4) ∧ yb ts k [[61], [43, 61], [45, 61], [42, 61]] = true then (rec .expr h (k + 1)).bind1 fun v _ k2 => .ok [nd 19 (zp ts k).text (zp ts k).pos [lead, v]] 1 k2
 else if (s = 3 ∨ s = 4) ∧ yb ts k [[43, 43], [45, 45]] = true then .ok [nd 20 (zp ts k).text (zp ts k).pos [lead]] 1 (k + 1)
 else if 2 ≤ s ∧ yb ts k [[60, 45]] = true then (rec .expr h (k + 1)).bind1 fun v _ k2 => .ok [nd 33 [] (zp ts k).pos [lead, v]] 1 k2
 else .ok [] 0 k
def fIfStmt (h : Bool) (k : Nat) : R :=
 (rec .expr true (k + 1)).bind1 fun c _ k2 => (rec .block h k2).bind1 fun th _ k3 =>
  if yb ts k3 [[101, 108, 115, 101]] = true then (if yb ts (k3 + 1) [[105, 102]] = true then (rec .ifStmt h (k3 + 1)).bind1 fun o _ k4 => .ok [nd 21 [] (zp ts k).pos [c, th, o]] 0 k4
   else (rec .block h (k3 + 1)).bind1 fun o _ k4 => .ok [nd 21 [] (zp ts k).pos [c, th, o]] 0 k4)
  else .ok [nd 21 [] (zp ts k).pos [c, th, none8]] 0 k3
def fBreakable (h : Bool) (k : Nat) : R :=
 if yI ts k = [102, 111, 114] then rec .forStmt h k else if yI ts k = [115, 119, 105, 116, 99, 104] then rec .switchStmt h k else if yI ts k = [115, 101, 108, 101, 99, 116] then rec .selectStmt h k else .bad (zp ts k).pos
def fForStmt (h : Bool) (k : Nat) : R :=
 (rec .forHead true (k + 1)).bind fun l _ k2 => (rec .block h k2).bind1 fun b _ k3 => .ok [nd 22 [] (zp ts k).pos (l ++ [b])] 0 k3
def ya (h : Bool) (first c : Tree) (k : Nat) : R :=
 want ts k [59] fun _ k2 => if yb ts k2 [[123]] = true then .ok [first, c, none8] 0 k2 else (rec .simple h k2).bind1 fun l _ k3 => .ok [first, c, l] 0 k3
def yn (h : Bool) (first : Tree) (k : Nat) : R :=
 want ts k [59] fun _ k2 => if yb ts k2 [[59]] = true then ya ts rec h first none8 k2 else (rec .expr h k2).bind1 fun c _ k3 => ya ts rec h first c k3
def yY (h : Bool) (k : Nat) : R :=
 if yb ts k [[123]] = true then .ok [none8, none8, none8] 0 k
 else if yb ts k [[59]] = true then yn ts rec h none8 k
 else (rec .forLead h k).bind1 fun part s k2 => if s = 1 then yn ts rec h part k2 else .ok [none8, part, none8] 0 k2
def fForLead (h : Bool) (k : Nat) : R :=
 (rec .shaped h k).bind1 fun lead s k2 => (rec (.acting lead s) h k2).bind fun l f k3 => if f = 1 then .ok l 1 k3
  else if stands s = true ∧ yb ts k3 [[59]] = true then .ok [alone lead] 1 k3 else (rec (.opOf lead 1) h k3).bind1 fun t _ k4 => .ok [t] 0 k4
def yt (h : Bool) (k : Nat) : R :=
 if yb ts (k + 1) [[123]] = true then (rec (.clauses false) h (k + 1)).bind fun l _ k2 => .ok [nd 23 [] (zp ts k).pos (none8 :: l)] 0 k2
 else (rec .expr true (k + 1)).bind1 fun t _ k1 => (rec (.clauses false) h k1).bind fun l _ k2 => .ok [nd 23 [] (zp ts k).pos (t :: l)] 0 k2
def fSelectStmt (h : Bool) (k : Nat) : R :=
 (rec (.clauses true) h (k + 1)).bind fun l _ k2 => .ok [nd 25 [] (zp ts k).pos l] 0 k2
def fClauses (c : Bool) (h : Bool) (k : Nat) : R := want ts k [123] fun _ k1 => rec (.clausesMore c []) h k1
def yu (c : Bool) (acc : List Tree) (h : Bool) (k : Nat) : R :=
 if yb ts k [[125]] = true then .ok acc 0 (k + 1) else (rec (if c = true then .comm else .clause) h k).bind1 fun t _ k2 => rec (.clausesMore c (acc ++ [t])) h k2
def fClause (h : Bool) (k : Nat) : R :=
 if yb ts k [[99, 97, 115, 101]] = true then (rec .expr h (k + 1)).bind1 fun e _ k2 => (rec (.caseMore [e]) h k2).bind fun es _ k3 => (rec .clauseBlock h k3).bind1 fun b _ k4 => .ok [nd 24 (yI ts k) (zp ts k).pos (es ++ [b])] 0 k4
 else if yb ts k [[100, 101, 102, 97, 117, 108, 116]] = true then (rec .clauseBlock h (k + 1)).bind1 fun b _ k4 => .ok [nd 24 (yI ts k) (zp ts k).pos [b]] 0 k4
 else .bad (zp ts k).pos
def fCaseMore (acc : List Tree) (h : Bool) (k : Nat) : R :=
 if yb ts k [[44]] = true then (rec .expr h (k + 1)).bind1 fun e _ k2 => rec (.caseMore (acc ++ [e])) h k2 else .ok acc 0 k
def fClauseBlock (h : Bool) (k : Nat) : R := want ts k [58] fun p k1 => (rec (.stmts []) h k1).bind fun l _ k2 => .ok [nd 16 [] p.pos l] 0 k2
def fComm (h : Bool) (k : Nat) : R :=
 if yb ts k [[99, 97, 115, 101]] = true then (rec .commHead h (k + 1)).bind fun l s k2 => (rec .clauseBlock h k2).bind1 fun b _ k3 => .ok [nd 26 (if s = 1 then [114, 101, 99, 118] else [115, 101, 110, 100]) (zp ts k).pos (l ++ [b])] 0 k3
 else if yb ts k [[100, 101, 102, 97, 117, 108, 116]] = true then (rec .clauseBlock h (k + 1)).bind1 fun b _ k3 => .ok [nd 26 [100, 101, 102, 97, 117, 108, 116] (zp ts k).pos [b]] 0 k3
 else .bad (zp ts k).pos
def yl (h : Bool) (k : Nat) : R :=
 if yb ts k [[60, 45]] = true then (rec .unary h (k + 1)).bind1 fun u _ k2 => .ok [u] 1 k2
 else (rec .primary h k).bind1 fun lead s k2 => if s = 3 ∧ yb ts k2 [[58, 61]] = true then want ts (k2 + 1) [60, 45] fun _ k3 => (rec .unary h k3).bind1 fun u _ k4 => .ok [nd 7 lead.text lead.pos [], u] 1 k4
  else want ts k2 [60, 45] fun _ k3 => (rec .expr h k3).bind1 fun e _ k4 => .ok [lead, e] 2 k4
def fOp (least : Int) (h : Bool) (k : Nat) : R := (rec .unary h k).bind1 fun t _ k2 => rec (.opOf t least) h k2
def fOpOf (left : Tree) (least : Int) (h : Bool) (k : Nat) : R :=
 if least ≤ strength (yI ts k) then (rec (.op (strength (zp ts k).text + 1)) h (k + 1)).bind1 fun r _ k2 => rec (.opOf (nd 42 (zp ts k).text (zp ts k).pos [left, r]) least) h k2
 else .ok [left] 0 k
def fUnary (h : Bool) (k : Nat) : R := (rec .shaped h k).bind1 fun t _ k2 => .ok [t] 0 k2
def fShaped (h : Bool) (k : Nat) : R :=
 if yb ts k [[45], [33], [60, 45]] = true then (rec .unary h (k + 1)).bind1 fun u _ k2 => .ok [nd 41 (zp ts k).text (zp ts k).pos [u]] (if (zp ts k).text = [60, 45] then 1 else 0) k2
 else rec .primary h k
def fPrimary (h : Bool) (k : Nat) : R := (rec .operand h k).bind1 fun n s k2 => rec (.primMore n s) h k2
def fPrimMore (n : Tree) (s : Int) (h : Bool) (k : Nat) : R :=
 if yb ts k [[40]] = true then (rec .args false (k + 1)).bind fun l _ k2 => rec (.primMore (nd 43 [] (zp ts k).pos (n :: l)) 5) h k2
 else if yb ts k [[91]] = true then (rec (.bracketed n (zp ts k).pos) h (k + 1)).bind1 fun t s2 k2 => rec (.primMore t s2) h k2
 else if yb ts k [[46]] = true then wantName ts (k + 1) fun nm k2 => rec (.primMore (nd 47 nm.text (zp ts k).pos [n]) 4) h k2
 else .ok [n] s k
def fBr3 (of : Tree) (pos : Int) (f t : Tree) (k : Nat) : R := want ts k [93] fun _ k2 => .ok [nd 46 [] pos [of, f, t]] 2 k2
def fBr2 (of : Tree) (pos : Int) (f : Tree) (k : Nat) : R :=
 want ts k [58] fun _ k2 => if yb ts k2 [[93]] = true then fBr3 ts of pos f none8 k2 else (rec .expr false k2).bind1 fun t _ k3 => fBr3 ts of pos f t k3
def yH (of : Tree) (pos : Int) (_ : Bool) (k : Nat) : R :=
 if yb ts k [[58]] = true then fBr2 ts rec of pos none8 k
 else (rec .expr false k).bind1 fun f _ k2 => if yb ts k2 [[93]] = true then .ok [nd 45 [] pos [of, f]] 4 (k2 + 1) else fBr2 ts rec of pos f k2
def fOperand (h : Bool) (k : Nat) : R :=
 if (zp ts k).kind = 2 then .ok [.mk 36 [] (zp ts k).num (zp ts k).pos []] 2 (k + 1)
 else if (zp ts k).kind = 3 then .ok [nd 37 (zp ts k).text (zp ts k).pos []] 2 (k + 1)
 else if (zp ts k).kind = 1 then .ok [nd 40 (zp ts k).text (zp ts k).pos []] 3 (k + 1)
 else if (zp ts k).kind = 4 then rec .wordOperand h k
 else (rec .markOperand h k).bind1 fun t _ k2 => .ok [t] 2 k2
def yC (h : Bool) (k : Nat) : R :=
 if [[116, 114, 117, 101], [102, 97, 108, 115, 101]].contains (zp ts k).text = true then .ok [nd 38 (zp ts k).text (zp ts k).pos []] 2 (k + 1)
 else if (zp ts k).text = [110, 105, 108] then .ok [nd 39 [] (zp ts k).pos []] 2 (k + 1)
 else if (zp ts k).text = [102, 117, 110, 99] then (rec .function h (k + 1)).bind fun l _ k2 => .ok [nd 48 [] (zp ts k).pos l] 2 k2
 else if (zp ts k).text = [109, 97, 107, 101] then (rec (.builtin .makeArgs) h k).bind1 fun t _ k2 => .ok [t] 2 k2
 else if (zp ts k).text = [110, 101, 119] then (rec (.builtin .newArgs) h k).bind1 fun t _ k2 => .ok [t] 2 k2
 else if [[97, 112, 112, 101, 110, 100], [99, 97, 112], [99, 108, 111, 115, 101], [108, 101, 110], [112, 97, 110, 105, 99], [112, 114, 105, 110, 116], [114, 101, 99, 111, 118, 101, 114]].contains (zp ts k).text = true then (rec (.builtin .args) h k).bind1 fun t _ k2 => .ok [t] 5 k2
 else .bad (zp ts k).pos
def fBuiltin (r : Job) (_ : Bool) (k : Nat) : R :=
 want ts (k + 1) [40] fun _ k2 => (rec r false k2).bind fun l _ k3 => .ok [nd 44 (zp ts k).text (zp ts k).pos l] 0 k3
def fMakeArgs (h : Bool) (k : Nat) : R :=
 (rec .wtype h k).bind1 fun t _ k2 => if yb ts k2 [[44]] = true then (rec .expr h (k2 + 1)).bind1 fun e _ k3 => want ts k3 [41] fun _ k4 => .ok [t, e] 0 k4 else want ts k2 [41] fun _ k3 => .ok [t] 0 k3
def fNewArgs (_ : Bool) (k : Nat) : R := wantName ts k fun nm k2 => want ts k2 [41] fun _ k3 => .ok [nd 12 nm.text nm.pos []] 0 k3
def yG (h : Bool) (k : Nat) : R :=
 if yb ts k [[40]] = true then (rec .expr false (k + 1)).bind1 fun t _ k2 => want ts k2 [41] fun _ k3 => .ok [t] 0 k3
 else if h = false ∧ yb ts k [[38]] = true then wantName ts (k + 1) fun nm k2 => (rec (.braced .initial) h k2).bind fun l _ k3 => .ok [nd 49 nm.text (zp ts k).pos l] 0 k3
 else if h = false ∧ yb ts k [[91]] = true then want ts (k + 1) [93] fun _ k2 => (rec .wtype h k2).bind1 fun i _ k3 => (rec (.braced .expr) h k3).bind fun l _ k4 => .ok [nd 50 [] (zp ts k).pos (i :: l)] 0 k4
 else .bad (zp ts k).pos
def fBraced (it : It) (h : Bool) (k : Nat) : R := want ts k [123] fun _ k1 => rec (.bracedMore it []) h k1
def yk (it : It) (acc : List Tree) (h : Bool) (k : Nat) : R :=
 if yb ts k [[125]] = true then .ok acc 0 (k + 1)
 else (rec it.job h k).bind1 fun t _ k2 => if yb ts k2 [[44]] = true then rec (.bracedMore it (acc ++ [t])) h (k2 + 1) else want ts k2 [125] fun _ k3 => .ok (acc ++ [t]) 0 k3
def fInitial (h : Bool) (k : Nat) : R := wantName ts k fun nm k2 => want ts k2 [58] fun _ k3 => (rec .expr h k3).bind1 fun e _ k4 => .ok [nd 5 nm.text nm.pos [e]] 0 k4
def fDecl (h : Bool) (k : Nat) : R :=
 if yI ts k = [116, 121, 112, 101] then rec .typeDecl h k
 else if yI ts k = [118, 97, 114] then (rec (.named 3) h (k + 1)).bind1 fun n _ k2 => .ok [nd 3 n.text (zp ts k).pos n.kids] 0 k2
 else if yI ts k = [102, 117, 110, 99] then wantName ts (k + 1) fun nm k2 => (rec .function h k2).bind fun l _ k3 => .ok [nd 4 nm.text (zp ts k).pos l] 0 k3
 else .bad (zp ts k).pos
def fTypeDecl (h : Bool) (k : Nat) : R :=
 wantName ts (k + 1) fun nm k2 => want ts k2 [115, 116, 114, 117, 99, 116] fun _ k3 => want ts k3 [123] fun _ k4 => (rec (.fieldsMore []) h k4).bind fun l _ k5 => .ok [nd 2 nm.text (zp ts k).pos l] 0 k5
def fFieldsMore (acc : List Tree) (h : Bool) (k : Nat) : R :=
 if yb ts k [[125]] = true then .ok acc 0 (k + 1) else (rec (.named 5) h k).bind1 fun t _ k2 => want ts k2 [59] fun _ k3 => rec (.fieldsMore (acc ++ [t])) h k3
def fFileMore (acc : List Tree) (h : Bool) (k : Nat) : R :=
 if (zp ts k).kind = 6 then .ok [nd 1 [] 0 acc] 0 k else (rec .decl h k).bind1 fun d _ k2 => want ts k2 [59] fun _ k3 => rec (.fileMore (acc ++ [d])) h k3
def step : Job → Bool → Nat → R
 | .wtype => fWtype ts rec
 | .result => fResult ts rec
 | .named kd => fNamed ts rec kd
 | .listed it => fListed ts rec it
 | .listMore it acc => yo ts rec it acc
 | .function => fFunction ts rec
 | .block => fBlock ts rec
 | .stmts acc => fStmts ts rec acc
 | .stmt => fStmt ts rec
 | .varStmt => fVarStmt ts rec
 | .returnStmt => fReturnStmt ts rec
 | .callStmt kd => fCallStmt ts rec kd
 | .labelled => fLabelled ts rec
 | .simple => fSimple ts rec
 | .acting lead s => yO ts rec lead s
 | .ifStmt => fIfStmt ts rec
 | .breakable => fBreakable ts rec
 | .forStmt => fForStmt ts rec
 | .forHead => yY ts rec
 | .forLead => fForLead ts rec
 | .switchStmt => yt ts rec
 | .selectStmt => fSelectStmt ts rec
 | .clauses c => fClauses ts rec c
 | .clausesMore c acc => yu ts rec c acc
 | .clause => fClause ts rec
 | .caseMore acc => fCaseMore ts rec acc
 | .clauseBlock => fClauseBlock ts rec
 | .comm => fComm ts rec
 | .commHead => yl ts rec
 | .expr => rec (.op 1)
 | .op least => fOp rec least
 | .opOf left least => fOpOf ts rec left least
 | .unary => fUnary rec
 | .shaped => fShaped ts rec
 | .primary => fPrimary rec
 | .primMore n s => fPrimMore ts rec n s
 | .args => rec (.listed .expr)
 | .bracketed of pos => yH ts rec of pos
 | .operand => fOperand ts rec
 | .wordOperand => yC ts rec
 | .builtin r => fBuiltin ts rec r
 | .makeArgs => fMakeArgs ts rec
 | .newArgs => fNewArgs ts
 | .markOperand => yG ts rec
 | .braced it => fBraced ts rec it
 | .bracedMore it acc => yk ts rec it acc
 | .initial => fInitial ts rec
 | .decl => fDecl ts rec
 | .typeDecl => fTypeDecl ts rec
 | .fieldsMore acc => fFieldsMore ts rec acc
 | .fileMore acc => fFileMore ts rec acc
end
def run (ts : List Tok) : Nat → Job → Bool → Nat → R
 | 0 => fun _ _ _ => .out
 | n + 1 => step ts (run ts n)
end Go.Proofs.YtheknbfbneghgaaGreatDoor.Px
