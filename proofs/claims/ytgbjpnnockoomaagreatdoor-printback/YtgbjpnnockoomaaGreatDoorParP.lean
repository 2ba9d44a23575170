import Derived.WalkKit
import Derived.WalkSpells
import Derived.WalkLawsBesides
import Derived.Deep.QuietTactic
import Derived.BigQuiet
import Derived.Lib.Strings
set_option maxRecDepth 100000
namespace Go.Proofs.YtgbjpnnockoomaaGreatDoor
theorem om {p:Prop} (h:p:=by omega):p:=h
theorem wg {p:Prop} (h:p:=by go_wf):p:=h
theorem oz {p:Prop} (h:p:=by first | omega | (simp <;> omega)):p:=h
theorem sq {p:Prop} (h:p:=by simp <;> omega):p:=h
theorem sp {p:Prop} (h:p:=by simp;omega):p:=h
theorem dc {p:Prop} (h:p:=by decide):p:=h
theorem lr {n:Nat} : n≤n:=Nat.le_refl n
theorem ef {p:Prop} (h:¬p):p=False:=eq_false h
theorem et {p:Prop} (h:p):p=True:=eq_true h
theorem zA {p:Prop} (h:p:=by (repeat (first | with_reducible assumption | ((with_reducible apply BL.put7);(with_reducible assumption);rfl) | ((with_reducible apply BL.o5);(with_reducible assumption);rfl) | with_reducible refine BL.drew ?_ | (with_reducible refine BL.new ?_;(first | omega | (simp <;> omega))) | with_reducible refine BL.alloc ?_ _ | (with_reducible refine BL.set ?_ _ ?_;rotate_left;(first | omega | (simp <;> omega))) | ((with_reducible apply BL.mF);(with_reducible assumption);(first | rfl | simp))))):p:=h
theorem zB {p:Prop} (h:p:=by (repeat (first | with_reducible exact Ag.refl _ _ _ | with_reducible refine Ag.drew ?_ | with_reducible refine Ag.alloc ?_ _ (by first | (simp <;> omega) | omega) | with_reducible refine Ag.set ?_ _ (by first | (left;simp <;> omega) | (left;omega) | (right;simp <;> omega) | (right;omega) | (dsimp only;omega))))):p:=h
theorem zC {p:Prop} (h:p:=by (repeat (first | with_reducible assumption | with_reducible exact zo _ _ | with_reducible refine zz ?_ | with_reducible refine zr ?_ _ | (with_reducible refine yF ?_ _ (by first | with_reducible exact Or.inr rfl | (left;simp <;> omega) | (left;omega)))))):p:=h
theorem zD {p:Prop} (h:p:=by first | with_reducible exact Or.inr rfl | (left;simp <;> omega) | (left;omega)):p:=h
theorem zF {p:Prop} (h:p:=by (repeat (first | with_reducible assumption | with_reducible refine PS.drew ?_ | with_reducible refine PS.alloc ?_ _ | with_reducible refine PS.over ?_ ok _ (by first | (simp <;> omega) | omega) | with_reducible exact PS.set2 (by with_reducible assumption) ok))):p:=h
theorem zG {p:Prop} (h:p:=by kernel_rfl):p:=h
theorem zH {p:Prop} (h:p:=by simp [Act.eval]):p:=h
theorem zI {p:Prop} (h:p:=by first | (simp <;> omega) | omega):p:=h
theorem zJ {p:Prop} (h:p:=by cases gk with | zero=>exact absurd (zk HRr).symm (zk HO) | succ m=>exact ⟨m,rfl⟩):p:=h
theorem zK {p:Prop} (h:p:=by simp):p:=h
theorem zL {p:Prop} (h:p:=by (repeat (first | with_reducible exact Ag.refl _ _ _ | with_reducible refine Ag.drew ?_ | with_reducible refine Ag.alloc ?_ _ (by first | (simp <;> omega) | omega) | with_reducible refine Ag.set ?_ _ (by first | (left;simp <;> omega) | (left;omega) | (right;simp <;> omega) | (right;omega))))):p:=h
theorem zM {p:Prop} (h:p:=by first | trivial | exact hkk):p:=h
theorem zN {p:Prop} (h:p:=by simp [results,Tryz.results99,go_sem, *]):p:=h
theorem zO {p:Prop} (h:p:=by have h2:=zk HL;simp only [List.length_append,List.length_cons,List.length_nil] at h2 ⊢;omega):p:=h
theorem zP {p:Prop} (h:p:=by simp [results,Tryz.results154,go_sem, *]):p:=h
theorem zQ {p:Prop} (h:p:=by simp [results,Tryz.results132,go_sem, *]):p:=h
theorem zR {p:Prop} (h:p:=by first | trivial | exact q3 _ | (show 1≤_;first | exact hg | (have:=strength_ge (zp ts k).text;omega)) | exact Or.inl rfl | exact Or.inr (Or.inl rfl) | exact Or.inr (Or.inr rfl)):p:=h
theorem zS {p:Prop} (h:p:=by first | trivial | exact Or.inl rfl | exact Or.inr (Or.inl rfl) | exact Or.inr (Or.inr rfl)):p:=h
theorem zT {p:Prop} (h:p:=by apply BL.put7 (by go_wf);rfl):p:=h
theorem zU {p:Prop} (h:p:=by simp [results,Tryz.results144,go_sem, *]):p:=h
theorem zV {p:Prop} (h:p:=by first | (left;omega) | (left;simp <;> omega)):p:=h
theorem zW {p:Prop} (h:p:=by exact (zk H).heap rfl):p:=h
theorem zX {p:Prop} (h:p:=by first | with_reducible exact gw1 (by go_wf) | with_reducible exact gw1 (yD (by go_wf))):p:=h
theorem zY {p:Prop} (h:p:=by first | with_reducible exact bw1 (by go_wf) | with_reducible exact bw1 (yS (by go_wf))):p:=h
theorem zZ {p:Prop} (h:p:=by simp [results,Tryz.results131,go_sem, *]):p:=h
theorem za {p:Prop} (h:p:=by with_reducible assumption):p:=h
theorem zb {p:Prop} (h:p:=by simp [results,Tryz.results74,go_sem, *]):p:=h
theorem zd {p:Prop} (h:p:=by have:=zk H2;rw [List.append_assoc] at this;rwa [zk HTT]):p:=h
theorem zf {p:Prop} (h:p:=by assumption):p:=h
theorem zh {p:Prop} (h:p:=by first | (simp only [rank];omega) | (have:=q4 (by assumption);simp only [rank];omega)):p:=h
theorem zi {p:Prop} (h:p:=by rw [List.length_append];omega):p:=h
theorem zj {p:Prop} (h:p:=by simp [results,Tryz.results142,go_sem, *]):p:=h
end Go.Proofs.YtgbjpnnockoomaaGreatDoor
namespace Go.Proofs.YtgbjpnnockoomaaGreatDoor.Lx
def letZ (n:Int):Bool:=(decide (97≤n)&&decide (n≤122))||(decide (65≤n)&&decide (n≤90))||decide (n=95)
def digZ (n:Int):Bool:=decide (48≤n)&&decide (n≤57)
def plnZ (n:Int):Bool:=decide (32≤n)&&decide (n≤126)&&!decide (n=34)&&!decide (n=92)
def isLet (c:UInt8):Bool:=letZ c.toNat
def aG (c:UInt8):Bool:=digZ c.toNat
def dO (c:UInt8):Bool:=plnZ c.toNat
def bH (c:UInt8):Bool:=isLet c||aG c
def lK (c:UInt8):Bool:=!decide ((c.toNat:Int)=10)
structure Tok where
 kind:Int
 text:List UInt8
 num:Int
 pos:Int
def yL (p:UInt8→Bool) (l:List UInt8) (k:Nat):Nat:=k+((l.drop k).takeWhile p).length
def sub (l:List UInt8) (a b:Nat):List UInt8:=(l.drop a).take (b-a)
def wordList:List (List UInt8):=[[97,112,112,101,110,100],[98,111,111,108],[98,114,101,97,107],[99,97,112],[99,97,115,101],[99,104,97,110],[99,108,111,115,101],[99,111,110,116,105,110,117,101],[100,101,102,97,117,108,116],[100,101,102,101,114],[101,108,115,101],[102,97,108,108,116,104,114,111,117,103,104],[102,97,108,115,101],[102,111,114],[102,117,110,99],[103,111],[105,102],[105,110,116],[108,101,110],[109,97,107,101],[110,101,119],[110,105,108],[112,97,110,105,99],[112,114,105,110,116],[114,101,99,111,118,101,114],[114,101,116,117,114,110],[115,101,108,101,99,116],[115,116,114,105,110,103],[115,116,114,117,99,116],[115,119,105,116,99,104],[116,114,117,101],[116,121,112,101],[118,97,114]]
def endWords:List (List UInt8):=[[98,114,101,97,107],[99,111,110,116,105,110,117,101],[102,97,108,108,116,104,114,111,117,103,104],[114,101,116,117,114,110],[116,114,117,101],[102,97,108,115,101],[110,105,108],[105,110,116],[98,111,111,108],[115,116,114,105,110,103]]
def endMarks:List (List UInt8):=[[43,43],[45,45],[41],[93],[125]]
def iJ:List (List UInt8):=[[58,61],[61,61],[33,61],[60,61],[62,61],[38,38],[124,124],[60,45],[43,43],[45,45],[43,61],[45,61],[42,61]]
def eu (t:List UInt8):Bool:=wordList.contains t
def oO (t:List UInt8):Bool:=endWords.contains t
def uY (t:List UInt8):Bool:=endMarks.contains t
def kE (t:List UInt8):Bool:=iJ.contains t
def dX (k:Int) (t:List UInt8):Bool:=if k=1∨k=2∨k=3 then true else if k=4 then oO t else if k=5 then uY t else false
theorem fJ (s:ByteArray) (j:Nat) (h:j<s.size):s.toList[j]?=some s[j]:=by
 rw [ByteArray.toList_eq]
 exact List.getElem?_eq_getElem (l:=s.data.toList) (by simpa using h)
theorem yx (s:ByteArray):s.toList.length=s.size:=by
 rw [ByteArray.toList_eq,Array.length_toList];rfl
theorem eH (l:List UInt8) (j:Nat) (c:UInt8) (h:l[j]?=some c):l.drop j=c::l.drop (j+1):=by
 obtain ⟨hl,he⟩:=List.getElem?_eq_some_iff.1 h
 rw [List.drop_eq_getElem_cons hl,he]
theorem re_step (p:UInt8→Bool) (l:List UInt8) (j:Nat) (c:UInt8) (h:l[j]?=some c) (hp:p c=true):yL p l (j+1)=yL p l j:=by
 unfold yL
 rw [eH l j c h,List.takeWhile_cons_of_pos hp]
 simp only [List.length_cons]
 omega
theorem re_stop (p:UInt8→Bool) (l:List UInt8) (j:Nat) (c:UInt8) (h:l[j]?=some c) (hp:p c=false):yL p l j=j:=by
 unfold yL
 rw [eH l j c h,List.takeWhile_cons_of_neg (by simp [hp])]
 simp
theorem re_end (p:UInt8→Bool) (l:List UInt8) (j:Nat) (h:l.length≤j):yL p l j=j:=by
 unfold yL
 rw [List.drop_eq_nil_of_le h]
 simp
theorem re_le (p:UInt8→Bool) (l:List UInt8) (j:Nat) (h:j≤l.length):yL p l j≤l.length:=by
 unfold yL
 have:=(List.takeWhile_sublist p (l:=l.drop j)).length_le
 rw [List.length_drop] at this
 omega
theorem re_ge (p:UInt8→Bool) (l:List UInt8) (j:Nat):j≤yL p l j:=by unfold yL;omega
theorem lU (p:UInt8→Bool) (s:ByteArray) (j:Nat) (h:j<s.size) (hp:p s[j]=true):yL p s.toList (j+1)=yL p s.toList j:=re_step p _ j _ (fJ s j h) hp
theorem nY (p:UInt8→Bool) (s:ByteArray) (j:Nat) (h:j<s.size) (hp:p s[j]=false):yL p s.toList j=j:=re_stop p _ j _ (fJ s j h) hp
theorem pY (p:UInt8→Bool) (s:ByteArray) (j:Nat) (h:s.size≤j):yL p s.toList j=j:=re_end p _ j (by rw [yx];exact h)
def cmt (l:List UInt8) (k:Nat):Bool:=(l.drop k).take 2==[47,47]
def kY (l:List UInt8) (k:Nat):Option UInt8:=
 if l[k]?=some 92 then
  if l[k+1]?=some 110 then some 10 else if l[k+1]?=some 34 then some 34 else if l[k+1]?=some 92 then some 92 else none
 else none
def mTabL:List Int:=[0,0,0,0,0,0,0,0,0,0,0,0,0,0,0,0,0,0,0,0,0,0,0,0,0,0,0,0,0,0,0,0,0,2,0,0,0,1,2,0,1,1,2,2,1,2,1,1,0,0,0,0,0,0,0,0,0,0,2,1,2,2,2,0,0,0,0,0,0,0,0,0,0,0,0,0,0,0,0,0,0,0,0,0,0,0,0,0,0,0,0,1,0,1,0,0,0,0,0,0,0,0,0,0,0,0,0,0,0,0,0,0,0,0,0,0,0,0,0,0,0,0,0,1,2,1,0,0]
def iI (n:Nat):Int:=mTabL.getD n 0
def jA (l:List UInt8):Nat:=
 match l with
 | []=>0
 | c::_=>if iI c.toNat=2 then (if kE (l.take 2) then 2 else if c=124 then 0 else 1) else if iI c.toNat=1 then 1 else 0
end Go.Proofs.YtgbjpnnockoomaaGreatDoor.Lx
namespace Go.Proofs.YtgbjpnnockoomaaGreatDoor.Px
open Lx
inductive Tree where
 | mk (kind:Int) (text:List UInt8) (num pos:Int) (kids:List Tree)
def Tree.text:Tree→List UInt8 | .mk _ t _ _ _=>t
def Tree.pos:Tree→Int | .mk _ _ _ p _=>p
def Tree.kids:Tree→List Tree | .mk _ _ _ _ l=>l
def nd (kind:Int) (text:List UInt8) (pos:Int) (kids:List Tree):Tree:=.mk kind text 0 pos kids
def aB:Tree:=nd 8 [] 0 []
inductive R where
 | ok (l:List Tree) (s:Int) (k:Nat)
 | bad (p:Int)
 | out
def R.bind:R→(List Tree→Int→Nat→R)→R
 | .ok l s k,f=>f l s k
 | .bad p,_=>.bad p
 | .out,_=>.out
def R.ax:R→(Tree→Int→Nat→R)→R
 | .ok [t] s k,f=>f t s k
 | .ok _ _ _,_=>.out
 | .bad p,_=>.bad p
 | .out,_=>.out
inductive It where | named | wtype | expr | initial
inductive Job where
 | wtype | result | named (kind:Int) | listed (it:It) | listMore (it:It) (acc:List Tree)
 | function | block | stmts (acc:List Tree) | stmt | varStmt | returnStmt | callStmt (kind:Int) | labelled | simple
 | acting (lead:Tree) (s:Int) | ifStmt | breakable | forStmt | forHead | forLead | switchStmt | selectStmt
 | clauses (c:Bool) | clausesMore (c:Bool) (acc:List Tree) | clause | caseMore (acc:List Tree) | clauseBlock | comm | commHead
 | expr | op (least:Int) | opOf (left:Tree) (least:Int) | unary | shaped | primary | primMore (n:Tree) (s:Int) | args
 | bracketed (of:Tree) (pos:Int) | operand | wordOperand | builtin (r:Job) | makeArgs | newArgs | markOperand
 | braced (it:It) | bracedMore (it:It) (acc:List Tree) | initial
 | decl | typeDecl | fieldsMore (acc:List Tree) | fileMore (acc:List Tree)
def It.job:It→Job | .named=>.named 7 | .wtype=>.wtype | .expr=>.expr | .initial=>.initial
def zp (ts:List Tok) (k:Nat):Tok:=ts.getD k ⟨6,[],0,0⟩
def yI (ts:List Tok) (k:Nat):List UInt8:=if (zp ts k).kind=4∨(zp ts k).kind=5 then (zp ts k).text else []
def yb (ts:List Tok) (k:Nat) (l:List (List UInt8)):Bool:=!(yI ts k).isEmpty&&l.contains (yI ts k)
def want (ts:List Tok) (k:Nat) (s:List UInt8) (f:Tok→Nat→R):R:=if yb ts k [s]=true then f (zp ts k) (k+1) else .bad (zp ts k).pos
def bI (ts:List Tok) (k:Nat) (f:Tok→Nat→R):R:=if (zp ts k).kind=1 then f (zp ts k) (k+1) else .bad (zp ts k).pos
def aF (s:List UInt8):Int:=
 if s=[124,124] then 1 else if s=[38,38] then 2 else if [[61,61],[33,61],[60],[60,61],[62],[62,61]].contains s then 3 else if [[43],[45]].contains s then 4 else if [[42],[47],[37]].contains s then 5 else 0
def jump (ts:List Tok) (kind:Int) (k:Nat):R:=
 if (zp ts (k+1)).kind=1 then .ok [nd kind (zp ts (k+1)).text (zp ts k).pos []] 0 (k+2) else .ok [nd kind [] (zp ts k).pos []] 0 (k+1)
def labels (ts:List Tok) (k:Nat):Bool:=decide ((zp ts k).kind=1)&&(decide ((zp ts (k+1)).kind=5)&&decide ((zp ts (k+1)).text=[58]))
def behind (ts:List Tok) (k:Nat):Bool:=yb ts k [[59],[125],[99,97,115,101],[100,101,102,97,117,108,116]]
def alone (lead:Tree):Tree:=nd 34 [] lead.pos [lead]
def stands (s:Int):Bool:=decide (s=5)||decide (s=1)
section
variable (ts : List Tok) (rec : Job → Bool → Nat → R)
def bK (h:Bool) (k:Nat):R:=
 if yI ts k=[105,110,116] then .ok [nd 9 [] (zp ts k).pos []] 0 (k+1)
 else if yI ts k=[98,111,111,108] then .ok [nd 10 [] (zp ts k).pos []] 0 (k+1)
 else if yI ts k=[115,116,114,105,110,103] then .ok [nd 11 [] (zp ts k).pos []] 0 (k+1)
 else if yI ts k=[42] then bI ts (k+1) fun nm k2=>.ok [nd 12 nm.text (zp ts k).pos []] 0 k2
 else if yI ts k=[91] then want ts (k+1) [93] fun _ k2=>(rec .wtype h k2).ax fun t _ k3=>.ok [nd 13 [] (zp ts k).pos [t]] 0 k3
 else if yI ts k=[99,104,97,110] then (rec .wtype h (k+1)).ax fun t _ k3=>.ok [nd 14 [] (zp ts k).pos [t]] 0 k3
 else if yI ts k=[102,117,110,99] then want ts (k+1) [40] fun _ k2=>(rec (.listed .wtype) h k2).bind fun l _ k3=>(rec .result h k3).ax fun r _ k4=>.ok [nd 15 [] (zp ts k).pos (l++[r])] 0 k4
 else .bad (zp ts k).pos
def fB (h:Bool) (k:Nat):R:=
 if yb ts k [[105,110,116],[98,111,111,108],[115,116,114,105,110,103],[42],[91],[99,104,97,110],[102,117,110,99]]=true then rec .wtype h k else .ok [aB] 0 k
def fH (kind:Int) (h:Bool) (k:Nat):R:=
 bI ts k fun nm k2=>(rec .wtype h k2).ax fun t _ k3=>.ok [nd kind nm.text nm.pos [t]] 0 k3
def bF (it:It) (h:Bool) (k:Nat):R:=
 if yb ts k [[41]]=true then .ok [] 0 (k+1) else (rec it.job h k).ax fun t _ k2=>rec (.listMore it [t]) h k2
def yo (it:It) (acc:List Tree) (h:Bool) (k:Nat):R:=
 if yb ts k [[44]]=true then (rec it.job h (k+1)).ax fun t _ k2=>rec (.listMore it (acc++[t])) h k2
 else want ts k [41] fun _ k2=>.ok acc 0 k2
def bJ (h:Bool) (k:Nat):R:=
 want ts k [40] fun p k1=>(rec (.listed .named) h k1).bind fun ps _ k2=>(rec .result h k2).ax fun r _ k3=>(rec .block false k3).ax fun b _ k4=>.ok [nd 6 [] p.pos ps,r,b] 0 k4
def gW (h:Bool) (k:Nat):R:=
 want ts k [123] fun p k1=>(rec (.stmts []) h k1).bind fun l _ k2=>want ts k2 [125] fun _ k3=>.ok [nd 16 [] p.pos l] 0 k3
def gm (acc:List Tree) (h:Bool) (k:Nat):R:=
 if behind ts k=true then (if yb ts k [[59]]=true then rec (.stmts acc) h (k+1) else .ok acc 0 k)
 else (rec .stmt h k).ax fun t _ k2=>if yb ts k2 [[59]]=true then rec (.stmts (acc++[t])) h (k2+1) else .ok (acc++[t]) 0 k2
def aP (h:Bool) (k:Nat):R:=
 if yI ts k=[118,97,114] then rec .varStmt h k
 else if yI ts k=[123] then rec .block h k
 else if yI ts k=[105,102] then rec .ifStmt h k
 else if [[102,111,114],[115,119,105,116,99,104],[115,101,108,101,99,116]].contains (yI ts k)=true then rec .breakable h k
 else if yI ts k=[98,114,101,97,107] then jump ts 27 k
 else if yI ts k=[99,111,110,116,105,110,117,101] then jump ts 28 k
 else if yI ts k=[102,97,108,108,116,104,114,111,117,103,104] then .ok [nd 29 [] (zp ts k).pos []] 0 (k+1)
 else if yI ts k=[114,101,116,117,114,110] then rec .returnStmt h k
 else if yI ts k=[103,111] then rec (.callStmt 31) h k
 else if yI ts k=[100,101,102,101,114] then rec (.callStmt 32) h k
 else if labels ts k=true then rec .labelled h k
 else rec .simple h k
def dn (h:Bool) (k:Nat):R:=
 (rec (.named 18) h (k+1)).ax fun n _ k2=>if yb ts k2 [[61]]=true then (rec .expr h (k2+1)).ax fun v _ k3=>.ok [nd 18 n.text (zp ts k).pos (n.kids++[v])] 0 k3 else .ok [nd 18 n.text (zp ts k).pos (n.kids++[aB])] 0 k2
def bC (h:Bool) (k:Nat):R:=
 if behind ts (k+1)=true then .ok [nd 30 [] (zp ts k).pos [aB]] 0 (k+1) else (rec .expr h (k+1)).ax fun v _ k2=>.ok [nd 30 [] (zp ts k).pos [v]] 0 k2
def dB (kind:Int) (h:Bool) (k:Nat):R:=
 (rec .primary h (k+1)).ax fun t s k2=>if s=5 then .ok [nd kind [] (zp ts k).pos [t]] 0 k2 else .bad (zp ts k2).pos
def dD (h:Bool) (k:Nat):R:=
 want ts (k+1) [58] fun _ k2=>(rec .breakable h k2).ax fun b _ k3=>.ok [nd 35 (zp ts k).text (zp ts k).pos [b]] 0 k3
def dN (h:Bool) (k:Nat):R:=
 if yb ts k [[45],[33]]=true then .bad (zp ts k).pos
 else (rec .shaped h k).ax fun lead s k2=>(rec (.acting lead s) h k2).bind fun l f k3=>if f=1 then .ok l 0 k3 else if stands s=true then .ok [alone lead] 0 k3 else .bad (zp ts k3).pos
def yO (lead:Tree) (s:Int) (h:Bool) (k:Nat):R:=
 if s=3∧yb ts k [[58,61]]=true then (rec .expr h (k+1)).ax fun v _ k2=>.ok [nd 17 lead.text lead.pos [v]] 1 k2
 else if (s=3∨s=4)∧yb ts k [[61],[43,61],[45,61],[42,61]]=true then (rec .expr h (k+1)).ax fun v _ k2=>.ok [nd 19 (zp ts k).text (zp ts k).pos [lead,v]] 1 k2
 else if (s=3∨s=4)∧yb ts k [[43,43],[45,45]]=true then .ok [nd 20 (zp ts k).text (zp ts k).pos [lead]] 1 (k+1)
 else if 2≤s∧yb ts k [[60,45]]=true then (rec .expr h (k+1)).ax fun v _ k2=>.ok [nd 33 [] (zp ts k).pos [lead,v]] 1 k2
 else .ok [] 0 k
def cu (h:Bool) (k:Nat):R:=
 (rec .expr true (k+1)).ax fun c _ k2=>(rec .block h k2).ax fun th _ k3=>
  if yb ts k3 [[101,108,115,101]]=true then (if yb ts (k3+1) [[105,102]]=true then (rec .ifStmt h (k3+1)).ax fun o _ k4=>.ok [nd 21 [] (zp ts k).pos [c,th,o]] 0 k4
   else (rec .block h (k3+1)).ax fun o _ k4=>.ok [nd 21 [] (zp ts k).pos [c,th,o]] 0 k4)
  else .ok [nd 21 [] (zp ts k).pos [c,th,aB]] 0 k3
def aN (h:Bool) (k:Nat):R:=
 if yI ts k=[102,111,114] then rec .forStmt h k else if yI ts k=[115,119,105,116,99,104] then rec .switchStmt h k else if yI ts k=[115,101,108,101,99,116] then rec .selectStmt h k else .bad (zp ts k).pos
def dQ (h:Bool) (k:Nat):R:=
 (rec .forHead true (k+1)).bind fun l _ k2=>(rec .block h k2).ax fun b _ k3=>.ok [nd 22 [] (zp ts k).pos (l++[b])] 0 k3
def ya (h:Bool) (first c:Tree) (k:Nat):R:=
 want ts k [59] fun _ k2=>if yb ts k2 [[123]]=true then .ok [first,c,aB] 0 k2 else (rec .simple h k2).ax fun l _ k3=>.ok [first,c,l] 0 k3
def yn (h:Bool) (first:Tree) (k:Nat):R:=
 want ts k [59] fun _ k2=>if yb ts k2 [[59]]=true then ya ts rec h first aB k2 else (rec .expr h k2).ax fun c _ k3=>ya ts rec h first c k3
def yY (h:Bool) (k:Nat):R:=
 if yb ts k [[123]]=true then .ok [aB,aB,aB] 0 k
 else if yb ts k [[59]]=true then yn ts rec h aB k
 else (rec .forLead h k).ax fun part s k2=>if s=1 then yn ts rec h part k2 else .ok [aB,part,aB] 0 k2
def aZ (h:Bool) (k:Nat):R:=
 (rec .shaped h k).ax fun lead s k2=>(rec (.acting lead s) h k2).bind fun l f k3=>if f=1 then .ok l 1 k3
  else if stands s=true∧yb ts k3 [[59]]=true then .ok [alone lead] 1 k3 else (rec (.opOf lead 1) h k3).ax fun t _ k4=>.ok [t] 0 k4
def yt (h:Bool) (k:Nat):R:=
 if yb ts (k+1) [[123]]=true then (rec (.clauses false) h (k+1)).bind fun l _ k2=>.ok [nd 23 [] (zp ts k).pos (aB::l)] 0 k2
 else (rec .expr true (k+1)).ax fun t _ k1=>(rec (.clauses false) h k1).bind fun l _ k2=>.ok [nd 23 [] (zp ts k).pos (t::l)] 0 k2
def bP (h:Bool) (k:Nat):R:=
 (rec (.clauses true) h (k+1)).bind fun l _ k2=>.ok [nd 25 [] (zp ts k).pos l] 0 k2
def dJ (c:Bool) (h:Bool) (k:Nat):R:=want ts k [123] fun _ k1=>rec (.clausesMore c []) h k1
def yu (c:Bool) (acc:List Tree) (h:Bool) (k:Nat):R:=
 if yb ts k [[125]]=true then .ok acc 0 (k+1) else (rec (if c=true then .comm else .clause) h k).ax fun t _ k2=>rec (.clausesMore c (acc++[t])) h k2
def dS (h:Bool) (k:Nat):R:=
 if yb ts k [[99,97,115,101]]=true then (rec .expr h (k+1)).ax fun e _ k2=>(rec (.caseMore [e]) h k2).bind fun es _ k3=>(rec .clauseBlock h k3).ax fun b _ k4=>.ok [nd 24 (yI ts k) (zp ts k).pos (es++[b])] 0 k4
 else if yb ts k [[100,101,102,97,117,108,116]]=true then (rec .clauseBlock h (k+1)).ax fun b _ k4=>.ok [nd 24 (yI ts k) (zp ts k).pos [b]] 0 k4
 else .bad (zp ts k).pos
def bY (acc:List Tree) (h:Bool) (k:Nat):R:=
 if yb ts k [[44]]=true then (rec .expr h (k+1)).ax fun e _ k2=>rec (.caseMore (acc++[e])) h k2 else .ok acc 0 k
def aX (h:Bool) (k:Nat):R:=want ts k [58] fun p k1=>(rec (.stmts []) h k1).bind fun l _ k2=>.ok [nd 16 [] p.pos l] 0 k2
def gZ (h:Bool) (k:Nat):R:=
 if yb ts k [[99,97,115,101]]=true then (rec .commHead h (k+1)).bind fun l s k2=>(rec .clauseBlock h k2).ax fun b _ k3=>.ok [nd 26 (if s=1 then [114,101,99,118] else [115,101,110,100]) (zp ts k).pos (l++[b])] 0 k3
 else if yb ts k [[100,101,102,97,117,108,116]]=true then (rec .clauseBlock h (k+1)).ax fun b _ k3=>.ok [nd 26 [100,101,102,97,117,108,116] (zp ts k).pos [b]] 0 k3
 else .bad (zp ts k).pos
def yl (h:Bool) (k:Nat):R:=
 if yb ts k [[60,45]]=true then (rec .unary h (k+1)).ax fun u _ k2=>.ok [u] 1 k2
 else (rec .primary h k).ax fun lead s k2=>if s=3∧yb ts k2 [[58,61]]=true then want ts (k2+1) [60,45] fun _ k3=>(rec .unary h k3).ax fun u _ k4=>.ok [nd 7 lead.text lead.pos [],u] 1 k4
  else want ts k2 [60,45] fun _ k3=>(rec .expr h k3).ax fun e _ k4=>.ok [lead,e] 2 k4
def fOp (least:Int) (h:Bool) (k:Nat):R:=(rec .unary h k).ax fun t _ k2=>rec (.opOf t least) h k2
def jy (left:Tree) (least:Int) (h:Bool) (k:Nat):R:=
 if least≤aF (yI ts k) then (rec (.op (aF (zp ts k).text+1)) h (k+1)).ax fun r _ k2=>rec (.opOf (nd 42 (zp ts k).text (zp ts k).pos [left,r]) least) h k2
 else .ok [left] 0 k
def iw (h:Bool) (k:Nat):R:=(rec .shaped h k).ax fun t _ k2=>.ok [t] 0 k2
def bW (h:Bool) (k:Nat):R:=
 if yb ts k [[45],[33],[60,45]]=true then (rec .unary h (k+1)).ax fun u _ k2=>.ok [nd 41 (zp ts k).text (zp ts k).pos [u]] (if (zp ts k).text=[60,45] then 1 else 0) k2
 else rec .primary h k
def dK (h:Bool) (k:Nat):R:=(rec .operand h k).ax fun n s k2=>rec (.primMore n s) h k2
def aQ (n:Tree) (s:Int) (h:Bool) (k:Nat):R:=
 if yb ts k [[40]]=true then (rec .args false (k+1)).bind fun l _ k2=>rec (.primMore (nd 43 [] (zp ts k).pos (n::l)) 5) h k2
 else if yb ts k [[91]]=true then (rec (.bracketed n (zp ts k).pos) h (k+1)).ax fun t s2 k2=>rec (.primMore t s2) h k2
 else if yb ts k [[46]]=true then bI ts (k+1) fun nm k2=>rec (.primMore (nd 47 nm.text (zp ts k).pos [n]) 4) h k2
 else .ok [n] s k
def fG (of:Tree) (pos:Int) (f t:Tree) (k:Nat):R:=want ts k [93] fun _ k2=>.ok [nd 46 [] pos [of,f,t]] 2 k2
def fA (of:Tree) (pos:Int) (f:Tree) (k:Nat):R:=
 want ts k [58] fun _ k2=>if yb ts k2 [[93]]=true then fG ts of pos f aB k2 else (rec .expr false k2).ax fun t _ k3=>fG ts of pos f t k3
def yH (of:Tree) (pos:Int) (_:Bool) (k:Nat):R:=
 if yb ts k [[58]]=true then fA ts rec of pos aB k
 else (rec .expr false k).ax fun f _ k2=>if yb ts k2 [[93]]=true then .ok [nd 45 [] pos [of,f]] 4 (k2+1) else fA ts rec of pos f k2
def bf (h:Bool) (k:Nat):R:=
 if (zp ts k).kind=2 then .ok [.mk 36 [] (zp ts k).num (zp ts k).pos []] 2 (k+1)
 else if (zp ts k).kind=3 then .ok [nd 37 (zp ts k).text (zp ts k).pos []] 2 (k+1)
 else if (zp ts k).kind=1 then .ok [nd 40 (zp ts k).text (zp ts k).pos []] 3 (k+1)
 else if (zp ts k).kind=4 then rec .wordOperand h k
 else (rec .markOperand h k).ax fun t _ k2=>.ok [t] 2 k2
def yC (h:Bool) (k:Nat):R:=
 if [[116,114,117,101],[102,97,108,115,101]].contains (zp ts k).text=true then .ok [nd 38 (zp ts k).text (zp ts k).pos []] 2 (k+1)
 else if (zp ts k).text=[110,105,108] then .ok [nd 39 [] (zp ts k).pos []] 2 (k+1)
 else if (zp ts k).text=[102,117,110,99] then (rec .function h (k+1)).bind fun l _ k2=>.ok [nd 48 [] (zp ts k).pos l] 2 k2
 else if (zp ts k).text=[109,97,107,101] then (rec (.builtin .makeArgs) h k).ax fun t _ k2=>.ok [t] 2 k2
 else if (zp ts k).text=[110,101,119] then (rec (.builtin .newArgs) h k).ax fun t _ k2=>.ok [t] 2 k2
 else if [[97,112,112,101,110,100],[99,97,112],[99,108,111,115,101],[108,101,110],[112,97,110,105,99],[112,114,105,110,116],[114,101,99,111,118,101,114]].contains (zp ts k).text=true then (rec (.builtin .args) h k).ax fun t _ k2=>.ok [t] 5 k2
 else .bad (zp ts k).pos
def aV (r:Job) (_:Bool) (k:Nat):R:=
 want ts (k+1) [40] fun _ k2=>(rec r false k2).bind fun l _ k3=>.ok [nd 44 (zp ts k).text (zp ts k).pos l] 0 k3
def bD (h:Bool) (k:Nat):R:=
 (rec .wtype h k).ax fun t _ k2=>if yb ts k2 [[44]]=true then (rec .expr h (k2+1)).ax fun e _ k3=>want ts k3 [41] fun _ k4=>.ok [t,e] 0 k4 else want ts k2 [41] fun _ k3=>.ok [t] 0 k3
def eU (_:Bool) (k:Nat):R:=bI ts k fun nm k2=>want ts k2 [41] fun _ k3=>.ok [nd 12 nm.text nm.pos []] 0 k3
def yG (h:Bool) (k:Nat):R:=
 if yb ts k [[40]]=true then (rec .expr false (k+1)).ax fun t _ k2=>want ts k2 [41] fun _ k3=>.ok [t] 0 k3
 else if h=false∧yb ts k [[38]]=true then bI ts (k+1) fun nm k2=>(rec (.braced .initial) h k2).bind fun l _ k3=>.ok [nd 49 nm.text (zp ts k).pos l] 0 k3
 else if h=false∧yb ts k [[91]]=true then want ts (k+1) [93] fun _ k2=>(rec .wtype h k2).ax fun i _ k3=>(rec (.braced .expr) h k3).bind fun l _ k4=>.ok [nd 50 [] (zp ts k).pos (i::l)] 0 k4
 else .bad (zp ts k).pos
def eP (it:It) (h:Bool) (k:Nat):R:=want ts k [123] fun _ k1=>rec (.bracedMore it []) h k1
def yk (it:It) (acc:List Tree) (h:Bool) (k:Nat):R:=
 if yb ts k [[125]]=true then .ok acc 0 (k+1)
 else (rec it.job h k).ax fun t _ k2=>if yb ts k2 [[44]]=true then rec (.bracedMore it (acc++[t])) h (k2+1) else want ts k2 [125] fun _ k3=>.ok (acc++[t]) 0 k3
def dR (h:Bool) (k:Nat):R:=bI ts k fun nm k2=>want ts k2 [58] fun _ k3=>(rec .expr h k3).ax fun e _ k4=>.ok [nd 5 nm.text nm.pos [e]] 0 k4
def fZ (h:Bool) (k:Nat):R:=
 if yI ts k=[116,121,112,101] then rec .typeDecl h k
 else if yI ts k=[118,97,114] then (rec (.named 3) h (k+1)).ax fun n _ k2=>.ok [nd 3 n.text (zp ts k).pos n.kids] 0 k2
 else if yI ts k=[102,117,110,99] then bI ts (k+1) fun nm k2=>(rec .function h k2).bind fun l _ k3=>.ok [nd 4 nm.text (zp ts k).pos l] 0 k3
 else .bad (zp ts k).pos
def dF (h:Bool) (k:Nat):R:=
 bI ts (k+1) fun nm k2=>want ts k2 [115,116,114,117,99,116] fun _ k3=>want ts k3 [123] fun _ k4=>(rec (.fieldsMore []) h k4).bind fun l _ k5=>.ok [nd 2 nm.text (zp ts k).pos l] 0 k5
def bn (acc:List Tree) (h:Bool) (k:Nat):R:=
 if yb ts k [[125]]=true then .ok acc 0 (k+1) else (rec (.named 5) h k).ax fun t _ k2=>want ts k2 [59] fun _ k3=>rec (.fieldsMore (acc++[t])) h k3
def bU (acc:List Tree) (h:Bool) (k:Nat):R:=
 if (zp ts k).kind=6 then .ok [nd 1 [] 0 acc] 0 k else (rec .decl h k).ax fun d _ k2=>want ts k2 [59] fun _ k3=>rec (.fileMore (acc++[d])) h k3
def step:Job→Bool→Nat→R
 | .wtype=>bK ts rec
 | .result=>fB ts rec
 | .named kd=>fH ts rec kd
 | .listed it=>bF ts rec it
 | .listMore it acc=>yo ts rec it acc
 | .function=>bJ ts rec
 | .block=>gW ts rec
 | .stmts acc=>gm ts rec acc
 | .stmt=>aP ts rec
 | .varStmt=>dn ts rec
 | .returnStmt=>bC ts rec
 | .callStmt kd=>dB ts rec kd
 | .labelled=>dD ts rec
 | .simple=>dN ts rec
 | .acting lead s=>yO ts rec lead s
 | .ifStmt=>cu ts rec
 | .breakable=>aN ts rec
 | .forStmt=>dQ ts rec
 | .forHead=>yY ts rec
 | .forLead=>aZ ts rec
 | .switchStmt=>yt ts rec
 | .selectStmt=>bP ts rec
 | .clauses c=>dJ ts rec c
 | .clausesMore c acc=>yu ts rec c acc
 | .clause=>dS ts rec
 | .caseMore acc=>bY ts rec acc
 | .clauseBlock=>aX ts rec
 | .comm=>gZ ts rec
 | .commHead=>yl ts rec
 | .expr=>rec (.op 1)
 | .op least=>fOp rec least
 | .opOf left least=>jy ts rec left least
 | .unary=>iw rec
 | .shaped=>bW ts rec
 | .primary=>dK rec
 | .primMore n s=>aQ ts rec n s
 | .args=>rec (.listed .expr)
 | .bracketed of pos=>yH ts rec of pos
 | .operand=>bf ts rec
 | .wordOperand=>yC ts rec
 | .builtin r=>aV ts rec r
 | .makeArgs=>bD ts rec
 | .newArgs=>eU ts
 | .markOperand=>yG ts rec
 | .braced it=>eP ts rec it
 | .bracedMore it acc=>yk ts rec it acc
 | .initial=>dR ts rec
 | .decl=>fZ ts rec
 | .typeDecl=>dF ts rec
 | .fieldsMore acc=>bn ts rec acc
 | .fileMore acc=>bU ts rec acc
end
def run (ts:List Tok):Nat→Job→Bool→Nat→R
 | 0=>fun _ _ _=>.out
 | n+1=>step ts (run ts n)
end Go.Proofs.YtgbjpnnockoomaaGreatDoor.Px
