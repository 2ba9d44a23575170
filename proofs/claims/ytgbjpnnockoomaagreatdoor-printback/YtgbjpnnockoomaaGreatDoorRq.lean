import Derived.Test.YtgbjpnnockoomaaGreatDoorRp9
import Derived.Test.YtgbjpnnockoomaaGreatDoorSteps
set_option linter.unusedVariables false
set_option linter.unusedSimpArgs false
namespace Go.Proofs.YtgbjpnnockoomaaGreatDoor.Px
open Lx Lx.Sp
section
variable {D : Int → List UInt8}
theorem sZ (f:Tree→List TC) {ts:List Tok} {h:Bool} : ∀ (l acc:List Tree) (k:Nat),(∀ t∈l,PEx (f t) t)→At ts k (iL (l.map f))→yI ts (k+(iL (l.map f)).length)=[58]→
 ∃ l',l'.map er=l.map er∧Ev ts (.caseMore acc) h k (.ok (acc++l') 0 (k+(iL (l.map f)).length))
 | [],acc,k,_,ha,hs=>by
   have h58:yI ts k=[58]:=hs
   exact ⟨[],rfl,Ev.of0 fun n=>by simp [step,bY,ak h58,iL]⟩
 | a::l,acc,k,hi,ha,hs=>by
   have hc:iL ((a::l).map f)=mw [44]::(f a++iL (l.map f)):=by simp [iL]
   rw [hc] at ha hs ⊢
   obtain ⟨h0,ha⟩:=ha
   rw [aU] at ha
   have h44:=(tm h0).2.2
   have hs':yI ts (k+1+(f a).length+(iL (l.map f)).length)=[58]:=by rw [←hs];congr 1;simp;omega
   have hst:nT ts (k+1+(f a).length):=by
    cases l with
    | nil=>exact bg (x:=[58]) hs' (by decide)
    | cons b l=>
      have ha2:=ha.2
      simp only [List.map_cons,iL,List.flatMap_cons,List.cons_append,At] at ha2
      exact bg (tm ha2.1).2.2 (by decide)
   obtain ⟨a',e1,v1⟩:=(hi a (by simp)).expr h ha.1 hst
   obtain ⟨l',e2,v2⟩:=sZ (h:=h) f l (acc++[a']) _ (fun t m=>hi t (by simp [m])) ha.2 hs'
   refine ⟨a'::l',by simp [e1,e2],Ev.of2 v1 v2 fun n w1 w2=>?_⟩
   simp only [step,bY,ak h44]
   rw [if_pos (by decide),w1]
   simp only [R.ax,w2]
   exact okE (by simp) (by simp;omega)
def XCb (D:Int→List UInt8) (t:Tree):Prop:=∃ p l,t=nd 16 [] p l∧∀ s∈l,XS D s
theorem tq {b:Tree} (h:XCb D b) {n:Nat} (hn:nee .clauseStmts b<n):RCx (tk D n .clauseStmts b) b∧∃ r,tk D n .clauseStmts b=mw [58]::r:=by
 obtain ⟨p,l,rfl,hl⟩:=h
 refine ⟨cb_parse hl hn, ?_⟩
 obtain ⟨m,rfl⟩:=aH hn
 exact ⟨_,rfl⟩
theorem part_end (kd:Int) (x:List UInt8) (p:Int) (l:List Tree) (r:Tree):(nd kd x p (l++[r])).kids.take ((nd kd x p (l++[r])).kids.length-1)=l:=by simp [nd,Tree.kids]
theorem XC_case {p:Int} {e:Tree} {es:List Tree} {b:Tree} (he:XE D e) (hes:∀ t∈es,XE D t) (hb:XCb D b):XC D (nd 24 [99,97,115,101] p ((e::es)++[b])):=by
 intro n hn
 obtain ⟨m,rfl⟩:=aH hn
 have hm:∀ j',∀ t∈(e::es)++[b],nee j' t<m:=fun j' t mt=>aC (by decide) hn (by omega) mt
 have htk:tk D (m+1) .clause (nd 24 [99,97,115,101] p ((e::es)++[b]))=nw [99,97,115,101]::(tk D m .expr e++(iL (es.map (tk D m .expr))++tk D m .clauseStmts b)):=by
  have e1:=mg 24 [99,97,115,101] p (e::es) b
  have e2:=part_end 24 [99,97,115,101] p (e::es) b
  simp only [tk,tkS]
  rw [e1,e2]
  simp [nd,Tree.kind,Tree.text,oN]
 rw [htk]
 refine ⟨fun ts k ha=>.inl (tw ha.1 (by decide)).2.2,fun ts k hh ha hs=>?_⟩
 obtain ⟨h0,ha⟩:=ha
 obtain ⟨q1,q2,q3⟩:=tw h0 (by decide)
 rw [aU,aU] at ha
 obtain ⟨ha1,ha2,ha3⟩:=ha
 obtain ⟨hB,br,hbr⟩:=tq hb (hm .clauseStmts b (by simp))
 have h58:yI ts (k+1+(tk D m .expr e).length+(iL (es.map (tk D m .expr))).length)=[58]:=by
  have h:=ha3
  rw [hbr] at h
  exact (tm h.1).2.2
 have hst:nT ts (k+1+(tk D m .expr e).length):=by
  cases es with
  | nil=>exact bg (x:=[58]) h58 (by decide)
  | cons c l=>
    simp only [List.map_cons,iL,List.flatMap_cons,List.cons_append,At] at ha2
    exact bg (tm ha2.1).2.2 (by decide)
 obtain ⟨e',e1,v1⟩:=(he m (hm _ e (by simp))).expr hh ha1 hst
 obtain ⟨es',e2,v2⟩:=sZ (h:=hh) (tk D m .expr) es [e'] _ (fun t mt=>hes t mt m (hm _ t (by simp [mt]))) ha2 h58
 obtain ⟨b',e3,v3⟩:=hB ts _ hh ha3 (by
  have:k+(nw [99,97,115,101]::(tk D m .expr e++(iL (es.map (tk D m .expr))++tk D m .clauseStmts b))).length=k+1+(tk D m .expr e).length+(iL (es.map (tk D m .expr))).length+(tk D m .clauseStmts b).length:=by simp;omega
  rw [←this];exact hs)
 refine ⟨nd 24 [99,97,115,101] (zp ts k).pos (([e']++es')++[b']),by rw [ay,ay];simp [e1,e2,e3],Ev.of3 v1 v2 v3 fun n w1 w2 w3=>?_⟩
 simp only [step,dS,ak q3]
 rw [if_pos (by decide),w1]
 simp only [R.ax,w2,R.bind,w3,q3]
 exact okE rfl (by simp;omega)
theorem XC_default {p:Int} {b:Tree} (hb:XCb D b):XC D (nd 24 [100,101,102,97,117,108,116] p [b]):=by
 intro n hn
 obtain ⟨m,rfl⟩:=aH hn
 have hm:∀ j',∀ t∈[b],nee j' t<m:=fun j' t mt=>aC (by decide) hn (by omega) mt
 rw [show tk D (m+1) .clause (nd 24 [100,101,102,97,117,108,116] p [b])=nw [100,101,102,97,117,108,116]::tk D m .clauseStmts b from rfl]
 refine ⟨fun ts k ha=>.inr (tw ha.1 (by decide)).2.2,fun ts k hh ha hs=>?_⟩
 obtain ⟨q1,q2,q3⟩:=tw ha.1 (by decide)
 obtain ⟨hB,_⟩:=tq hb (hm .clauseStmts b (by simp))
 obtain ⟨b',e3,v3⟩:=hB ts (k+1) hh ha.2 (by
  have:k+(nw [100,101,102,97,117,108,116]::tk D m .clauseStmts b).length=k+1+(tk D m .clauseStmts b).length:=by simp;omega
  rw [←this];exact hs)
 refine ⟨nd 24 [100,101,102,97,117,108,116] (zp ts k).pos [b'],by rw [ay,ay];simp [e3],Ev.of1 v3 fun n w=>?_⟩
 simp only [step,dS,ak q3]
 rw [if_neg (by decide),if_pos (by decide),w]
 simp only [R.ax,q3]
 exact okE rfl (by simp;omega)
theorem uG {ts:List Tok} {k k2 k3:Nat} {hh:Bool} {l:List Tree} {s:Int} {b:Tree} (h0:yI ts k=[99,97,115,101]) (v1:Ev ts .commHead hh (k+1) (.ok l s k2)) (v2:Ev ts .clauseBlock hh k2 (.ok [b] 0 k3)):Ev ts .comm hh k (.ok [nd 26 (if s=1 then [114,101,99,118] else [115,101,110,100]) (zp ts k).pos (l++[b])] 0 k3):=Ev.of2 v1 v2 fun n w1 w2=>by
 simp only [step,gZ,ak h0]
 rw [if_pos (by decide),w1]
 simp only [R.bind,w2,R.ax]
theorem XO_recv {p:Int} {u b:Tree} (hu:XE D u) (hk:u.kind≠7) (hb:XCb D b):XO D (nd 26 [114,101,99,118] p [u,b]):=by
 intro n hn
 obtain ⟨m,rfl⟩:∃ m,n=m+2:=⟨n-2,by simp [nee,aJ,rnk] at hn;omega⟩
 have hm:∀ j',∀ t∈[u,b],nee j' t<m:=fun j' t mt=>aC (by decide) hn (by omega) mt
 have htk:tk D (m+2) .comm (nd 26 [114,101,99,118] p [u,b])=nw [99,97,115,101]::mw [60,45]::(tk D m .expr u++tk D m .clauseStmts b):=by
  show (if u.kind=7 then nw [99,97,115,101]::nw u.text::mw [58,61]::mw [60,45]::tk D m .expr b++tk D m .clauseStmts (yM (nd 26 [114,101,99,118] p [u,b]) 2) else nw [99,97,115,101]::mw [60,45]::tk D m .expr u++tk D m .clauseStmts b)=_
  rw [if_neg hk];rfl
 rw [htk]
 refine ⟨fun ts k ha=>.inl (tw ha.1 (by decide)).2.2,fun ts k hh ha hs=>?_⟩
 obtain ⟨h0,h1,ha⟩:=ha
 obtain ⟨q1,q2,q3⟩:=tw h0 (by decide)
 have h60:=(tm h1).2.2
 rw [aU] at ha
 obtain ⟨hB,br,hbr⟩:=tq hb (hm .clauseStmts b (by simp))
 have h58:yI ts (k+1+1+(tk D m .expr u).length)=[58]:=by
  have h:=ha.2
  rw [hbr] at h
  exact (tm h.1).2.2
 obtain ⟨u',e1,_,_,v1⟩:=(hu m (hm _ u (by simp))).un hh ha.1 (bg h58 (by decide)).1
 have v2:Ev ts .commHead hh (k+1) (.ok [u'] 1 (k+1+1+(tk D m .expr u).length)):=Ev.of1 v1 fun n w=>by simp [step,yl,ak h60,w,R.ax]
 obtain ⟨b',e3,v3⟩:=hB ts _ hh ha.2 (by
  have:k+(nw [99,97,115,101]::mw [60,45]::(tk D m .expr u++tk D m .clauseStmts b)).length=k+1+1+(tk D m .expr u).length+(tk D m .clauseStmts b).length:=by simp;omega
  rw [←this];exact hs)
 have v4:=uG q3 v2 v3
 refine ⟨nd 26 [114,101,99,118] (zp ts k).pos ([u']++[b']),by rw [ay,ay];simp [e1,e3], ?_⟩
 rw [show k+(nw [99,97,115,101]::mw [60,45]::(tk D m .expr u++tk D m .clauseStmts b)).length=k+1+1+(tk D m .expr u).length+(tk D m .clauseStmts b).length by simp;omega]
 exact v4
theorem XO_recv2 {p p2:Int} {x:List UInt8} {u b:Tree} (hx:eu x=false) (hu:XE D u) (hb:XCb D b):XO D (nd 26 [114,101,99,118] p [nd 7 x p2 [],u,b]):=by
 intro n hn
 obtain ⟨m,rfl⟩:∃ m,n=m+2:=⟨n-2,by simp [nee,aJ,rnk] at hn;omega⟩
 have hm:∀ j',∀ t∈[nd 7 x p2 [],u,b],nee j' t<m:=fun j' t mt=>aC (by decide) hn (by omega) mt
 have htk:tk D (m+2) .comm (nd 26 [114,101,99,118] p [nd 7 x p2 [],u,b])=nw [99,97,115,101]::nw x::mw [58,61]::mw [60,45]::(tk D m .expr u++tk D m .clauseStmts b):=rfl
 rw [htk]
 refine ⟨fun ts k ha=>.inl (tw ha.1 (by decide)).2.2,fun ts k hh ha hs=>?_⟩
 obtain ⟨h0,h1,h2,h3,ha⟩:=ha
 obtain ⟨q1,q2,q3⟩:=tw h0 (by decide)
 have h61:=(tm h2).2.2
 have h60:=(tm h3).2.2
 rw [aU] at ha
 obtain ⟨hB,br,hbr⟩:=tq hb (hm .clauseStmts b (by simp))
 have h58:yI ts (k+1+1+1+1+(tk D m .expr u).length)=[58]:=by
  have h:=ha.2
  rw [hbr] at h
  exact (tm h.1).2.2
 have hX:PEx [nw x] (nd 40 x 0 []):=XE_40 (D:=D) (p:=0) hx 20 (by simp [nee,aJ,rnk])
 obtain ⟨a',ea,v0,_,_⟩:=hX.un (ts:=ts) (k:=k+1) hh ⟨h1,trivial⟩ (by refine ⟨?_, ?_, ?_⟩ <;> rw [show k+1 + [nw x].length=k+1+1 from rfl,ak h61] <;> decide)
 have hat:a'.text=x:=by
  have:(er a').text=(er (nd 40 x 0 [])).text:=by rw [ea]
  rw [ay] at this
  cases a';rw [iZ] at this;exact this
 have hn:=hX.1.no (ts:=ts) (k:=k+1) ⟨h1,trivial⟩ (l:=[[60,45]]) (by decide) (by decide)
 obtain ⟨u',e1,_,_,v1⟩:=(hu m (hm _ u (by simp))).un hh ha.1 (bg h58 (by decide)).1
 have v2:Ev ts .commHead hh (k+1) (.ok [nd 7 x a'.pos [],u'] 1 (k+1+1+1+1+(tk D m .expr u).length)):=Ev.of2 v0 v1 fun n w0 w1=>by
  have w0':run ts n .primary hh (k+1)=.ok [a'] 3 (k+1+1):=w0
  simp [step,yl,hn,w0',R.ax,ak h61,want,ak h60,w1,hat]
 obtain ⟨b',e3,v3⟩:=hB ts _ hh ha.2 (by
  have:k+(nw [99,97,115,101]::nw x::mw [58,61]::mw [60,45]::(tk D m .expr u++tk D m .clauseStmts b)).length=k+1+1+1+1+(tk D m .expr u).length+(tk D m .clauseStmts b).length:=by simp;omega
  rw [←this];exact hs)
 have v4:=uG q3 v2 v3
 refine ⟨nd 26 [114,101,99,118] (zp ts k).pos ([nd 7 x a'.pos [],u']++[b']),by rw [ay,ay];simp [ay,e1,e3], ?_⟩
 rw [show k+(nw [99,97,115,101]::nw x::mw [58,61]::mw [60,45]::(tk D m .expr u++tk D m .clauseStmts b)).length=k+1+1+1+1+(tk D m .expr u).length+(tk D m .clauseStmts b).length by simp;omega]
 exact v4
theorem XO_send {p:Int} {a e b:Tree} (ha:XE D a) (he:XE D e) (hb:XCb D b):XO D (nd 26 [115,101,110,100] p [a,e,b]):=by
 intro n hn
 obtain ⟨m,rfl⟩:∃ m,n=m+2:=⟨n-2,by simp [nee,aJ,rnk] at hn;omega⟩
 have hm:∀ j',∀ t∈[a,e,b],nee j' t<m:=fun j' t mt=>aC (by decide) hn (by omega) mt
 have htk:tk D (m+2) .comm (nd 26 [115,101,110,100] p [a,e,b])=nw [99,97,115,101]::(tk D m .expr a++mw [60,45]::(tk D m .expr e++tk D (m+1) .clauseStmts b)):=by
  show (nw [99,97,115,101]::(tk D m .expr a++(mw [60,45]::tk D m .expr e)))++tk D (m+1) .clauseStmts b=_
  simp
 rw [htk]
 refine ⟨fun ts k ha=>.inl (tw ha.1 (by decide)).2.2,fun ts k hh hA hs=>?_⟩
 obtain ⟨h0,hA⟩:=hA
 obtain ⟨q1,q2,q3⟩:=tw h0 (by decide)
 rw [aU] at hA
 obtain ⟨hA1,h1,hA2⟩:=hA
 have h60:=(tm h1).2.2
 rw [aU] at hA2
 obtain ⟨hB,br,hbr⟩:=tq (n:=m+1) hb (by have:=hm .clauseStmts b (by simp);omega)
 have h58:yI ts (k+1+(tk D m .expr a).length+1+(tk D m .expr e).length)=[58]:=by
  have h:=hA2.2
  rw [hbr] at h
  exact (tm h.1).2.2
 have hX:=ha m (hm _ a (by simp))
 obtain ⟨a',ea,v0,_,_⟩:=hX.un hh hA1 (bg h60 (by decide)).1
 have hn:=hX.1.no hA1 (l:=[[60,45]]) (by decide) (by decide)
 obtain ⟨e',e1,v1⟩:=(he m (hm _ e (by simp))).expr hh hA2.1 (bg h58 (by decide))
 have v2:Ev ts .commHead hh (k+1) (.ok [a',e'] 2 (k+1+(tk D m .expr a).length+1+(tk D m .expr e).length)):=Ev.of2 v0 v1 fun n w0 w1=>by
  simp [step,yl,hn,w0,R.ax,ak h60,want,w1]
 obtain ⟨b',e3,v3⟩:=hB ts _ hh hA2.2 (by
  have:k+(nw [99,97,115,101]::(tk D m .expr a++mw [60,45]::(tk D m .expr e++tk D (m+1) .clauseStmts b))).length=k+1+(tk D m .expr a).length+1+(tk D m .expr e).length+(tk D (m+1) .clauseStmts b).length:=by simp;omega
  rw [←this];exact hs)
 have v4:=uG q3 v2 v3
 refine ⟨nd 26 [115,101,110,100] (zp ts k).pos ([a',e']++[b']),by rw [ay,ay];simp [ea,e1,e3], ?_⟩
 rw [show k+(nw [99,97,115,101]::(tk D m .expr a++mw [60,45]::(tk D m .expr e++tk D (m+1) .clauseStmts b))).length=k+1+(tk D m .expr a).length+1+(tk D m .expr e).length+(tk D (m+1) .clauseStmts b).length by simp;omega]
 exact v4
theorem XO_default {p:Int} {b:Tree} (hb:XCb D b):XO D (nd 26 [100,101,102,97,117,108,116] p [b]):=by
 intro n hn
 obtain ⟨m,rfl⟩:=aH hn
 have hm:∀ j',∀ t∈[b],nee j' t<m:=fun j' t mt=>aC (by decide) hn (by omega) mt
 rw [show tk D (m+1) .comm (nd 26 [100,101,102,97,117,108,116] p [b])=nw [100,101,102,97,117,108,116]::tk D m .clauseStmts b from rfl]
 refine ⟨fun ts k ha=>.inr (tw ha.1 (by decide)).2.2,fun ts k hh ha hs=>?_⟩
 obtain ⟨q1,q2,q3⟩:=tw ha.1 (by decide)
 obtain ⟨hB,_⟩:=tq hb (hm .clauseStmts b (by simp))
 obtain ⟨b',e3,v3⟩:=hB ts (k+1) hh ha.2 (by
  have:k+(nw [100,101,102,97,117,108,116]::tk D m .clauseStmts b).length=k+1+(tk D m .clauseStmts b).length:=by simp;omega
  rw [←this];exact hs)
 refine ⟨nd 26 [100,101,102,97,117,108,116] (zp ts k).pos [b'],by rw [ay,ay];simp [e3],Ev.of1 v3 fun n w=>?_⟩
 simp only [step,gZ,ak q3]
 rw [if_neg (by decide),if_pos (by decide),w]
 simp only [R.ax]
 exact okE rfl (by simp;omega)
def RDx (T:List TC) (t:Tree):Prop:=(∀ ts k,At ts k T→(zp ts k).kind=4)∧∀ ts k h,At ts k T→yI ts (k+T.length)=[59]→∃ t',er t'=er t∧Ev ts .decl h k (.ok [t'] 0 (k+T.length))
def XD (D:Int→List UInt8) (t:Tree):Prop:=∀ n,nee .decl t<n→RDx (tk D n .decl t) t
theorem oV {ts:List Tok} {h:Bool} {m:Nat} : ∀ (l acc:List Tree) (k:Nat),(∀ t∈l,XN D 5 t)→(∀ t∈l,nee .file t<m)→At ts k (dW (tk D (m+2) .field) l++[mw [125]])→
 ∃ l',l'.map er=l.map er∧Ev ts (.fieldsMore acc) h k (.ok (acc++l') 0 (k+(dW (tk D (m+2) .field) l).length+1))
 | [],acc,k,_,_,ha=>by
   have h125:=(tm ha.1).2.2
   exact ⟨[],rfl,Ev.of0 fun n=>by simp [step,bn,ak h125,dW]⟩
 | a::l,acc,k,hi,hm,ha=>by
   obtain ⟨x,p2,y,rfl,hx,hy⟩:=hi a (by simp)
   have hl:dW (tk D (m+2) .field) (nd 5 x p2 [y]::l)=(nw x::tk D m .wtype y)++sm::dW (tk D (m+2) .field) l:=by
    show ((nw x::tk D m .wtype y)++[sm])++dW (tk D (m+2) .field) l=_
    simp
   rw [hl,List.append_assoc,aU] at ha
   have h59:=(tsm ha.2.1).2.2
   have hmy:nee .wtype y<m:=by
    have:=hm _ (List.mem_cons_self ..)
    simp [nee,aJ,rnk] at this ⊢
    omega
   have hp:k+(nw x::tk D m .wtype y).length=k+1+(tk D m .wtype y).length:=by simp;omega
   rw [hp] at h59 ha
   obtain ⟨y',e1,v1⟩:=jM (kd:=5) hx (hy m hmy) h ha.1 (by unfold jc;rw [ak h59];decide)
   obtain ⟨l',e2,v2⟩:=oV (h:=h) (m:=m) l (acc++[nd 5 x (zp ts k).pos [y']]) _ (fun t mt=>hi t (by simp [mt])) (fun t mt=>hm t (by simp [mt])) ha.2.2
   have hn:yb ts k [[125]]=false:=by rw [ak (tn ha.1.1 hx).2.2];rfl
   refine ⟨nd 5 x (zp ts k).pos [y']::l',by simp [ay,e1,e2],Ev.of2 v1 v2 fun n w1 w2=>?_⟩
   simp only [step,bn,hn,Bool.false_eq_true,if_false,w1,R.ax,want,ak h59]
   rw [if_pos (by decide),w2]
   exact okE (by simp) (by rw [hl,List.length_append,List.length_cons,List.length_cons];omega)
theorem XD_2 {p:Int} {x:List UInt8} {l:List Tree} (hx:eu x=false) (hl:∀ t∈l,XN D 5 t):XD D (nd 2 x p l):=by
 intro n hn
 obtain ⟨m,rfl⟩:∃ m,n=m+3:=⟨n-3,by simp [nee,aJ,rnk] at hn;omega⟩
 have hm:∀ t∈l,nee .file t<m:=fun t mt=>aC (n:=m) (c:=3) (by decide) hn (by omega) mt
 rw [show tk D (m+3) .decl (nd 2 x p l)=nw [116,121,112,101]::nw x::nw [115,116,114,117,99,116]::mw [123]::(dW (tk D (m+2) .field) l++[mw [125]]) from rfl]
 refine ⟨fun ts k ha=>(tw ha.1 (by decide)).1,fun ts k hh ha hs=>?_⟩
 obtain ⟨h0,h1,h2,h3,ha⟩:=ha
 obtain ⟨q1,q2,q3⟩:=tw h0 (by decide)
 obtain ⟨r1,r2,r3⟩:=tn h1 hx
 have hst:=(tw h2 (by decide)).2.2
 have h123:=(tm h3).2.2
 obtain ⟨l',e1,v1⟩:=oV (h:=hh) l [] _ hl hm ha
 have v2:Ev ts .typeDecl hh k (.ok [nd 2 x (zp ts k).pos l'] 0 (k+1+1+1+1+(dW (tk D (m+2) .field) l).length+1)):=Ev.of1 v1 fun n w=>by
  simp [step,dF,bI,r1,r2,want,ak hst,ak h123,w,R.bind]
 refine ⟨nd 2 x (zp ts k).pos l',by rw [ay,ay,e1],Ev.of1 v2 fun n w=>?_⟩
 simp only [step,fZ,q3,if_true,w]
 exact okE rfl (by simp;omega)
theorem XD_3 {p:Int} {x:List UInt8} {y:Tree} (hx:eu x=false) (hy:XT D y):XD D (nd 3 x p [y]):=by
 intro n hn
 obtain ⟨m,rfl⟩:∃ m,n=m+2:=⟨n-2,by simp [nee,aJ,rnk] at hn;omega⟩
 have hm:nee .wtype y<m:=aC (by decide) hn (by omega) (by simp)
 rw [show tk D (m+2) .decl (nd 3 x p [y])=nw [118,97,114]::nw x::tk D m .wtype y from rfl]
 refine ⟨fun ts k ha=>(tw ha.1 (by decide)).1,fun ts k hh ha hs=>?_⟩
 obtain ⟨q1,q2,q3⟩:=tw ha.1 (by decide)
 have hp:k+(nw [118,97,114]::nw x::tk D m .wtype y).length=k+1+1+(tk D m .wtype y).length:=by simp;omega
 rw [hp] at hs ⊢
 obtain ⟨y',e1,v1⟩:=jM (kd:=3) hx (hy m hm) hh ha.2 (by unfold jc;rw [ak hs];decide)
 refine ⟨nd 3 x (zp ts k).pos [y'],by rw [ay,ay];simp [e1],Ev.of1 v1 fun n w=>?_⟩
 simp [step,fZ,q3,w,R.ax,nd,Tree.text,Tree.kids]
theorem XD_4 {p:Int} {x:List UInt8} {l:List Tree} (hx:eu x=false) (hl:XFn D l):XD D (nd 4 x p l):=by
 intro n hn
 obtain ⟨m,rfl⟩:=aH hn
 have hm:nee .function (nd 4 x p l)<m:=by simp only [nee,rnk] at hn ⊢;omega
 rw [show tk D (m+1) .decl (nd 4 x p l)=nw [102,117,110,99]::nw x::tk D m .function (nd 4 x p l) from rfl]
 refine ⟨fun ts k ha=>(tw ha.1 (by decide)).1,fun ts k hh ha hs=>?_⟩
 obtain ⟨q1,q2,q3⟩:=tw ha.1 (by decide)
 obtain ⟨r1,r2,r3⟩:=tn ha.2.1 hx
 obtain ⟨l',e,v⟩:=fn_parse (by decide) hl hm ts _ hh ha.2.2
 refine ⟨nd 4 x (zp ts k).pos l',by rw [ay,ay,e],Ev.of1 v fun n w=>?_⟩
 simp only [step,fZ,q3,bI,r1,r2]
 rw [if_neg (by decide),if_neg (by decide),if_pos trivial,if_pos trivial,w]
 simp only [R.bind]
 exact okE rfl (by simp;omega)
theorem qA (f:Tree→List TC) {ts:List Tok} {h:Bool} : ∀ (l acc:List Tree) (k:Nat),(∀ t∈l,RDx (f t) t)→At ts k (dW f l)→(zp ts (k+(dW f l).length)).kind=6→
 ∃ l',l'.map er=l.map er∧Ev ts (.fileMore acc) h k (.ok [nd 1 [] 0 (acc++l')] 0 (k+(dW f l).length))
 | [],acc,k,_,ha,hk=>by
   have hk':(zp ts k).kind=6:=hk
   exact ⟨[],rfl,Ev.of0 fun n=>by simp [step,bU,hk',dW]⟩
 | a::l,acc,k,hi,ha,hk=>by
   have hl:dW f (a::l)=f a++(sm::dW f l):=by simp [dW]
   rw [hl] at ha hk ⊢
   rw [aU] at ha
   have h59:=(tsm ha.2.1).2.2
   have hA:=hi a (by simp)
   obtain ⟨a',e1,v1⟩:=hA.2 ts k h ha.1 h59
   obtain ⟨l',e3,v2⟩:=qA (h:=h) f l (acc++[a']) (k+(f a).length+1) (fun t m=>hi t (by simp [m])) ha.2.2 (by rw [←hk];congr 2;simp;omega)
   have h4:¬(zp ts k).kind=6:=by
    by_cases hf:f a=[]
    ·have:=hA.1
     rw [hf] at this
     have:=this ts k trivial
     omega
    ·rw [hA.1 ts k ha.1];decide
   refine ⟨a'::l',by simp [e1,e3],Ev.of2 v1 v2 fun n w1 w2=>?_⟩
   simp only [step,bU,h4,if_false,w1,R.ax,want,ak h59]
   rw [if_pos (by decide),w2]
   exact okE (by simp) (by simp;omega)
end
open Lx Lx.Sp
section
variable (D : Int → List UInt8)
def EX (t:Tree):Prop:=XE D t∧t.kind≠8∧t.kind≠7
def TY (t:Tree):Prop:=XT D t∧t.kind≠8
def smK (t:Tree):Prop:=t.kind=17∨t.kind=19∨t.kind=20∨t.kind=33∨t.kind=34
def SM (t:Tree):Prop:=XM D t∧smK t
def ON (t:Tree):Prop:=t=aB∨EX D t
def SH (t:Tree) (s:Int):Prop:=(s=3→∃ x p,t=nd 40 x p []∧eu x=false)∧(s=4→shp t=4)∧(s=5→shp t=5)∧(s=1→∃ p a,t=nd 41 [60,45] p [a]∧EX D a)
def aT (P:Tree→Prop):List Tree→Prop
 | [t]=>P t
 | _=>False
def Al (P:Tree→Prop) (l:List Tree):Prop:=∀ t∈l,P t
def itP:It→Tree→Prop
 | .named=>XN D 7 | .wtype=>TY D | .expr=>EX D | .initial=>XI D
def AR:Job→List Tree→Prop
 | .makeArgs,a=>(∃ t,a=[t]∧TY D t)∨(∃ t e,a=[t,e]∧TY D t∧EX D e)
 | .newArgs,a=>∃ y p,a=[nd 12 y p []]∧eu y=false
 | .args,a=>Al (EX D) a
 | _,_=>False
def RJ (ts:List Tok) (j:Job) (k:Nat) (l:List Tree) (s:Int):Prop:=match j with
 | .wtype=>aT (TY D) l
 | .result=>aT (fun t=>t=aB∨TY D t) l
 | .named kd=>aT (XN D kd) l
 | .listed it=>Al (itP D it) l | .listMore it _=>Al (itP D it) l | .braced it=>Al (itP D it) l | .bracedMore it _=>Al (itP D it) l
 | .function=>XFn D l
 | .block=>aT (XCb D) l | .clauseBlock=>aT (XCb D) l
 | .stmts _=>Al (XS D) l
 | .stmt=>aT (XS D) l | .varStmt=>aT (XS D) l | .returnStmt=>aT (XS D) l | .callStmt _=>aT (XS D) l | .labelled=>aT (XS D) l
 | .simple=>aT (SM D) l
 | .acting _ _=>s=1→aT (SM D) l
 | .ifStmt=>aT (fun t=>XIf D t∧t.kind=21) l
 | .breakable=>aT (XK D) l | .forStmt=>aT (XK D) l | .switchStmt=>aT (XK D) l | .selectStmt=>aT (XK D) l
 | .forHead=>∃ a c b,l=[a,c,b]∧(a=aB∨SM D a)∧ON D c∧(b=aB∨SM D b)
 | .forLead=>aT (fun t=>(s=1→SM D t)∧(s≠1→EX D t)) l
 | .clauses c=>Al (if c=true then XO D else XC D) l | .clausesMore c _=>Al (if c=true then XO D else XC D) l
 | .clause=>aT (XC D) l | .comm=>aT (XO D) l
 | .caseMore acc=>(∃ r,l=acc++r)∧Al (EX D) l
 | .commHead=>(s=1∧((∃ u,l=[u]∧EX D u)∨∃ x p u,l=[nd 7 x p [],u]∧eu x=false∧EX D u))∨(s=2∧∃ a e,l=[a,e]∧EX D a∧EX D e)
 | .expr=>aT (EX D) l | .op _=>aT (EX D) l | .opOf _ _=>aT (EX D) l | .unary=>aT (EX D) l | .markOperand=>aT (EX D) l
 | .shaped=>aT (fun t=>EX D t∧SH D t s) l | .primary=>aT (fun t=>EX D t∧SH D t s∧s≠1) l | .primMore _ _=>aT (fun t=>EX D t∧SH D t s∧s≠1) l | .operand=>aT (fun t=>EX D t∧SH D t s∧s≠1) l | .bracketed _ _=>aT (fun t=>EX D t∧SH D t s∧s≠1) l | .wordOperand=>aT (fun t=>EX D t∧SH D t s∧s≠1) l
 | .args=>Al (EX D) l | .makeArgs=>AR D .makeArgs l | .newArgs=>AR D .newArgs l
 | .builtin r=>∃ p a,l=[nd 44 (zp ts k).text p a]∧AR D r a
 | .initial=>aT (XI D) l
 | .decl=>aT (XD D) l | .typeDecl=>aT (XD D) l
 | .fieldsMore _=>Al (XN D 5) l
 | .fileMore _=>∃ l0,l=[nd 1 [] 0 l0]∧Al (XD D) l0
def KX (ts:List Tok) (j:Job) (k:Nat):Prop:=match j with
 | .listMore it acc=>Al (itP D it) acc | .bracedMore it acc=>Al (itP D it) acc
 | .stmts acc=>Al (XS D) acc | .acting t s=>EX D t∧SH D t s | .clausesMore c acc=>Al (if c=true then XO D else XC D) acc | .caseMore acc=>Al (EX D) acc
 | .opOf t least=>EX D t∧1≤least | .op least=>1≤least | .primMore t s=>EX D t∧SH D t s∧s≠1 | .bracketed t _=>EX D t
 | .fieldsMore acc=>Al (XN D 5) acc | .fileMore acc=>Al (XD D) acc
 | .labelled=>(zp ts k).kind=1 | .callStmt kd=>kd=31∨kd=32
 | .builtin r=>r=.makeArgs∨r=.newArgs∨r=.args
 | _=>True
variable {D}
theorem SH2 (t:Tree):SH D t 2:=⟨fun h=>by omega,fun h=>by omega,fun h=>by omega,fun h=>by omega⟩
theorem SH0 (t:Tree):SH D t 0:=⟨fun h=>by omega,fun h=>by omega,fun h=>by omega,fun h=>by omega⟩
theorem SH4 {t:Tree} (h:shp t=4):SH D t 4:=⟨fun h=>by omega,fun _=>h,fun h=>by omega,fun h=>by omega⟩
theorem SH5 {t:Tree} (h:shp t=5):SH D t 5:=⟨fun h=>by omega,fun h=>by omega,fun _=>h,fun h=>by omega⟩
theorem iF (P:Tree→Prop):Al P []:=fun t m=>by cases m
theorem aK {P:Tree→Prop} {l:List Tree} {t:Tree} (h:Al P l) (ht:P t):Al P (l++[t]):=fun s m=>by
 rcases List.mem_append.1 m with m | m
 ·exact h s m
 ·simp only [List.mem_singleton] at m;subst m;exact ht
theorem jO {P:Tree→Prop} {t:Tree} (ht:P t):Al P [t]:=fun s m=>by simp only [List.mem_singleton] at m;subst m;exact ht
theorem qM {t:Tree} (h:ON D t):t=aB∨(XE D t∧t.kind≠8):=h.imp id fun h=>⟨h.1,h.2.1⟩
theorem jd {t:Tree} (h:XCb D t):XB D t∧t.kind=16:=by
 obtain ⟨p,l,rfl,hl⟩:=h
 exact ⟨XB_16 hl,rfl⟩
theorem dI {kd:Int} {x:List UInt8} {p:Int} {l:List Tree} (h:XE D (nd kd x p l)) (h1:kd≠8∧kd≠7):EX D (nd kd x p l):=⟨h,h1.1,h1.2⟩
theorem jG {kd:Int} {x:List UInt8} {p:Int} {l:List Tree} (h:XT D (nd kd x p l)) (h1:kd≠8):TY D (nd kd x p l):=⟨h,h1⟩
theorem ty15 {p:Int} {l:List Tree} {r:Tree} (hl:Al (TY D) l) (hr:r=aB∨TY D r):TY D (nd 15 [] p (l++[r])):=jG (XT_15 (fun t m=>(hl t m).1) hr) (by decide)
theorem ex41 {x:List UInt8} {p:Int} {a:Tree} (hx:x=[45]∨x=[33]∨x=[60,45]) (h:EX D a):EX D (nd 41 x p [a]):=dI (XE_41 hx h.1) (by decide)
theorem ex42 {x:List UInt8} {p:Int} {a b:Tree} (hx:1≤aF x) (ha:EX D a) (hb:EX D b):EX D (nd 42 x p [a,b]):=dI (XE_42 hx ha.1 hb.1) (by decide)
theorem ex46 {p:Int} {a b c:Tree} (ha:EX D a) (hb:ON D b) (hc:ON D c):EX D (nd 46 [] p [a,b,c]):=dI (XE_46 ha.1 (qM hb) (qM hc)) (by decide)
theorem jR {ts:List Tok} {k:Nat} {l:List (List UInt8)} (h:yb ts k l=true):((zp ts k).kind=4∨(zp ts k).kind=5)∧(zp ts k).text∈l∧yI ts k=(zp ts k).text:=by
 have hk:(zp ts k).kind=4∨(zp ts k).kind=5:=by
  apply Decidable.byContradiction
  intro hn
  simp [yb,yI,hn] at h
 have hs:yI ts k=(zp ts k).text:=by unfold yI;rw [if_pos hk]
 refine ⟨hk, ?_,hs⟩
 unfold yb at h
 rw [hs] at h
 simp only [Bool.and_eq_true,List.contains_iff_mem] at h
 exact h.2
theorem mG {ts:List Tok} {k:Nat} {least:Int} (h1:1≤least) (h:least≤aF (yI ts k)):1≤aF (zp ts k).text:=by
 by_cases hk:(zp ts k).kind=4∨(zp ts k).kind=5
 ·have hs:yI ts k=(zp ts k).text:=by unfold yI;rw [if_pos hk]
  rw [hs] at h;omega
 ·have:yI ts k=[]:=by simp [yI,hk]
  rw [this] at h
  have h0:aF []=0:=by decide
  omega
end
end Go.Proofs.YtgbjpnnockoomaaGreatDoor.Px
