import Derived.Test.YtgbjpnnockoomaaGreatDoorRp6
set_option linter.unusedVariables false
set_option linter.unusedSimpArgs false
namespace Go.Proofs.YtgbjpnnockoomaaGreatDoor.Px
open Lx Lx.Sp
def HdS (ts:List Tok) (k:Nat):Prop:=(yI ts k=[]∨xw.contains (yI ts k)=true∨yI ts k=[40]∨yI ts k=[60,45])∧labels ts k=false
theorem HdS.no {ts:List Tok} {k:Nat} (h:HdS ts k) {l:List (List UInt8)} (h1:(xw.all fun w=>!l.contains w)=true) (h2:l.contains [40]=false) (h3:l.contains [60,45]=false):yb ts k l=false:=by
 rcases h.1 with h | h | h | h
 ·rw [ak h];rfl
 ·unfold yb
  have h3:=List.all_eq_true.1 h1 _ (List.contains_iff_mem.1 h)
  simp only [Bool.not_eq_true'] at h3
  rw [h3];simp
 ·rw [ak h,h2];rfl
 ·rw [ak h,h3];rfl
theorem HdS.ne {ts:List Tok} {k:Nat} (h:HdS ts k) {w:List UInt8} (h0:w≠[]) (h1:xw.contains w=false) (h2:w≠[40]) (h3:w≠[60,45]):¬yI ts k=w:=by
 rintro rfl
 rcases h.1 with h | h | h | h
 ·exact h0 h
 ·rw [h1] at h;cases h
 ·exact h2 h
 ·exact h3 h
def RMx (T:List TC) (t:Tree):Prop:=(∀ ts k,At ts k T→qX ts (k+T.length)→HdS ts k)∧(∀ ts k h,At ts k T→qX ts (k+T.length)→∃ t',er t'=er t∧Ev ts .simple h k (.ok [t'] 0 (k+T.length)))∧∀ ts k h,At ts k T→yI ts (k+T.length)=[59]→∃ t',er t'=er t∧Ev ts .forLead h k (.ok [t'] 1 (k+T.length))
theorem sO {T:List TC} {t:Tree} (hH:∀ ts k,At ts k T→qX ts (k+T.length)→HdS ts k)
 (h:∀ ts k hh,At ts k T→qX ts (k+T.length)→∃ lead s k2 t',er t'=er t∧Ev ts .shaped hh k (.ok [lead] s k2)∧(Ev ts (.acting lead s) hh k2 (.ok [t'] 1 (k+T.length))∨(Ev ts (.acting lead s) hh k2 (.ok [] 0 k2)∧k2=k+T.length∧stands s=true∧t'=alone lead))):RMx T t:=by
 refine ⟨hH,fun ts k hh ha hs=>?_,fun ts k hh ha hs=>?_⟩
 ·obtain ⟨lead,s,k2,t',e,v1,v2⟩:=h ts k hh ha hs
  have hn:=(hH ts k ha hs).no (l:=[[45],[33]]) (by decide) (by decide) (by decide)
  refine ⟨t',e, ?_⟩
  rcases v2 with v2 | ⟨v2,rfl,h1,rfl⟩
  ·exact Ev.of2 v1 v2 fun n w1 w2=>by simp [step,dN,hn,w1,R.ax,w2,R.bind]
  ·exact Ev.of2 v1 v2 fun n w1 w2=>by simp [step,dN,hn,w1,R.ax,w2,R.bind,h1]
 ·obtain ⟨lead,s,k2,t',e,v1,v2⟩:=h ts k hh ha (.inl hs)
  refine ⟨t',e, ?_⟩
  rcases v2 with v2 | ⟨v2,rfl,h1,rfl⟩
  ·exact Ev.of2 v1 v2 fun n w1 w2=>by simp [step,aZ,w1,R.ax,w2,R.bind]
  ·exact Ev.of2 v1 v2 fun n w1 w2=>by simp [step,aZ,w1,R.ax,w2,R.bind,h1,ak hs]
section
variable {D : Int → List UInt8}
def XM (D:Int→List UInt8) (t:Tree):Prop:=∀ n,nee .simple t<n→RMx (tk D n .simple t) t
theorem hdS_of {T:List TC} (h:HdE T) {ts:List Tok} {k:Nat} (ha:At ts k T) (h1:T.length=1→(zp ts (k+1)).text≠[58]):HdS ts k:=by
 refine ⟨?_,h.lab ha h1⟩
 rcases h.sg ha with h | h | h
 ·exact .inl h
 ·exact .inr (.inl h)
 ·exact .inr (.inr (.inl h))
theorem pR {T U:List TC} {y:TC} (h:HdE T) {ts:List Tok} {k:Nat} (ha:At ts k (T++y::U)) (hy:y.2.1≠[58]):HdS ts k:=by
 rw [aU] at ha
 refine hdS_of h ha.1 fun e=>?_
 have h2:=ha.2.1
 rw [e] at h2
 have:(zp ts (k+1)).text=y.2.1:=by rw [←h2];rfl
 rw [this];exact hy
theorem stopS_59 {ts:List Tok} {k:Nat} (h:qX ts k):(zp ts k).text≠[58]:=by
 intro e
 have hs:yI ts k=(zp ts k).text∨yI ts k=[]:=by unfold yI;split;exact .inl rfl;exact .inr rfl
 rcases h with h | h <;> rcases hs with h2 | h2 <;> rw [h] at h2
 ·rw [e] at h2;cases h2
 ·cases h2
 ·rw [e] at h2;cases h2
 ·cases h2
theorem XM_17 {p:Int} {x:List UInt8} {e:Tree} (hx:eu x=false) (he:XE D e):XM D (nd 17 x p [e]):=by
 intro n hn
 obtain ⟨m,rfl⟩:=aH hn
 have hm:nee .expr e<m:=aC (by decide) hn (by omega) (by simp)
 rw [show tk D (m+1) .simple (nd 17 x p [e])=[nw x]++mw [58,61]::tk D m .expr e from rfl]
 have hX:PEx [nw x] (nd 40 x 0 []):=XE_40 (D:=D) (p:=0) hx 20 (by simp [nee,aJ,rnk])
 refine sO (fun ts k ha hs=>pR hX.1 ha (by decide)) fun ts k hh ha hs=>?_
 obtain ⟨h0,h1,h2⟩:=ha
 obtain ⟨q1,q2,q3⟩:=tm h1
 obtain ⟨a',ea,_,v1,_⟩:=hX.un hh ⟨h0,trivial⟩ (by refine ⟨?_, ?_, ?_⟩ <;> rw [show k + [nw x].length=k+1 from rfl,ak q3] <;> decide)
 have hk:k+([nw x]++mw [58,61]::tk D m .expr e).length=k+1+1+(tk D m .expr e).length:=by simp;omega
 rw [hk] at hs ⊢
 obtain ⟨e',e1,v2⟩:=(he m hm).expr hh h2 (nU hs)
 have hat:a'.text=x:=by
  have:(er a').text=(er (nd 40 x 0 [])).text:=by rw [ea]
  rw [ay] at this
  cases a';rw [iZ] at this;exact this
 refine ⟨a',3,k+1,nd 17 x a'.pos [e'],by rw [ay,ay];simp [e1],v1,.inl (Ev.of1 v2 fun n w=>?_)⟩
 have h58:yb ts (k+1) [[58,61]]=true:=by rw [ak q3];decide
 simp only [step,yO,h58,and_self,if_true,w,R.ax,hat]
theorem act_no {ts:List Tok} {k:Nat} {hh:Bool} {t:Tree} {s:Int} (h:qX ts k):Ev ts (.acting t s) hh k (.ok [] 0 k):=Ev.of0 fun n=>by
 have h1:yb ts k [[58,61]]=false:=by rcases h with h | h <;> rw [ak h] <;> decide
 have h2:yb ts k [[61],[43,61],[45,61],[42,61]]=false:=by rcases h with h | h <;> rw [ak h] <;> decide
 have h3:yb ts k [[43,43],[45,45]]=false:=by rcases h with h | h <;> rw [ak h] <;> decide
 have h4:yb ts k [[60,45]]=false:=by rcases h with h | h <;> rw [ak h] <;> decide
 simp [step,yO,h1,h2,h3,h4]
theorem XM_19 {p:Int} {x:List UInt8} {a e:Tree} (hx:[[61],[43,61],[45,61],[42,61]].contains x=true) (hs:shp a=3∨shp a=4) (ha:XE D a) (he:XE D e):XM D (nd 19 x p [a,e]):=by
 intro n hn
 obtain ⟨m,rfl⟩:∃ m,n=m+2:=⟨n-2,by simp [nee,aJ,rnk] at hn;omega⟩
 have hm:∀ t∈[a,e],nee .expr t<m:=fun t mt=>aC (by decide) hn (by omega) mt
 rw [show tk D (m+2) .simple (nd 19 x p [a,e])=tk D m .expr a++mw x::tk D m .expr e from rfl]
 have hA:=ha m (hm a (by simp))
 have hx2:x=[61]∨x=[43,61]∨x=[45,61]∨x=[42,61]:=by simpa using hx
 refine sO (fun ts k h hs=>pR hA.1 h (by rcases hx2 with rfl | rfl | rfl | rfl <;> decide)) fun ts k hh h hst=>?_
 rw [aU] at h
 obtain ⟨h0,h1,h2⟩:=h
 obtain ⟨q1,q2,q3⟩:=tm h1
 obtain ⟨a',ea,_,v1,_⟩:=hA.un hh h0 (by refine ⟨?_, ?_, ?_⟩ <;> rw [ak q3] <;> rcases hx2 with rfl | rfl | rfl | rfl <;> decide)
 have hk:k+(tk D m .expr a++mw x::tk D m .expr e).length=k+(tk D m .expr a).length+1+(tk D m .expr e).length:=by simp;omega
 rw [hk] at hst ⊢
 obtain ⟨e',e1,v2⟩:=(he m (hm e (by simp))).expr hh h2 (nU hst)
 refine ⟨a',shp a,_,nd 19 x (zp ts (k+(tk D m .expr a).length)).pos [a',e'],by rw [ay,ay];simp [ea,e1],v1,.inl (Ev.of1 v2 fun n w=>?_)⟩
 have h3:yb ts (k+(tk D m .expr a).length) [[58,61]]=false:=by rw [ak q3];rcases hx2 with rfl | rfl | rfl | rfl <;> decide
 have h4:yb ts (k+(tk D m .expr a).length) [[61],[43,61],[45,61],[42,61]]=true:=by rw [ak q3];rcases hx2 with rfl | rfl | rfl | rfl <;> decide
 simp only [step,yO,h3,h4,Bool.false_eq_true,and_false,if_false,hs,and_self,if_true,w,R.ax,q2]
theorem XM_20 {p:Int} {x:List UInt8} {a:Tree} (hx:x=[43,43]∨x=[45,45]) (hs:shp a=3∨shp a=4) (ha:XE D a):XM D (nd 20 x p [a]):=by
 intro n hn
 obtain ⟨m,rfl⟩:=aH hn
 have hm:nee .expr a<m:=aC (by decide) hn (by omega) (by simp)
 rw [show tk D (m+1) .simple (nd 20 x p [a])=tk D m .expr a++mw x::[] from rfl]
 have hA:=ha m hm
 refine sO (fun ts k h hs=>pR hA.1 h (by rcases hx with rfl | rfl <;> decide)) fun ts k hh h hst=>?_
 rw [aU] at h
 obtain ⟨h0,h1,h2⟩:=h
 obtain ⟨q1,q2,q3⟩:=tm h1
 obtain ⟨a',ea,_,v1,_⟩:=hA.un hh h0 (by refine ⟨?_, ?_, ?_⟩ <;> rw [ak q3] <;> rcases hx with rfl | rfl <;> decide)
 have hk:k+(tk D m .expr a++mw x::[]).length=k+(tk D m .expr a).length+1:=by simp;omega
 rw [hk]
 refine ⟨a',shp a,_,nd 20 x (zp ts (k+(tk D m .expr a).length)).pos [a'],by rw [ay,ay];simp [ea],v1,.inl (Ev.of0 fun n=>?_)⟩
 have h3:yb ts (k+(tk D m .expr a).length) [[58,61]]=false:=by rw [ak q3];rcases hx with rfl | rfl <;> decide
 have h4:yb ts (k+(tk D m .expr a).length) [[61],[43,61],[45,61],[42,61]]=false:=by rw [ak q3];rcases hx with rfl | rfl <;> decide
 have h5:yb ts (k+(tk D m .expr a).length) [[43,43],[45,45]]=true:=by rw [ak q3];rcases hx with rfl | rfl <;> decide
 simp only [step,yO,h3,h4,h5,Bool.false_eq_true,and_false,if_false,hs,and_self,if_true,q2]
theorem shp_two (a:Tree):2≤shp a:=by unfold shp;split;omega;split;omega;split <;> omega
theorem XM_33 {p:Int} {a e:Tree} (ha:XE D a) (he:XE D e):XM D (nd 33 [] p [a,e]):=by
 intro n hn
 obtain ⟨m,rfl⟩:∃ m,n=m+2:=⟨n-2,by simp [nee,aJ,rnk] at hn;omega⟩
 have hm:∀ t∈[a,e],nee .expr t<m:=fun t mt=>aC (by decide) hn (by omega) mt
 rw [show tk D (m+2) .simple (nd 33 [] p [a,e])=tk D m .expr a++mw [60,45]::tk D m .expr e from rfl]
 have hA:=ha m (hm a (by simp))
 refine sO (fun ts k h hs=>pR hA.1 h (by decide)) fun ts k hh h hst=>?_
 rw [aU] at h
 obtain ⟨h0,h1,h2⟩:=h
 obtain ⟨q1,q2,q3⟩:=tm h1
 obtain ⟨a',ea,_,v1,_⟩:=hA.un hh h0 (by refine ⟨?_, ?_, ?_⟩ <;> rw [ak q3] <;> decide)
 have hk:k+(tk D m .expr a++mw [60,45]::tk D m .expr e).length=k+(tk D m .expr a).length+1+(tk D m .expr e).length:=by simp;omega
 rw [hk] at hst ⊢
 obtain ⟨e',e1,v2⟩:=(he m (hm e (by simp))).expr hh h2 (nU hst)
 refine ⟨a',shp a,_,nd 33 [] (zp ts (k+(tk D m .expr a).length)).pos [a',e'],by rw [ay,ay];simp [ea,e1],v1,.inl (Ev.of1 v2 fun n w=>?_)⟩
 have h3:yb ts (k+(tk D m .expr a).length) [[58,61]]=false:=by rw [ak q3];decide
 have h4:yb ts (k+(tk D m .expr a).length) [[61],[43,61],[45,61],[42,61]]=false:=by rw [ak q3];decide
 have h5:yb ts (k+(tk D m .expr a).length) [[43,43],[45,45]]=false:=by rw [ak q3];decide
 have h6:yb ts (k+(tk D m .expr a).length) [[60,45]]=true:=by rw [ak q3];decide
 have h7:=shp_two a
 simp only [step,yO,h3,h4,h5,h6,h7,Bool.false_eq_true,and_false,if_false,and_self,if_true,w,R.ax]
theorem XM_34c {p:Int} {a:Tree} (hs:shp a=5) (ha:XE D a):XM D (nd 34 [] p [a]):=by
 intro n hn
 obtain ⟨m,rfl⟩:∃ m,n=m+2:=⟨n-2,by simp [nee,aJ,rnk] at hn;omega⟩
 have hm:nee .expr a<m:=aC (by decide) hn (by omega) (by simp)
 have h41:¬a.kind=41:=by intro e;simp [shp,e] at hs
 have ht:tk D (m+2) .simple (nd 34 [] p [a])=tk D m .expr a:=by
  show (if a.kind=41∧a.text=[60,45] then mw [60,45]::tk D m .expr (yM a 0) else tk D m .expr a)=_
  rw [if_neg (fun h=>h41 h.1)]
 rw [ht]
 have hA:=ha m hm
 refine sO (fun ts k h hs=>hdS_of hA.1 h fun e=>?_) fun ts k hh h hst=>?_
 ·rw [e] at hs;exact stopS_59 hs
 ·obtain ⟨a',ea,_,v1,_⟩:=hA.un hh h (nU hst).1
  refine ⟨a',shp a,_,alone a',by simp [alone,ay,ea],v1,.inr ⟨act_no hst,rfl,by rw [hs];rfl,rfl⟩⟩
theorem XM_34r {p p2:Int} {a:Tree} (ha:XE D a):XM D (nd 34 [] p [nd 41 [60,45] p2 [a]]):=by
 intro n hn
 obtain ⟨m,rfl⟩:∃ m,n=m+2:=⟨n-2,by simp [nee,aJ,rnk] at hn;omega⟩
 have hm:nee .expr a<m:=by simp [nee,aJ,rnk] at hn ⊢;omega
 rw [show tk D (m+2) .simple (nd 34 [] p [nd 41 [60,45] p2 [a]])=mw [60,45]::tk D m .expr a from rfl]
 have hA:=ha m hm
 refine sO (fun ts k h hs=>⟨.inr (.inr (.inr (tm h.1).2.2)),by unfold labels;rw [(tm h.1).1];rfl⟩) fun ts k hh h hst=>?_
 obtain ⟨q1,q2,q3⟩:=tm h.1
 have hk:k+(mw [60,45]::tk D m .expr a).length=k+1+(tk D m .expr a).length:=by simp;omega
 rw [hk] at hst ⊢
 obtain ⟨a',ea,_,_,v1⟩:=hA.un hh h.2 (nU hst).1
 have v2:Ev ts .shaped hh k (.ok [nd 41 [60,45] (zp ts k).pos [a']] 1 (k+1+(tk D m .expr a).length)):=Ev.of1 v1 fun n w=>by
  have hsS:yb ts k [[45],[33],[60,45]]=true:=by rw [ak q3];decide
  simp [step,bW,hsS,w,R.ax,q2]
 exact ⟨_,1,_,alone (nd 41 [60,45] (zp ts k).pos [a']),by simp [alone,ay,ea],v2,.inr ⟨act_no hst,rfl,rfl,rfl⟩⟩
theorem XS_simple {t:Tree} (hk:t.kind=17∨t.kind=19∨t.kind=20∨t.kind=33∨t.kind=34) (h:XM D t):XS D t:=by
 intro n hn
 obtain ⟨m,rfl⟩:=aH hn
 have hm:nee .simple t<m:=by simp only [nee,rnk] at hn ⊢;omega
 have ht:tk D (m+1) .stmt t=tk D m .simple t:=by
  show tkS D (tk D m) .stmt t=_
  simp only [tkS]
  rcases hk with e | e | e | e | e <;> simp [e]
 rw [ht]
 refine ⟨fun ts k ha hs=>((h m hm).1 ts k ha (.inl hs)).no (by decide) (by decide) (by decide),fun ts k hh ha hs=>?_⟩
 ·obtain ⟨t',e,v⟩:=(h m hm).2.1 ts k hh ha (.inl hs)
  have hd:=(h m hm).1 ts k ha (.inl hs)
  refine ⟨t',e,Ev.of1 v fun n w=>?_⟩
  have f1:=hd.ne (w:=[118,97,114]) (by decide) (by decide) (by decide) (by decide)
  have f2:=hd.ne (w:=[123]) (by decide) (by decide) (by decide) (by decide)
  have f3:=hd.ne (w:=[105,102]) (by decide) (by decide) (by decide) (by decide)
  have f4:=hd.ne (w:=[98,114,101,97,107]) (by decide) (by decide) (by decide) (by decide)
  have f5:=hd.ne (w:=[99,111,110,116,105,110,117,101]) (by decide) (by decide) (by decide) (by decide)
  have f6:=hd.ne (w:=[102,97,108,108,116,104,114,111,117,103,104]) (by decide) (by decide) (by decide) (by decide)
  have f7:=hd.ne (w:=[114,101,116,117,114,110]) (by decide) (by decide) (by decide) (by decide)
  have f8:=hd.ne (w:=[103,111]) (by decide) (by decide) (by decide) (by decide)
  have f9:=hd.ne (w:=[100,101,102,101,114]) (by decide) (by decide) (by decide) (by decide)
  have g1:=hd.ne (w:=[102,111,114]) (by decide) (by decide) (by decide) (by decide)
  have g2:=hd.ne (w:=[115,119,105,116,99,104]) (by decide) (by decide) (by decide) (by decide)
  have g3:=hd.ne (w:=[115,101,108,101,99,116]) (by decide) (by decide) (by decide) (by decide)
  have g4:[[102,111,114],[115,119,105,116,99,104],[115,101,108,101,99,116]].contains (yI ts k)=false:=by
   rw [Bool.eq_false_iff];intro e;rw [List.contains_iff_mem] at e;simp at e;rcases e with e | e | e
   ·exact g1 e
   ·exact g2 e
   ·exact g3 e
  simp only [step,aP,f1,f2,f3,f4,f5,f6,f7,f8,f9,g4,hd.2,Bool.false_eq_true,if_false,w]
end
open Lx Lx.Sp
theorem kV {ts:List Tok} {k:Nat} {x:List UInt8} (h:yI ts k=x) (h2:(!x.isEmpty&&[[59],[125],[99,97,115,101],[100,101,102,97,117,108,116]].contains x)=false):behind ts k=false:=by unfold behind;rw [ak h];exact h2
section
variable {D : Int → List UInt8}
theorem XS_18 {p:Int} {x:List UInt8} {y e:Tree} (hx:eu x=false) (hy:XT D y) (he:e=aB∨(XE D e∧e.kind≠8)):XS D (nd 18 x p [y,e]):=by
 intro n hn
 obtain ⟨m,rfl⟩:∃ m,n=m+2:=⟨n-2,by simp [nee,aJ,rnk] at hn;omega⟩
 have hm:∀ j',∀ t∈[y,e],nee j' t<m:=fun j' t mt=>aC (by decide) hn (by omega) mt
 rw [show tk D (m+2) .stmt (nd 18 x p [y,e])=nw [118,97,114]::((nw x::tk D m .wtype y)++unT [mw [61]] (tk D (m+1) .expr) e) from rfl]
 refine ⟨fun ts k ha hs=>kV (tw ha.1 (by decide)).2.2 (by decide),fun ts k hh ha hs=>?_⟩
 obtain ⟨h0,ha⟩:=ha
 rw [aU] at ha
 have hvar:=(tw h0 (by decide)).2.2
 have hE:∃ e',er e'=er e∧jc ts (k+1+1+(tk D m .wtype y).length)∧∀ y',Ev ts (.named 18) hh (k+1) (.ok [nd 18 x (zp ts (k+1)).pos [y']] 0 (k+1+1+(tk D m .wtype y).length))→Ev ts .varStmt hh k (.ok [nd 18 x (zp ts k).pos [y',e']] 0 (k+1+1+(tk D m .wtype y).length+(unT [mw [61]] (tk D (m+1) .expr) e).length)):=by
  have hpos:k+1+(nw x::tk D m .wtype y).length=k+1+1+(tk D m .wtype y).length:=by simp;omega
  rcases he with rfl | ⟨he,h8⟩
  ·have hu:unT [mw [61]] (tk D (m+1) .expr) aB=[]:=rfl
   rw [hu] at hs ⊢
   have h59:yI ts (k+1+1+(tk D m .wtype y).length)=[59]:=by rw [←hs];congr 1;simp;omega
   refine ⟨aB,rfl,by unfold jc;rw [ak h59];decide,fun y' v=>Ev.of1 v fun n q=>?_⟩
   simp only [step,dn,q,R.ax,ak h59]
   rfl
  ·have hu:unT [mw [61]] (tk D (m+1) .expr) e=mw [61]::tk D (m+1) .expr e:=by rw [unT,if_neg h8];rfl
   rw [hu] at hs ha ⊢
   have ha2:=ha.2
   rw [hpos] at ha2
   have h61:=(tm ha2.1).2.2
   have h59:yI ts (k+1+1+(tk D m .wtype y).length+1+(tk D (m+1) .expr e).length)=[59]:=by rw [←hs];congr 1;simp;omega
   obtain ⟨e',e1,v2⟩:=(he (m+1) (by have:=hm .expr e (by simp);omega)).expr hh ha2.2 (bg h59 (by decide))
   refine ⟨e',e1,by unfold jc;rw [ak h61];decide,fun y' v=>Ev.of2 v v2 fun n q1 q2=>?_⟩
   simp only [step,dn,q1,R.ax,ak h61]
   rw [if_pos (by decide),q2]
   exact okE rfl (by simp;omega)
 obtain ⟨e',e1,hst,fE⟩:=hE
 obtain ⟨y',e2,v1⟩:=jM (kd:=18) hx (hy m (hm _ y (by simp))) hh ha.1 hst
 refine ⟨nd 18 x (zp ts k).pos [y',e'],by rw [ay,ay];simp [e1,e2],Ev.of1 (fE y' v1) fun n q=>?_⟩
 simp only [step,aP,hvar,if_true,q]
 exact okE rfl (by simp;omega)
theorem XS_16 {t:Tree} (hk:t.kind=16) (h:XB D t):XS D t:=by
 intro n hn
 obtain ⟨m,rfl⟩:=aH hn
 have hm:nee .block t<m:=by simp only [nee,rnk] at hn ⊢;omega
 have ht:tk D (m+1) .stmt t=tk D m .block t:=by
  show tkS D (tk D m) .stmt t=_
  simp [tkS,hk]
 rw [ht]
 obtain ⟨⟨r,hr⟩,hB⟩:=h m hm
 have hsg:∀ ts k,At ts k (tk D m .block t)→yI ts k=[123]:=fun ts k ha=>by rw [hr] at ha;exact (tm ha.1).2.2
 refine ⟨fun ts k ha hs=>kV (hsg ts k ha) (by decide),fun ts k hh ha hs=>?_⟩
 obtain ⟨t',e,v⟩:=hB ts k hh ha
 refine ⟨t',e,Ev.of1 v fun n q=>?_⟩
 simp [step,aP,hsg ts k ha,q]
theorem pK {kd:Int} {w:List UInt8} {x:List UInt8} {p:Int} (hk:(kd=27∧w=[98,114,101,97,107])∨(kd=28∧w=[99,111,110,116,105,110,117,101])) (hx:x=[]∨eu x=false):XS D (nd kd x p []):=by
 intro n hn
 have hk0:kd≠0:=by rcases hk with ⟨rfl,_⟩ | ⟨rfl,_⟩ <;> decide
 obtain ⟨m,rfl⟩:∃ m,n=m+2:=⟨n-2,by simp [nee,aJ,rnk,hk0] at hn;omega⟩
 have hw:eu w=true:=by rcases hk with ⟨_,rfl⟩ | ⟨_,rfl⟩ <;> decide
 have ht:tk D (m+2) .stmt (nd kd x p [])=nw w::(if x=[] then [] else [nw x]):=by
  rcases hk with ⟨rfl,rfl⟩ | ⟨rfl,rfl⟩ <;> rfl
 rw [ht]
 refine ⟨fun ts k ha hs=>kV (tw ha.1 hw).2.2 (by rcases hk with ⟨_,rfl⟩ | ⟨_,rfl⟩ <;> decide),fun ts k hh ha hs=>?_⟩
 obtain ⟨q1,q2,q3⟩:=tw ha.1 hw
 by_cases hx0:x=[]
 ·subst hx0
  rw [if_pos rfl] at hs ⊢
  have h5:(zp ts (k+1)).kind≠1:=by
   intro e
   have:yI ts (k+1)=[59]:=hs
   unfold yI at this
   rw [if_neg (by omega)] at this
   cases this
  refine ⟨nd kd [] (zp ts k).pos [],by rw [ay,ay],Ev.of0 fun n=>?_⟩
  rcases hk with ⟨rfl,rfl⟩ | ⟨rfl,rfl⟩ <;> simp [step,aP,q3,jump,h5]
 ·have hxw:=hx.resolve_left hx0
  rw [if_neg hx0] at ha hs ⊢
  obtain ⟨r1,r2,r3⟩:=tn ha.2.1 hxw
  refine ⟨nd kd x (zp ts k).pos [],by rw [ay,ay],Ev.of0 fun n=>?_⟩
  rcases hk with ⟨rfl,rfl⟩ | ⟨rfl,rfl⟩ <;> simp [step,aP,q3,jump,r1,r2]
theorem XS_29 {p:Int} : XS D (nd 29 [] p []):=by
 intro n hn
 obtain ⟨m,rfl⟩:=aH hn
 rw [show tk D (m+1) .stmt (nd 29 [] p [])=[nw [102,97,108,108,116,104,114,111,117,103,104]] from rfl]
 refine ⟨fun ts k ha hs=>kV (tw ha.1 (by decide)).2.2 (by decide),fun ts k hh ha hs=>⟨nd 29 [] (zp ts k).pos [],by rw [ay,ay],Ev.of0 fun n=>?_⟩⟩
 simp [step,aP,(tw ha.1 (by decide)).2.2]
theorem XS_30 {p:Int} {e:Tree} (he:e=aB∨(XE D e∧e.kind≠8)):XS D (nd 30 [] p [e]):=by
 intro n hn
 obtain ⟨m,rfl⟩:=aH hn
 have hm:nee .expr e<m:=aC (by decide) hn (by omega) (by simp)
 rw [show tk D (m+1) .stmt (nd 30 [] p [e])=nw [114,101,116,117,114,110]::unT [] (tk D m .expr) e from rfl]
 refine ⟨fun ts k ha hs=>kV (tw ha.1 (by decide)).2.2 (by decide),fun ts k hh ha hs=>?_⟩
 obtain ⟨q1,q2,q3⟩:=tw ha.1 (by decide)
 rcases he with rfl | ⟨he,h8⟩
 ·have hu:unT [] (tk D m .expr) aB=[]:=rfl
  rw [hu] at hs ⊢
  have h59:yI ts (k+1)=[59]:=hs
  have hb:behind ts (k+1)=true:=by unfold behind;rw [ak h59];decide
  have v:Ev ts .returnStmt hh k (.ok [nd 30 [] (zp ts k).pos [aB]] 0 (k+1)):=Ev.of0 fun n=>by simp [step,bC,hb]
  exact ⟨nd 30 [] (zp ts k).pos [aB],by rw [ay,ay],Ev.of1 v fun n q=>by simp [step,aP,q3,q]⟩
 ·have hu:unT [] (tk D m .expr) e=tk D m .expr e:=by rw [unT,if_neg h8];rfl
  rw [hu] at hs ha ⊢
  have h59:yI ts (k+1+(tk D m .expr e).length)=[59]:=by rw [←hs];congr 1;simp;omega
  have hE:=he m hm
  obtain ⟨e',e1,v1⟩:=hE.expr hh ha.2 (bg h59 (by decide))
  have hb:behind ts (k+1)=false:=hE.1.no ha.2 (by decide) (by decide)
  have v:Ev ts .returnStmt hh k (.ok [nd 30 [] (zp ts k).pos [e']] 0 (k+1+(tk D m .expr e).length)):=Ev.of1 v1 fun n q=>by simp [step,bC,hb,q,R.ax]
  refine ⟨nd 30 [] (zp ts k).pos [e'],by rw [ay,ay];simp [e1],Ev.of1 v fun n q=>?_⟩
  simp only [step,aP,q3,q]
  exact okE rfl (by simp;omega)
theorem XS_call {kd:Int} {w:List UInt8} {p:Int} {e:Tree} (hk:(kd=31∧w=[103,111])∨(kd=32∧w=[100,101,102,101,114])) (hs5:shp e=5) (he:XE D e):XS D (nd kd [] p [e]):=by
 intro n hn
 obtain ⟨m,rfl⟩:=aH hn
 have hk0:kd≠0:=by rcases hk with ⟨rfl,_⟩ | ⟨rfl,_⟩ <;> decide
 have hm:nee .expr e<m:=aC hk0 hn (by omega) (by simp)
 have hw:eu w=true:=by rcases hk with ⟨_,rfl⟩ | ⟨_,rfl⟩ <;> decide
 have ht:tk D (m+1) .stmt (nd kd [] p [e])=nw w::tk D m .expr e:=by
  rcases hk with ⟨rfl,rfl⟩ | ⟨rfl,rfl⟩ <;> rfl
 rw [ht]
 refine ⟨fun ts k ha hs=>kV (tw ha.1 hw).2.2 (by rcases hk with ⟨_,rfl⟩ | ⟨_,rfl⟩ <;> decide),fun ts k hh ha hs=>?_⟩
 obtain ⟨q1,q2,q3⟩:=tw ha.1 hw
 have h59:yI ts (k+1+(tk D m .expr e).length)=[59]:=by rw [←hs];congr 1;simp;omega
 obtain ⟨e',e1,v1,_,_⟩:=(he m hm).un hh ha.2 (bg h59 (by decide)).1
 rw [hs5] at v1
 have v:Ev ts (.callStmt kd) hh k (.ok [nd kd [] (zp ts k).pos [e']] 0 (k+1+(tk D m .expr e).length)):=Ev.of1 v1 fun n q=>by simp [step,dB,q,R.ax]
 refine ⟨nd kd [] (zp ts k).pos [e'],by rw [ay,ay];simp [e1],Ev.of1 v fun n q=>?_⟩
 rcases hk with ⟨rfl,rfl⟩ | ⟨rfl,rfl⟩ <;> simp [step,aP,q3,q] <;> omega
def RIx (T:List TC) (t:Tree):Prop:=(∃ r,T=nw [105,102]::r)∧∀ ts k h,At ts k T→yb ts (k+T.length) [[101,108,115,101]]=false→∃ t',er t'=er t∧Ev ts .ifStmt h k (.ok [t'] 0 (k+T.length))
def XIf (D:Int→List UInt8) (t:Tree):Prop:=∀ n,nee .ifStmt t<n→RIx (tk D n .ifStmt t) t
theorem XIf_21 {p:Int} {c th o:Tree} (hc:XE D c) (ht:XB D th) (ho:o=aB∨(XB D o∧o.kind=16)∨(XIf D o∧o.kind=21)):XIf D (nd 21 [] p [c,th,o]):=by
 intro n hn
 obtain ⟨m,rfl⟩:∃ m,n=m+2:=⟨n-2,by simp [nee,aJ,rnk] at hn;omega⟩
 have hm:∀ j',∀ t∈[c,th,o],nee j' t<m:=fun j' t mt=>aC (by decide) hn (by omega) mt
 have htk:tk D (m+2) .ifStmt (nd 21 [] p [c,th,o])=nw [105,102]::(tk D (m+1) .expr c++(tk D (m+1) .block th++unT [nw [101,108,115,101]] (tk D (m+1) .stmt) o)):=by
  show ((nw [105,102]::tk D (m+1) .expr c)++tk D (m+1) .block th)++unT [nw [101,108,115,101]] (tk D (m+1) .stmt) o=_
  simp
 rw [htk]
 refine ⟨⟨_,rfl⟩,fun ts k hh ha hs=>?_⟩
 obtain ⟨h0,ha⟩:=ha
 rw [aU,aU] at ha
 obtain ⟨ha1,ha2,ha3⟩:=ha
 obtain ⟨⟨br,hbr⟩,hbp⟩:=ht (m+1) (by have:=hm .block th (by simp);omega)
 have h123:yI ts (k+1+(tk D (m+1) .expr c).length)=[123]:=by
  have h:=ha2
  rw [hbr] at h
  exact (tm h.1).2.2
 obtain ⟨c',e1,v1⟩:=(hc (m+1) (by have:=hm .expr c (by simp);omega)).expr true ha1 (bg h123 (by decide))
 obtain ⟨th',e2,v2⟩:=hbp ts _ hh ha2
 rcases ho with rfl | ho
 ·have hu:unT [nw [101,108,115,101]] (tk D (m+1) .stmt) aB=[]:=rfl
  rw [hu] at hs ⊢
  have hs2:yb ts (k+1+(tk D (m+1) .expr c).length+(tk D (m+1) .block th).length) [[101,108,115,101]]=false:=by
   rw [←hs];congr 1;simp;omega
  refine ⟨nd 21 [] (zp ts k).pos [c',th',aB],by rw [ay,ay];simp [e1,e2],Ev.of2 v1 v2 fun n w1 w2=>?_⟩
  simp only [step,cu,w1,R.ax,w2,hs2,Bool.false_eq_true,if_false]
  exact okE rfl (by simp;omega)
 ·have ho8:¬o.kind=8:=by rcases ho with ⟨_,e⟩ | ⟨_,e⟩ <;> omega
  have hu:unT [nw [101,108,115,101]] (tk D (m+1) .stmt) o=nw [101,108,115,101]::tk D (m+1) .stmt o:=by rw [unT,if_neg ho8];rfl
  rw [hu] at hs ha3 ⊢
  have hel:=(tw ha3.1 (by decide)).2.2
  rcases ho with ⟨ho,hk⟩ | ⟨ho,hk⟩
  ·have ht2:tk D (m+1) .stmt o=tk D m .block o:=by
    show tkS D (tk D m) .stmt o=_
    simp [tkS,hk]
   rw [ht2] at hs ha3 ⊢
   obtain ⟨⟨cr,hcr⟩,hcp⟩:=ho m (hm _ o (by simp))
   have h1232:yI ts (k+1+(tk D (m+1) .expr c).length+(tk D (m+1) .block th).length+1)=[123]:=by
    have h:=ha3.2
    rw [hcr] at h
    exact (tm h.1).2.2
   obtain ⟨o',e3,v3⟩:=hcp ts _ hh ha3.2
   refine ⟨nd 21 [] (zp ts k).pos [c',th',o'],by rw [ay,ay];simp [e1,e2,e3],Ev.of3 v1 v2 v3 fun n w1 w2 w3=>?_⟩
   simp only [step,cu,w1,R.ax,w2,ak hel,ak h1232]
   rw [if_pos (by decide),if_neg (by decide),w3]
   exact okE rfl (by simp;omega)
  ·have ht2:tk D (m+1) .stmt o=tk D m .ifStmt o:=by
    show tkS D (tk D m) .stmt o=_
    simp [tkS,hk]
   rw [ht2] at hs ha3 ⊢
   obtain ⟨⟨cr,hcr⟩,hcp⟩:=ho m (hm _ o (by simp))
   have hif:yI ts (k+1+(tk D (m+1) .expr c).length+(tk D (m+1) .block th).length+1)=[105,102]:=by
    have h:=ha3.2
    rw [hcr] at h
    exact (tw h.1 (by decide)).2.2
   obtain ⟨o',e3,v3⟩:=hcp ts _ hh ha3.2 (by rw [←hs];congr 1;simp;omega)
   refine ⟨nd 21 [] (zp ts k).pos [c',th',o'],by rw [ay,ay];simp [e1,e2,e3],Ev.of3 v1 v2 v3 fun n w1 w2 w3=>?_⟩
   simp only [step,cu,w1,R.ax,w2,ak hel,ak hif]
   rw [if_pos (by decide),if_pos (by decide),w3]
   exact okE rfl (by simp;omega)
theorem XS_21 {t:Tree} (hk:t.kind=21) (h:XIf D t):XS D t:=by
 intro n hn
 obtain ⟨m,rfl⟩:=aH hn
 have hm:nee .ifStmt t<m:=by simp only [nee,rnk] at hn ⊢;omega
 have ht:tk D (m+1) .stmt t=tk D m .ifStmt t:=by
  show tkS D (tk D m) .stmt t=_
  simp [tkS,hk]
 rw [ht]
 obtain ⟨⟨r,hr⟩,hB⟩:=h m hm
 have hsg:∀ ts k,At ts k (tk D m .ifStmt t)→yI ts k=[105,102]:=fun ts k ha=>by rw [hr] at ha;exact (tw ha.1 (by decide)).2.2
 refine ⟨fun ts k ha hs=>kV (hsg ts k ha) (by decide),fun ts k hh ha hs=>?_⟩
 obtain ⟨t',e,v⟩:=hB ts k hh ha (by rw [ak hs];decide)
 refine ⟨t',e,Ev.of1 v fun n q=>?_⟩
 simp [step,aP,hsg ts k ha,q]
end
end Go.Proofs.YtgbjpnnockoomaaGreatDoor.Px
