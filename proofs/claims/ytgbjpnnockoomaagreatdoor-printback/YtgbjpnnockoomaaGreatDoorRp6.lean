import Derived.Test.YtgbjpnnockoomaaGreatDoorRp4
set_option linter.unusedVariables false
set_option linter.unusedSimpArgs false
namespace Go.Proofs.YtgbjpnnockoomaaGreatDoor.Px
open Lx Lx.Sp
section
variable {D : Int → List UInt8}
def bltS:List (List UInt8):=[[97,112,112,101,110,100],[99,97,112],[99,108,111,115,101],[108,101,110],[112,97,110,105,99],[112,114,105,110,116],[114,101,99,111,118,101,114]]
theorem uy {ts:List Tok} {k k2:Nat} {hh:Bool} {j:Job} {l:List Tree} {s:Int} (h0:yI ts (k+1)=[40]) (v:Ev ts j false (k+1+1) (.ok l s k2)):Ev ts (.builtin j) hh k (.ok [nd 44 (zp ts k).text (zp ts k).pos l] 0 k2):=Ev.of1 v fun n q=>by
 simp only [step,aV,want,ak h0,q,R.bind]
 rw [if_pos (by decide)]
theorem XE_44 {p:Int} {x:List UInt8} {l:List Tree} (hx:bltS.contains x=true) (hl:∀ t∈l,XE D t):XE D (nd 44 x p l):=by
 intro n hn
 obtain ⟨m,rfl⟩:∃ m,n=m+2:=⟨n-2,by simp [nee,aJ,rnk] at hn;omega⟩
 have hm:∀ t∈l,nee .expr t<m:=fun t mt=>aC (by decide) hn (by omega) mt
 have hw:eu x=true:=by
  have:(bltS.all fun y=>eu y)=true:=by decide
  exact List.all_eq_true.1 this x (List.contains_iff_mem.1 hx)
 have hw2:xw.contains x=true:=by
  have h0:(bltS.all fun y=>xw.contains y)=true:=by decide
  exact List.all_eq_true.1 h0 x (List.contains_iff_mem.1 hx)
 have hne:x≠[109,97,107,101]∧x≠[110,101,119]∧[[116,114,117,101],[102,97,108,115,101]].contains x=false∧x≠[110,105,108]∧x≠[102,117,110,99]:=by
  have:(bltS.all fun y=>decide (y≠[109,97,107,101]∧y≠[110,101,119]∧[[116,114,117,101],[102,97,108,115,101]].contains y=false∧y≠[110,105,108]∧y≠[102,117,110,99]))=true:=by decide
  exact of_decide_eq_true (List.all_eq_true.1 this x (List.contains_iff_mem.1 hx))
 have ht:tk D (m+2) .expr (nd 44 x p l)=nw x::mw [40]::(dM (l.map (tk D m .expr))++[mw [41]]):=by
  have:tk D (m+2) .expr (nd 44 x p l)=nw x::mw [40]::((if x=[109,97,107,101] then tk D m .wtype (yM (nd 44 x p l) 0)++(if 1<l.length then mw [44]::tk D m .expr (yM (nd 44 x p l) 1) else []) else if x=[110,101,119] then tk D m .pointed (yM (nd 44 x p l) 0) else dM (l.map (tk D m .expr)))++[mw [41]]):=rfl
  rw [this,if_neg hne.1,if_neg hne.2.1]
 rw [ht]
 refine PEx.word rfl hw2 fun ts k hh hA=>?_
 obtain ⟨q1,q2,q3⟩:=tw hA.1 hw
 have h40:=(tm hA.2.1).2.2
 obtain ⟨l',e1,v1⟩:=kF (h:=false) stp_E (tk D m .expr) l (k+1+1) (fun t mt=>itm_E (hl t mt m (hm t mt))) (fun t mt ts k ha=>(hl t mt m (hm t mt)).1.no ha (by decide) (by decide)) hA.2.2
 have v2:Ev ts .args false (k+1+1) (.ok l' 0 (k+1+1+(dM (l.map (tk D m .expr))).length+1)):=Ev.of1 v1 fun n q=>by simp [step,q]
 have v3:=uy (hh:=hh) h40 v2
 rw [q2] at v3
 refine ⟨nd 44 x (zp ts k).pos l',by rw [ay,ay,e1],Ev.of1 v3 fun n q=>?_⟩
 have hx2:[[97,112,112,101,110,100],[99,97,112],[99,108,111,115,101],[108,101,110],[112,97,110,105,99],[112,114,105,110,116],[114,101,99,111,118,101,114]].contains x=true:=hx
 have hsh:shp (nd 44 x p l)=5:=by simp [shp,nd,Tree.kind,Tree.text,hne.1,hne.2.1]
 simp only [step,yC,q2,hne.2.2.1,hne.2.2.2.1,hne.2.2.2.2,hne.1,hne.2.1,hx2,Bool.false_eq_true,if_false,if_true,q,R.ax,hsh]
 exact okE rfl (by simp;omega)
theorem XE_new {p p2:Int} {y:List UInt8} (hy:eu y=false):XE D (nd 44 [110,101,119] p [nd 12 y p2 []]):=by
 intro n hn
 obtain ⟨m,rfl⟩:∃ m,n=m+3:=⟨n-3,by simp [nee,aJ,rnk] at hn;omega⟩
 rw [show tk D (m+3) .expr (nd 44 [110,101,119] p [nd 12 y p2 []])=[nw [110,101,119],mw [40],nw y,mw [41]] from rfl]
 refine PEx.word rfl (by decide) fun ts k hh hA=>?_
 obtain ⟨q1,q2,q3⟩:=tw hA.1 (by decide)
 have h40:=(tm hA.2.1).2.2
 obtain ⟨r1,r2,r3⟩:=tn hA.2.2.1 hy
 have h41:=(tm hA.2.2.2.1).2.2
 have v2:Ev ts .newArgs false (k+1+1) (.ok [nd 12 y (zp ts (k+1+1)).pos []] 0 (k+1+1+1+1)):=Ev.of0 fun n=>by simp [step,eU,bI,r1,r2,want,ak h41]
 have v3:=uy (hh:=hh) h40 v2
 rw [q2] at v3
 refine ⟨nd 44 [110,101,119] (zp ts k).pos [nd 12 y (zp ts (k+1+1)).pos []],by rw [ay,ay];simp [ay],Ev.of1 v3 fun n q=>?_⟩
 have hsh:shp (nd 44 [110,101,119] p [nd 12 y p2 []])=2:=by simp [shp,nd,Tree.kind,Tree.text]
 simp only [step,yC,q2,q,R.ax,hsh]
 rfl
theorem XE_make {p:Int} {t:Tree} {l:List Tree} (ht:XT D t) (hl:l=[]∨∃ e,l=[e]∧XE D e):XE D (nd 44 [109,97,107,101] p (t::l)):=by
 intro n hn
 obtain ⟨m,rfl⟩:∃ m,n=m+2:=⟨n-2,by simp [nee,aJ,rnk] at hn;omega⟩
 have hm:∀ j',∀ s∈t::l,nee j' s<m:=fun j' s ms=>aC (by decide) hn (by omega) ms
 have hsh:shp (nd 44 [109,97,107,101] p (t::l))=2:=by simp [shp,nd,Tree.kind,Tree.text]
 rcases hl with rfl | ⟨e,rfl,he⟩
 ·rw [show tk D (m+2) .expr (nd 44 [109,97,107,101] p [t])=nw [109,97,107,101]::mw [40]::((tk D m .wtype t++[])++[mw [41]]) from rfl,List.append_nil]
  refine PEx.word rfl (by decide) fun ts k hh hA=>?_
  obtain ⟨h0,h1,hA⟩:=hA
  rw [aU] at hA
  obtain ⟨q1,q2,q3⟩:=tw h0 (by decide)
  have h40:=(tm h1).2.2
  have h41:=(tm hA.2.1).2.2
  obtain ⟨t',e1,v1⟩:=(ht m (hm _ t (by simp))).2 ts (k+1+1) false hA.1 (stp_T _ _ (.inr (.inl h41)))
  have v2:Ev ts .makeArgs false (k+1+1) (.ok [t'] 0 (k+1+1+(tk D m .wtype t).length+1)):=Ev.of1 v1 fun n q=>by
   simp only [step,bD,q,R.ax,ak h41,want]
   rfl
  have v3:=uy (hh:=hh) h40 v2
  rw [q2] at v3
  refine ⟨nd 44 [109,97,107,101] (zp ts k).pos [t'],by rw [ay,ay];simp [e1],Ev.of1 v3 fun n q=>?_⟩
  simp only [step,yC,q2,q,R.ax,hsh]
  exact okE rfl (by simp;omega)
 ·have hk:tk D (m+2) .expr (nd 44 [109,97,107,101] p [t,e])=nw [109,97,107,101]::mw [40]::(tk D m .wtype t++mw [44]::(tk D m .expr e++[mw [41]])):=by
   show nw [109,97,107,101]::mw [40]::((tk D m .wtype t++(mw [44]::tk D m .expr e))++[mw [41]])=_
   simp
  rw [hk]
  refine PEx.word rfl (by decide) fun ts k hh hA=>?_
  obtain ⟨h0,h1,hA⟩:=hA
  rw [aU] at hA
  obtain ⟨hA1,h44,hA⟩:=hA
  rw [aU] at hA
  obtain ⟨q1,q2,q3⟩:=tw h0 (by decide)
  have h40:=(tm h1).2.2
  have h44:=(tm h44).2.2
  have h41:=(tm hA.2.1).2.2
  obtain ⟨t',e1,v1⟩:=(ht m (hm _ t (by simp))).2 ts (k+1+1) false hA1 (stp_T _ _ (.inl h44))
  obtain ⟨e',e2,v2⟩:=(he m (hm _ e (by simp))).expr false hA.1 (bg h41 (by decide))
  have v3:Ev ts .makeArgs false (k+1+1) (.ok [t',e'] 0 (k+1+1+(tk D m .wtype t).length+1+(tk D m .expr e).length+1)):=Ev.of2 v1 v2 fun n w1 w2=>by
   simp only [step,bD,w1,R.ax,ak h44]
   rw [if_pos (by decide),w2]
   simp only [R.ax,want,ak h41]
   rw [if_pos (by decide)]
  have v4:=uy (hh:=hh) h40 v3
  rw [q2] at v4
  refine ⟨nd 44 [109,97,107,101] (zp ts k).pos [t',e'],by rw [ay,ay];simp [e1,e2],Ev.of1 v4 fun n q=>?_⟩
  simp only [step,yC,q2,q,R.ax,hsh]
  exact okE rfl (by simp;omega)
theorem itm_I {T:List TC} {x:List UInt8} {p:Int} {e:Tree} (hx:eu x=false) (h:PEx T e):Itm .initial nT (nw x::mw [58]::T) (nd 5 x p [e]):=fun ts k hh ha hs=>by
 obtain ⟨r1,r2,r3⟩:=tn ha.1 hx
 have h58:=(tm ha.2.1).2.2
 obtain ⟨e',e1,v1⟩:=h.expr hh ha.2.2 (by rw [show k+1+1+T.length=k+(nw x::mw [58]::T).length by simp;omega];exact hs)
 refine ⟨nd 5 x (zp ts k).pos [e'],0,by rw [ay,ay];simp [e1],Ev.of1 v1 fun n q=>?_⟩
 simp only [It.job,step,dR,bI,r1,r2,want,ak h58,q,R.ax]
 exact okE rfl (by simp;omega)
def XI (D:Int→List UInt8) (t:Tree):Prop:=∃ x p e,t=nd 5 x p [e]∧eu x=false∧XE D e
theorem XE_49 {p:Int} {x:List UInt8} {l:List Tree} (hx:eu x=false) (hl:∀ t∈l,XI D t):XE D (nd 49 x p l):=by
 intro n hn
 obtain ⟨m,rfl⟩:∃ m,n=m+2:=⟨n-2,by simp [nee,aJ,rnk] at hn;omega⟩
 have hit:∀ t∈l,Itm .initial nT (tk D (m+1) .initial t) t∧∀ ts k,At ts k (tk D (m+1) .initial t)→yb ts k [[125]]=false:=fun t mt=>by
  obtain ⟨y,p2,e,rfl,hy,he⟩:=hl t mt
  have hme:nee .expr e<m:=by
   have h1:=aC (j':=.file) (c:=2) (by decide) hn (by omega) mt
   simp [nee,aJ,rnk] at h1 ⊢
   omega
  have ht:tk D (m+1) .initial (nd 5 y p2 [e])=nw y::mw [58]::tk D m .expr e:=rfl
  rw [ht]
  exact ⟨itm_I hy (he m hme),fun ts k ha=>by rw [ak (tn ha.1 hy).2.2];rfl⟩
 have ht:tk D (m+2) .expr (nd 49 x p l)=mw [40]::((mw [38]::nw x::mw [123]::(dM (l.map (tk D (m+1) .initial))++[mw [125]]))++[mw [41]]):=by
  show (mw [40]::mw [38]::nw x::mw [123]::dM (l.map (tk D (m+1) .initial)))++[mw [125],mw [41]]=_
  simp
 rw [ht]
 refine PEx.paren (by simp [shp,nd,Tree.kind]) fun ts k hA hc=>?_
 obtain ⟨q1,q2,q3⟩:=tm hA.1
 obtain ⟨r1,r2,r3⟩:=tn hA.2.1 hx
 have h123:=(tm hA.2.2.1).2.2
 obtain ⟨l',e1,v1⟩:=kW (h:=false) stp_E (tk D (m+1) .initial) l [] (k+1+1+1) (fun t mt=>(hit t mt).1) (fun t mt=>(hit t mt).2) hA.2.2.2
 have v2:=sV h123 v1
 have v3:Ev ts .markOperand false k (.ok [nd 49 x (zp ts k).pos l'] 0 (k+1+1+1+(dM (l.map (tk D (m+1) .initial))).length+1)):=Ev.of1 v2 fun n q=>by
  simp only [step,yG,ak q3,bI,r1,r2,q,R.bind,List.nil_append]
  rfl
 have hc2:yI ts (k+1+1+1+(dM (l.map (tk D (m+1) .initial))).length+1)=[41]:=by rw [←hc];congr 1;simp;omega
 have v4:=tY q1 (by rw [ak q3];decide) v3 (bg hc2 (by decide)).1
 refine ⟨nd 49 x (zp ts k).pos l',0,by rw [ay,ay,e1], ?_⟩
 have v5:=pO v4 (by rw [hc2];decide)
 rw [show k+1+1+1+(dM (l.map (tk D (m+1) .initial))).length+1=k+(mw [38]::nw x::mw [123]::(dM (l.map (tk D (m+1) .initial))++[mw [125]])).length by simp;omega] at v5
 exact v5
theorem XE_50 {p:Int} {t:Tree} {l:List Tree} (ht:XT D t) (hl:∀ e∈l,XE D e):XE D (nd 50 [] p (t::l)):=by
 intro n hn
 obtain ⟨m,rfl⟩:∃ m,n=m+1:=⟨n-1,by simp [nee,aJ,rnk] at hn;omega⟩
 have hm:∀ j',∀ s∈t::l,nee j' s<m:=fun j' s ms=>aC (by decide) hn (by omega) ms
 have htk:tk D (m+1) .expr (nd 50 [] p (t::l))=mw [40]::((mw [91]::mw [93]::(tk D m .wtype t++mw [123]::(dM (l.map (tk D m .expr))++[mw [125]])))++[mw [41]]):=by
  show ((mw [40]::mw [91]::mw [93]::tk D m .wtype t)++(mw [123]::dM (l.map (tk D m .expr))))++[mw [125],mw [41]]=_
  simp
 rw [htk]
 refine PEx.paren (by simp [shp,nd,Tree.kind]) fun ts k hA hc=>?_
 obtain ⟨q1,q2,q3⟩:=tm hA.1
 have h93:=(tm hA.2.1).2.2
 have hA2:=hA.2.2
 rw [aU] at hA2
 have h123:=(tm hA2.2.1).2.2
 obtain ⟨t',e0,v0⟩:=(ht m (hm _ t (by simp))).2 ts (k+1+1) false hA2.1 (by unfold jc;rw [ak h123];decide)
 obtain ⟨l',e1,v1⟩:=kW (h:=false) stp_E (tk D m .expr) l [] (k+1+1+(tk D m .wtype t).length+1) (fun e me=>itm_E (hl e me m (hm _ e (by simp [me])))) (fun e me ts k ha=>(hl e me m (hm _ e (by simp [me]))).1.no ha (by decide) (by decide)) hA2.2.2
 have v2:=sV h123 v1
 have v3:Ev ts .markOperand false k (.ok [nd 50 [] (zp ts k).pos (t'::l')] 0 (k+1+1+(tk D m .wtype t).length+1+(dM (l.map (tk D m .expr))).length+1)):=Ev.of2 v0 v2 fun n w1 w2=>by
  simp only [step,yG,ak q3,want,ak h93,w1,R.ax,w2,R.bind,List.nil_append]
  rfl
 have hc2:yI ts (k+1+1+(tk D m .wtype t).length+1+(dM (l.map (tk D m .expr))).length+1)=[41]:=by rw [←hc];congr 1;simp;omega
 have v4:=tY q1 (by rw [ak q3];decide) v3 (bg hc2 (by decide)).1
 refine ⟨nd 50 [] (zp ts k).pos (t'::l'),0,by rw [ay,ay,List.map_cons,List.map_cons,e0,e1], ?_⟩
 have v5:=pO v4 (by rw [hc2];decide)
 rw [show k+1+1+(tk D m .wtype t).length+1+(dM (l.map (tk D m .expr))).length+1=k+(mw [91]::mw [93]::(tk D m .wtype t++mw [123]::(dM (l.map (tk D m .expr))++[mw [125]]))).length by simp;omega] at v5
 exact v5
end
open Lx Lx.Sp
section
variable {D : Int → List UInt8}
def XN (D:Int→List UInt8) (kd:Int) (t:Tree):Prop:=∃ x p y,t=nd kd x p [y]∧eu x=false∧XT D y
theorem jM {T:List TC} {x:List UInt8} {y:Tree} {kd:Int} (hx:eu x=false) (h:RTx T y) {ts:List Tok} {k:Nat} (hh:Bool) (ha:At ts k (nw x::T)) (hs:jc ts (k+1+T.length)):∃ y',er y'=er y∧Ev ts (.named kd) hh k (.ok [nd kd x (zp ts k).pos [y']] 0 (k+1+T.length)):=by
 obtain ⟨r1,r2,r3⟩:=tn ha.1 hx
 obtain ⟨y',e,v⟩:=h.2 ts (k+1) hh ha.2 hs
 refine ⟨y',e,Ev.of1 v fun n q=>?_⟩
 simp only [step,fH,bI,r1,r2,q,R.ax]
 rfl
def RFx (T:List TC) (l:List Tree):Prop:=∀ ts k h,At ts k T→∃ l',l'.map er=l.map er∧Ev ts .function h k (.ok l' 0 (k+T.length))
def XFn (D:Int→List UInt8) (l:List Tree):Prop:=∃ p ps r b,l=[nd 6 [] p ps,r,b]∧(∀ t∈ps,XN D 7 t)∧(r=aB∨(XT D r∧r.kind≠8))∧XB D b
theorem fn_parse {kd:Int} {x:List UInt8} {p:Int} {l:List Tree} (hk:kd≠0) (h:XFn D l) {n:Nat} (hn:nee .function (nd kd x p l)<n):RFx (tk D n .function (nd kd x p l)) l:=by
 obtain ⟨pp,ps,r,b,rfl,hps,hr,hb⟩:=h
 obtain ⟨m,rfl⟩:∃ m,n=m+4:=⟨n-4,by simp [nee,aJ,rnk] at hn;omega⟩
 have hm:∀ j',∀ s∈[nd 6 [] pp ps,r,b],nee j' s<m+3:=fun j' s ms=>aC (n:=m+3) (c:=1) hk hn (by omega) ms
 have hmp:∀ j',∀ s∈ps,nee j' s<m:=fun j' s ms=>by
  have h1:=oJ (List.mem_map_of_mem (f:=sz) ms)
  have h2:=kK j'
  have h3:=hm .file (nd 6 [] pp ps) (by simp)
  have h4:rnk .file=0:=rfl
  simp only [nee,aJ] at h3 ⊢
  rw [if_neg (by decide)] at h3
  omega
 have ht:tk D (m+4) .function (nd kd x p [nd 6 [] pp ps,r,b])=mw [40]::(dM (ps.map (tk D (m+2) .param))++([mw [41]]++(unT [] (tk D (m+3) .wtype) r++tk D (m+3) .block b))):=by
  show ((mw [40]::dM (ps.map (tk D (m+2) .param)))++(mw [41]::unT [] (tk D (m+3) .wtype) r))++tk D (m+3) .block b=_
  simp
 rw [ht]
 intro ts k hh hA
 obtain ⟨h0,hA⟩:=hA
 rw [←List.append_assoc,aU] at hA
 obtain ⟨hA1,hA2⟩:=hA
 rw [aU] at hA2
 have h40:=(tm h0).2.2
 have hit:∀ t∈ps,Itm .named jc (tk D (m+2) .param t) t∧∀ ts k,At ts k (tk D (m+2) .param t)→yb ts k [[41]]=false:=fun t mt=>by
  obtain ⟨y,p2,z,rfl,hy,hz⟩:=hps t mt
  have hme:nee .wtype z<m:=by
   have h1:=hmp .file _ mt
   simp [nee,aJ,rnk] at h1 ⊢
   omega
  have ht:tk D (m+2) .param (nd 7 y p2 [z])=nw y::tk D m .wtype z:=rfl
  rw [ht]
  refine ⟨fun ts k hh ha hs=>?_,fun ts k ha=>by rw [ak (tn ha.1 hy).2.2];rfl⟩
  obtain ⟨z',e,v⟩:=jM (kd:=7) hy (hz m hme) hh ha (by rw [show k+1+(tk D m .wtype z).length=k+(nw y::tk D m .wtype z).length by simp;omega];exact hs)
  refine ⟨nd 7 y (zp ts k).pos [z'],0,by rw [ay,ay];simp [e], ?_⟩
  rw [show k+1+(tk D m .wtype z).length=k+(nw y::tk D m .wtype z).length by simp;omega] at v
  exact v
 obtain ⟨ps',e1,v1⟩:=kF (h:=hh) stp_T (tk D (m+2) .param) ps (k+1) (fun t mt=>(hit t mt).1) (fun t mt=>(hit t mt).2) hA1
 have hl1:k+1+(dM (ps.map (tk D (m+2) .param))++[mw [41]]).length=k+1+(dM (ps.map (tk D (m+2) .param))).length+1:=by simp;omega
 rw [hl1] at hA2
 obtain ⟨⟨br,hbr⟩,hbp⟩:=hb (m+3) (hm _ b (by simp))
 have h123:yI ts (k+1+(dM (ps.map (tk D (m+2) .param))).length+1+(unT [] (tk D (m+3) .wtype) r).length)=[123]:=by
  have:=hA2.2
  rw [hbr] at this
  exact (tm this.1).2.2
 obtain ⟨r',e2,v2⟩:=res_of hr (hm _ r (by simp)) ts _ hh hA2.1 (by unfold jc;rw [ak h123];decide)
 obtain ⟨b',e3,v3⟩:=hbp ts _ false hA2.2
 refine ⟨[nd 6 [] (zp ts k).pos ps',r',b'],by simp [ay,e1,e2,e3],Ev.of3 v1 v2 v3 fun n w1 w2 w3=>?_⟩
 simp only [step,bJ,want,ak h40,w1,R.bind,w2,R.ax,w3]
 exact okE rfl (by simp;omega)
theorem XE_48 {p:Int} {l:List Tree} (h:XFn D l):XE D (nd 48 [] p l):=by
 intro n hn
 obtain ⟨m,rfl⟩:=aH hn
 have hm:nee .function (nd 48 [] p l)<m:=by simp only [nee,rnk] at hn ⊢;omega
 rw [show tk D (m+1) .expr (nd 48 [] p l)=nw [102,117,110,99]::tk D m .function (nd 48 [] p l) from rfl]
 refine PEx.word rfl (by decide) fun ts k hh hA=>?_
 obtain ⟨q1,q2,q3⟩:=tw hA.1 (by decide)
 obtain ⟨l',e,v⟩:=fn_parse (by decide) h hm ts (k+1) hh hA.2
 refine ⟨nd 48 [] (zp ts k).pos l',by rw [ay,ay,e],Ev.of1 v fun n q=>?_⟩
 simp only [step,yC,q2,q,R.bind,show shp (nd 48 [] p l)=2 by simp [shp,nd,Tree.kind]]
 exact okE rfl (by simp;omega)
def qX (ts:List Tok) (k:Nat):Prop:=yI ts k=[59]∨yI ts k=[123]
theorem nU {ts:List Tok} {k:Nat} (h:qX ts k):nT ts k:=by
 rcases h with h | h <;> exact bg h (by decide)
def RSx (T:List TC) (t:Tree):Prop:=(∀ ts k,At ts k T→yI ts (k+T.length)=[59]→behind ts k=false)∧∀ ts k h,At ts k T→yI ts (k+T.length)=[59]→∃ t',er t'=er t∧Ev ts .stmt h k (.ok [t'] 0 (k+T.length))
def XS (D:Int→List UInt8) (t:Tree):Prop:=∀ n,nee .stmt t<n→RSx (tk D n .stmt t) t
theorem lS (f:Tree→List TC) {ts:List Tok} {h:Bool} (e2:Nat) (hend:yb ts e2 [[59]]=false) (hb:behind ts e2=true):∀ (l acc:List Tree) (k:Nat),(∀ t∈l,RSx (f t) t)→At ts k (dW f l)→e2=k+(dW f l).length→
 ∃ l',l'.map er=l.map er∧Ev ts (.stmts acc) h k (.ok (acc++l') 0 e2)
 | [],acc,k,_,ha,he=>by
   have hk:e2=k:=by simpa [dW] using he
   subst hk
   exact ⟨[],rfl,Ev.of0 fun n=>by simp [step,gm,hb,hend]⟩
 | a::l,acc,k,hi,ha,he=>by
   have hl:dW f (a::l)=f a++(sm::dW f l):=by simp [dW]
   rw [hl,aU] at ha
   have h59:=(tsm ha.2.1).2.2
   have hA:=hi a (by simp)
   obtain ⟨a',e1,v1⟩:=hA.2 ts k h ha.1 h59
   obtain ⟨l',e3,v2⟩:=lS (h:=h) f e2 hend hb l (acc++[a']) (k+(f a).length+1) (fun t m=>hi t (by simp [m])) ha.2.2 (by rw [he,hl];simp;omega)
   refine ⟨a'::l',by simp [e1,e3],Ev.of2 v1 v2 fun n w1 w2=>?_⟩
   simp only [step,gm,hA.1 ts k ha.1 h59,Bool.false_eq_true,if_false,w1,R.ax,ak h59]
   rw [if_pos (by decide),w2]
   simp
theorem XB_16 {p:Int} {l:List Tree} (hl:∀ t∈l,XS D t):XB D (nd 16 [] p l):=by
 intro n hn
 obtain ⟨m,rfl⟩:=aH hn
 have hm:∀ t∈l,nee .stmt t<m:=fun t mt=>aC (by decide) hn (by omega) mt
 have ht:tk D (m+1) .block (nd 16 [] p l)=mw [123]::(dW (tk D m .stmt) l++[mw [125]]):=rfl
 rw [ht]
 refine ⟨⟨_,rfl⟩,fun ts k hh hA=>?_⟩
 obtain ⟨h0,hA⟩:=hA
 rw [aU] at hA
 have h123:=(tm h0).2.2
 have h125:=(tm hA.2.1).2.2
 obtain ⟨l',e,v⟩:=lS (h:=hh) (tk D m .stmt) (k+1+(dW (tk D m .stmt) l).length) (by rw [ak h125];decide) (by unfold behind;rw [ak h125];decide) l [] (k+1) (fun t mt=>hl t mt m (hm t mt)) hA.1 rfl
 refine ⟨nd 16 [] (zp ts k).pos l',by rw [ay,ay,e],Ev.of1 v fun n q=>?_⟩
 simp only [step,gW,want,ak h123,q,R.bind,ak h125,List.nil_append]
 exact okE rfl (by simp;omega)
def RCx (T:List TC) (t:Tree):Prop:=∀ ts k h,At ts k T→(yI ts (k+T.length)=[125]∨yI ts (k+T.length)=[99,97,115,101]∨yI ts (k+T.length)=[100,101,102,97,117,108,116])→∃ t',er t'=er t∧Ev ts .clauseBlock h k (.ok [t'] 0 (k+T.length))
theorem cb_parse {p:Int} {l:List Tree} (hl:∀ t∈l,XS D t) {n:Nat} (hn:nee .clauseStmts (nd 16 [] p l)<n):RCx (tk D n .clauseStmts (nd 16 [] p l)) (nd 16 [] p l):=by
 obtain ⟨m,rfl⟩:=aH hn
 have hm:∀ t∈l,nee .stmt t<m:=fun t mt=>aC (by decide) hn (by omega) mt
 rw [show tk D (m+1) .clauseStmts (nd 16 [] p l)=mw [58]::dW (tk D m .stmt) l from rfl]
 intro ts k hh hA hs
 have h58:=(tm hA.1).2.2
 have he:k+(mw [58]::dW (tk D m .stmt) l).length=k+1+(dW (tk D m .stmt) l).length:=by simp;omega
 rw [he] at hs ⊢
 have hb:yb ts (k+1+(dW (tk D m .stmt) l).length) [[59]]=false∧behind ts (k+1+(dW (tk D m .stmt) l).length)=true:=by
  unfold behind
  rcases hs with h | h | h <;> rw [ak h,ak h] <;> decide
 obtain ⟨l',e,v⟩:=lS (h:=hh) (tk D m .stmt) _ hb.1 hb.2 l [] (k+1) (fun t mt=>hl t mt m (hm t mt)) hA.2 rfl
 refine ⟨nd 16 [] (zp ts k).pos l',by rw [ay,ay,e],Ev.of1 v fun n q=>?_⟩
 simp only [step,aX,want,ak h58,q,R.bind,List.nil_append]
 rfl
end
end Go.Proofs.YtgbjpnnockoomaaGreatDoor.Px
