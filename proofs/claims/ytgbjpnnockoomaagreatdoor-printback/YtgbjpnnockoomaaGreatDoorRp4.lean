import Derived.Test.YtgbjpnnockoomaaGreatDoorRp2
set_option linter.unusedVariables false
set_option linter.unusedSimpArgs false
namespace Go.Proofs.YtgbjpnnockoomaaGreatDoor.Px
open Lx Lx.Sp
def stopP (ts:List Tok) (k:Nat):Prop:=yb ts k [[40]]=false∧yb ts k [[91]]=false∧yb ts k [[46]]=false
def nT (ts:List Tok) (k:Nat):Prop:=stopP ts k∧aF (yI ts k)≤0
theorem bg {ts:List Tok} {k:Nat} {x:List UInt8} (h:yI ts k=x) (h2:((!x.isEmpty&&[[40],[91],[46]].contains x)=false∧aF x≤0)):nT ts k:=by
 refine ⟨⟨?_, ?_, ?_⟩,by rw [h];exact h2.2⟩ <;> rw [ak h] <;> revert h2 <;> cases x with
  | nil=>simp
  | cons a r=>simp;intro h1 h2 h3 _ e;simp_all
theorem stp_E:Stp nT:=by
 rintro ts k (h | h | h) <;> exact bg h (by decide)
def shp (t:Tree):Int:=if t.kind=40 then 3 else if t.kind=45∨t.kind=47 then 4 else if t.kind=43∨(t.kind=44∧t.text≠[109,97,107,101]∧t.text≠[110,101,119]) then 5 else 2
def xw:List (List UInt8):=[[116,114,117,101],[102,97,108,115,101],[110,105,108],[102,117,110,99],[109,97,107,101],[110,101,119],[97,112,112,101,110,100],[99,97,112],[99,108,111,115,101],[108,101,110],[112,97,110,105,99],[112,114,105,110,116],[114,101,99,111,118,101,114]]
theorem xw_wd {w:List UInt8} (h:xw.contains w=true):eu w=true:=by
 have h0:(xw.all fun y=>eu y)=true:=by decide
 exact List.all_eq_true.1 h0 w (List.contains_iff_mem.1 h)
def HdE (T:List TC):Prop:=∃ x r,T=x::r∧((x.1=1∨x.1=2∨x.1=3)∨(∃ w,xw.contains w=true∧x=nw w)∨x=mw [40])∧∀ y r',r=y::r'→x.1=1→y.2.1≠[58]
theorem HdE.sg {T:List TC} (h:HdE T) {ts:List Tok} {k:Nat} (ha:At ts k T):yI ts k=[]∨xw.contains (yI ts k)=true∨yI ts k=[40]:=by
 obtain ⟨x,r,rfl,hx,-⟩:=h
 rcases hx with hx | ⟨w,hw,rfl⟩ | rfl
 ·left
  have h0:(zp ts k).kind=x.1:=by rw [←ha.1];rfl
  unfold yI
  rw [if_neg (by omega)]
 ·right;left;rw [(tw ha.1 (xw_wd hw)).2.2];exact hw
 ·right;right;exact (tm ha.1).2.2
theorem HdE.no {T:List TC} (h:HdE T) {ts:List Tok} {k:Nat} (ha:At ts k T) {l:List (List UInt8)} (h1:(xw.all fun w=>!l.contains w)=true) (h2:l.contains [40]=false):yb ts k l=false:=by
 rcases h.sg ha with h | h | h
 ·rw [ak h];rfl
 ·unfold yb
  have h3:=List.all_eq_true.1 h1 _ (List.contains_iff_mem.1 h)
  simp only [Bool.not_eq_true'] at h3
  rw [h3];simp
 ·rw [ak h,h2];rfl
theorem HdE.lab {T:List TC} (h:HdE T) {ts:List Tok} {k:Nat} (ha:At ts k T) (h1:T.length=1→(zp ts (k+1)).text≠[58]):labels ts k=false:=by
 obtain ⟨x,r,rfl,-,hx⟩:=h
 have h0:(zp ts k).kind=x.1:=by rw [←ha.1];rfl
 have h2:x.1=1→(zp ts (k+1)).text≠[58]:=by
  intro hx1
  cases r with
  | nil=>exact h1 rfl
  | cons y r'=>
    have:=hx y r' rfl hx1
    rw [←ha.2.1] at this
    exact this
 unfold labels
 by_cases hk:(zp ts k).kind=1
 ·have:=h2 (by omega)
  simp [hk,this]
 ·simp [hk]
theorem HdE.app {T:List TC} (h:HdE T) {U:List TC} (hU:∀ y r,U=y::r→y.2.1≠[58]):HdE (T++U):=by
 obtain ⟨x,r,rfl,hx,hy⟩:=h
 refine ⟨x,r++U,rfl,hx,fun y r' e h1=>?_⟩
 cases r with
 | nil=>exact hU y r' e
 | cons z r=>cases e;exact hy _ _ rfl h1
def PEx (T:List TC) (t:Tree):Prop:=HdE T∧∀ ts k h,At ts k T→∃ t',er t'=er t∧∀ r,Ev ts (.primMore t' (shp t)) h (k+T.length) r→Ev ts .primary h k r
theorem PEx.un {T:List TC} {t:Tree} (h:PEx T t) {ts:List Tok} {k:Nat} (hh:Bool) (ha:At ts k T) (hs:stopP ts (k+T.length)):∃ t',er t'=er t∧Ev ts .primary hh k (.ok [t'] (shp t) (k+T.length))∧Ev ts .shaped hh k (.ok [t'] (shp t) (k+T.length))∧Ev ts .unary hh k (.ok [t'] 0 (k+T.length)):=by
 obtain ⟨t',e,f⟩:=h.2 ts k hh ha
 have v:=f _ (Ev.of0 (r:=.ok [t'] (shp t) (k+T.length)) fun n=>by simp [step,aQ,hs.1,hs.2.1,hs.2.2])
 have hn:=h.1.no ha (l:=[[45],[33],[60,45]]) (by decide) (by decide)
 have v2:Ev ts .shaped hh k (.ok [t'] (shp t) (k+T.length)):=Ev.of1 v fun n q=>by simp [step,bW,hn,q]
 exact ⟨t',e,v,v2,Ev.of1 v2 fun n q=>by simp [step,iw,q,R.ax]⟩
theorem ve {ts:List Tok} {k:Nat} (h:aF (yI ts k)≤0) {hh:Bool} (t:Tree) {least:Int} (hl:1≤least):Ev ts (.opOf t least) hh k (.ok [t] 0 k):=Ev.of0 fun n=>by
 have:¬least≤aF (yI ts k):=by omega
 simp [step,jy,this]
theorem op_of {ts:List Tok} {k k2:Nat} {hh:Bool} {t:Tree} (v:Ev ts .unary hh k (.ok [t] 0 k2)) (h:aF (yI ts k2)≤0) {least:Int} (hl:1≤least):Ev ts (.op least) hh k (.ok [t] 0 k2):=
 Ev.of2 v (ve (hh:=hh) h t hl) fun n q1 q2=>by simp [step,fOp,q1,q2,R.ax]
theorem pO {ts:List Tok} {k k2:Nat} {hh:Bool} {t:Tree} {s:Int} (v:Ev ts .shaped hh k (.ok [t] s k2)) (h:aF (yI ts k2)≤0):Ev ts .expr hh k (.ok [t] 0 k2):=by
 have v2:Ev ts .unary hh k (.ok [t] 0 k2):=Ev.of1 v fun n q=>by simp [step,iw,q,R.ax]
 exact Ev.of1 (op_of v2 h (least:=1) (by omega)) fun n q=>by simp [step,q]
theorem PEx.expr {T:List TC} {t:Tree} (h:PEx T t) {ts:List Tok} {k:Nat} (hh:Bool) (ha:At ts k T) (hs:nT ts (k+T.length)):∃ t',er t'=er t∧Ev ts .expr hh k (.ok [t'] 0 (k+T.length)):=by
 obtain ⟨t',e,_,v,_⟩:=h.un hh ha hs.1
 exact ⟨t',e,pO v hs.2⟩
theorem itm_E {T:List TC} {t:Tree} (h:PEx T t):Itm .expr nT T t:=fun ts k hh ha hs=>by
 obtain ⟨t',e,v⟩:=h.expr hh ha hs
 exact ⟨t',0,e,v⟩
theorem PEx.leaf {x:TC} {t:Tree} (hd:HdE [x]) (h:∀ ts k,er3 (zp ts k)=x→∃ t',er t'=er t∧∀ n h,step ts (run ts n) .operand h k=.ok [t'] (shp t) (k+1)):PEx [x] t:=by
 refine ⟨hd,fun ts k hh ha=>?_⟩
 obtain ⟨t',e,f⟩:=h ts k ha.1
 refine ⟨t',e,fun r v=>Ev.of2 (Ev.of0 fun n=>f n hh) v fun n q1 q2=>?_⟩
 simp only [step,dK,q1,R.ax]
 exact q2
theorem PEx.paren {T:List TC} {t:Tree} (hsh:shp t=2) (h:∀ ts k,At ts k T→yI ts (k+T.length)=[41]→∃ t' s,er t'=er t∧Ev ts .expr false k (.ok [t'] s (k+T.length))):PEx (mw [40]::(T++[mw [41]])) t:=by
 refine ⟨⟨_,_,rfl,.inr (.inr rfl),fun _ _ _ h=>by cases h⟩,fun ts k hh ha=>?_⟩
 obtain ⟨h0,ha⟩:=ha
 rw [aU] at ha
 obtain ⟨p1,p2,p3⟩:=tm h0
 obtain ⟨c1,c2,c3⟩:=tm ha.2.1
 obtain ⟨t',s,e,v⟩:=h ts (k+1) ha.1 c3
 refine ⟨t',e,fun r v2=>?_⟩
 have v3:Ev ts .markOperand hh k (.ok [t'] 0 (k+1+T.length+1)):=Ev.of1 v fun n q=>by simp [step,yG,ak p3,q,R.ax,want,ak c3]
 have v4:Ev ts .operand hh k (.ok [t'] 2 (k+1+T.length+1)):=Ev.of1 v3 fun n q=>by simp [step,bf,p1,q,R.ax]
 refine Ev.of2 v4 v2 fun n q1 q2=>?_
 simp only [step,dK,q1,R.ax]
 rw [hsh] at q2
 rw [show k+1+T.length+1=k+(mw [40]::(T++[mw [41]])).length by simp;omega]
 exact q2
theorem PEx.tail {T U:List TC} {a t:Tree} (h:PEx T a) (hU:∀ y r,U=y::r→y.2.1≠[58]) (k2:∀ ts k hh a',er a'=er a→At ts k U→∃ t',er t'=er t∧∀ r,Ev ts (.primMore t' (shp t)) hh (k+U.length) r→Ev ts (.primMore a' (shp a)) hh k r):PEx (T++U) t:=by
 refine ⟨h.1.app hU,fun ts k hh ha=>?_⟩
 rw [aU] at ha
 obtain ⟨a',e,f⟩:=h.2 ts k hh ha.1
 obtain ⟨t',e2,g⟩:=k2 ts _ hh a' e ha.2
 refine ⟨t',e2,fun r v=>f r (g r ?_)⟩
 rw [List.length_append,←Nat.add_assoc] at v
 exact v
section
variable (D : Int → List UInt8)
def XE (t:Tree):Prop:=∀ n,nee .expr t<n→PEx (tk D n .expr t) t
variable {D}
theorem XE_36 {v p:Int} : XE D (.mk 36 [] v p []):=by
 intro n hn
 obtain ⟨m,rfl⟩:=aH hn
 rw [show tk D (m+1) .expr (.mk 36 [] v p [])=[(2,D v,v)] from rfl]
 refine PEx.leaf ⟨_,_,rfl,.inl (.inr (.inl rfl)),fun _ _ h=>by cases h⟩ fun ts k h=>?_
 obtain ⟨h1,h2,h3⟩:=tnum h
 exact ⟨.mk 36 [] (zp ts k).num (zp ts k).pos [],by rw [iZ,iZ,h2],fun n hh=>by simp [step,bf,h1,shp,Tree.kind]⟩
theorem XE_37 {x:List UInt8} {p:Int} : XE D (nd 37 x p []):=by
 intro n hn
 obtain ⟨m,rfl⟩:=aH hn
 rw [show tk D (m+1) .expr (nd 37 x p [])=[(3,x,0)] from rfl]
 refine PEx.leaf ⟨_,_,rfl,.inl (.inr (.inr rfl)),fun _ _ h=>by cases h⟩ fun ts k h=>?_
 obtain ⟨h1,h2,h3⟩:=tstr h
 exact ⟨nd 37 x (zp ts k).pos [],by rw [ay,ay],fun n hh=>by simp [step,bf,h1,h2,shp,nd,Tree.kind]⟩
theorem XE_40 {x:List UInt8} {p:Int} (hx:eu x=false):XE D (nd 40 x p []):=by
 intro n hn
 obtain ⟨m,rfl⟩:=aH hn
 rw [show tk D (m+1) .expr (nd 40 x p [])=[nw x] from rfl]
 refine PEx.leaf ⟨_,_,rfl,.inl (.inl (by simp [nw,nmK,hx])),fun _ _ h=>by cases h⟩ fun ts k h=>?_
 obtain ⟨h1,h2,h3⟩:=tn h hx
 exact ⟨nd 40 x (zp ts k).pos [],by rw [ay,ay],fun n hh=>by simp [step,bf,h1,h2,shp,nd,Tree.kind]⟩
theorem op_word {ts:List Tok} {k:Nat} {hh:Bool} (h4:(zp ts k).kind=4) {r:R} (v:Ev ts .wordOperand hh k r):Ev ts .operand hh k r:=Ev.of1 v fun n q=>by simp [step,bf,h4,q]
theorem PEx.word {T:List TC} {t:Tree} {w:List UInt8} {U:List TC} (hT:T=nw w::U) (hw:xw.contains w=true) (h:∀ ts k hh,At ts k T→∃ t',er t'=er t∧Ev ts .wordOperand hh k (.ok [t'] (shp t) (k+T.length))):PEx T t:=by
 subst hT
 refine ⟨⟨_,_,rfl,.inr (.inl ⟨w,hw,rfl⟩),fun _ _ _ h=>by simp [nw,nmK,xw_wd hw] at h⟩,fun ts k hh ha=>?_⟩
 obtain ⟨t',e,v⟩:=h ts k hh ha
 refine ⟨t',e,fun r v2=>Ev.of2 (op_word (tw ha.1 (xw_wd hw)).1 v) v2 fun n q1 q2=>?_⟩
 simp only [step,dK,q1,R.ax]
 exact q2
theorem XE_38 {x:List UInt8} {p:Int} (hx:x=[116,114,117,101]∨x=[102,97,108,115,101]):XE D (nd 38 x p []):=by
 intro n hn
 obtain ⟨m,rfl⟩:=aH hn
 rw [show tk D (m+1) .expr (nd 38 x p [])=[nw x] from rfl]
 have hw:xw.contains x=true:=by rcases hx with rfl | rfl <;> decide
 refine PEx.word rfl hw fun ts k hh ha=>⟨nd 38 x (zp ts k).pos [],by rw [ay,ay],Ev.of0 fun n=>?_⟩
 rcases hx with rfl | rfl <;> simp [step,yC,(tw ha.1 (xw_wd hw)).2.1,shp,nd,Tree.kind]
theorem XE_39 {p:Int} : XE D (nd 39 [] p []):=by
 intro n hn
 obtain ⟨m,rfl⟩:=aH hn
 rw [show tk D (m+1) .expr (nd 39 [] p [])=[nw [110,105,108]] from rfl]
 refine PEx.word rfl (by decide) fun ts k hh ha=>⟨nd 39 [] (zp ts k).pos [],by rw [ay,ay],Ev.of0 fun n=>?_⟩
 simp [step,yC,(tw ha.1 (by decide)).2.1,shp,nd,Tree.kind]
theorem XE_41 {x:List UInt8} {p:Int} {a:Tree} (hx:x=[45]∨x=[33]∨x=[60,45]) (h:XE D a):XE D (nd 41 x p [a]):=by
 intro n hn
 obtain ⟨m,rfl⟩:=aH hn
 have hm:nee .expr a<m:=by simp [nee,aJ,rnk] at hn ⊢;omega
 rw [show tk D (m+1) .expr (nd 41 x p [a])=mw [40]::((mw x::tk D m .expr a)++[mw [41]]) from rfl]
 refine PEx.paren (by simp [shp,nd,Tree.kind]) fun ts k ha hc=>?_
 obtain ⟨q1,q2,q3⟩:=tm ha.1
 have hc2:yI ts (k+1+(tk D m .expr a).length)=[41]:=by rw [←hc];congr 1;simp;omega
 obtain ⟨a',e,_,_,v⟩:=(h m hm).un false ha.2 (bg hc2 (by decide)).1
 refine ⟨nd 41 x (zp ts k).pos [a'],0,by rw [ay,ay,List.map_cons,List.map_cons,e],pO (s:=if x=[60,45] then 1 else 0) (Ev.of1 v fun n q=>?_) (by rw [hc];decide)⟩
 have hs:yb ts k [[45],[33],[60,45]]=true:=by rw [ak q3];rcases hx with rfl | rfl | rfl <;> decide
 simp only [step,bW,hs,if_true,q,R.ax,q2]
 exact okE rfl (by simp;omega)
theorem XE_42 {x:List UInt8} {p:Int} {a b:Tree} (hx:1≤aF x) (ha:XE D a) (hb:XE D b):XE D (nd 42 x p [a,b]):=by
 intro n hn
 obtain ⟨m,rfl⟩:∃ m,n=m+2:=⟨n-2,by simp [nee,aJ,rnk] at hn;omega⟩
 have hma:nee .expr a<m:=by simp [nee,aJ,rnk] at hn ⊢;omega
 have hmb:nee .expr b<m:=by simp [nee,aJ,rnk] at hn ⊢;omega
 rw [show tk D (m+2) .expr (nd 42 x p [a,b])=mw [40]::((tk D m .expr a++mw x::tk D m .expr b)++[mw [41]]) from rfl]
 refine PEx.paren (by simp [shp,nd,Tree.kind]) fun ts k h hc=>?_
 rw [aU] at h
 obtain ⟨h1,h2,h3⟩:=h
 obtain ⟨q1,q2,q3⟩:=tm h2
 have hstop:stopP ts (k+(tk D m .expr a).length):=by
  have:∀ y:List UInt8,aF y≤0→x≠y:=fun y hy e=>by subst e;omega
  refine ⟨?_, ?_, ?_⟩ <;> rw [ak q3] <;> simp
  ·intro _;exact this _ (by decide)
  ·intro _;exact this _ (by decide)
  ·intro _;exact this _ (by decide)
 have hc2:yI ts (k+(tk D m .expr a).length+1+(tk D m .expr b).length)=[41]:=by rw [←hc];congr 1;simp;omega
 obtain ⟨a',ea,_,_,va⟩:=(ha m hma).un false h1 hstop
 obtain ⟨b',eb,_,_,vb⟩:=(hb m hmb).un false h3 (bg hc2 (by decide)).1
 have vb2:Ev ts (.op (aF x+1)) false (k+(tk D m .expr a).length+1) _:=op_of vb (by rw [hc2];decide) (by omega)
 have v3:=ve (hh:=false) (ts:=ts) (k:=k+(tk D m .expr a).length+1+(tk D m .expr b).length) (by rw [hc2];decide) (nd 42 x (zp ts (k+(tk D m .expr a).length)).pos [a',b']) (least:=1) (by omega)
 have v4:Ev ts (.opOf a' 1) false (k+(tk D m .expr a).length) (.ok [nd 42 x (zp ts (k+(tk D m .expr a).length)).pos [a',b']] 0 (k+(tk D m .expr a).length+1+(tk D m .expr b).length)):=Ev.of2 vb2 v3 fun n w1 w2=>by
  simp only [step,jy,q3,q2,hx,if_true,w1,R.ax,w2]
 have v5:Ev ts (.op 1) false k (.ok [nd 42 x (zp ts (k+(tk D m .expr a).length)).pos [a',b']] 0 (k+(tk D m .expr a).length+1+(tk D m .expr b).length)):=Ev.of2 va v4 fun n w1 w2=>by
  simp only [step,fOp,w1,R.ax,w2]
 refine ⟨nd 42 x (zp ts (k+(tk D m .expr a).length)).pos [a',b'],0,by rw [ay,ay];simp [ea,eb],Ev.of1 v5 fun n w=>?_⟩
 simp only [step,w]
 exact okE rfl (by simp;omega)
end
open Lx Lx.Sp
theorem kW {it:It} {stop:List Tok→Nat→Prop} (hst:Stp stop) (f:Tree→List TC) {ts:List Tok} {h:Bool} : ∀ (l acc:List Tree) (k:Nat),(∀ t∈l,Itm it stop (f t) t)→(∀ t∈l,∀ ts k,At ts k (f t)→yb ts k [[125]]=false)→At ts k (dM (l.map f)++[mw [125]])→
 ∃ l',l'.map er=l.map er∧Ev ts (.bracedMore it acc) h k (.ok (acc++l') 0 (k+(dM (l.map f)).length+1))
 | [],acc,k,_,_,ha=>by
   simp only [List.map_nil,dM,List.nil_append,At,and_true] at ha
   exact ⟨[],rfl,Ev.of0 fun n=>by simp [step,yk,ak (tm ha).2.2,dM]⟩
 | [a],acc,k,hi,hne,ha=>by
   have hs:dM ([a].map f)=f a:=by simp [dM]
   rw [hs,aU] at ha
   have h3:=(tm ha.2.1).2.2
   obtain ⟨a',s,e1,v1⟩:=hi a (by simp) ts k h ha.1 (hst _ _ (.inr (.inr h3)))
   refine ⟨[a'],by simp [e1],Ev.of1 v1 fun n q=>?_⟩
   have h125:=hne a (by simp) ts k ha.1
   simp only [step,yk,h125,q,R.ax,want,ak h3,hs]
   simp
 | a::b::l,acc,k,hi,hne,ha=>by
   have hs:dM ((a::b::l).map f)=f a++mw [44]::dM ((b::l).map f):=by simp [dM]
   rw [hs,List.append_assoc,aU] at ha
   have h3:=(tm ha.2.1).2.2
   obtain ⟨a',s,e1,v1⟩:=hi a (by simp) ts k h ha.1 (hst _ _ (.inl h3))
   obtain ⟨l',e2,v2⟩:=kW (h:=h) hst f (b::l) (acc++[a']) (k+(f a).length+1) (fun t m=>hi t (by simp at m;simp [m])) (fun t m=>hne t (by simp at m;simp [m])) ha.2.2
   have h125:=hne a (by simp) ts k ha.1
   refine ⟨a'::l',by simp only [List.map_cons,e1] at e2 ⊢;rw [e2],Ev.of2 v1 v2 fun n q1 q2=>?_⟩
   simp only [step,yk,h125,Bool.false_eq_true,if_false,q1,R.ax,ak h3]
   rw [if_pos (by decide),q2]
   exact okE (by simp) (by rw [hs,List.length_append,List.length_cons];omega)
theorem sV {it:It} {ts:List Tok} {k:Nat} {h:Bool} {r:R} (h0:yI ts k=[123]) (v:Ev ts (.bracedMore it []) h (k+1) r):Ev ts (.braced it) h k r:=Ev.of1 v fun n q=>by simp [step,eP,want,ak h0,q]
theorem tY {ts:List Tok} {k k2:Nat} {hh:Bool} {t:Tree} {s:Int} (h5:(zp ts k).kind=5) (hn:yb ts k [[45],[33],[60,45]]=false) (v:Ev ts .markOperand hh k (.ok [t] s k2)) (hs:stopP ts k2):Ev ts .shaped hh k (.ok [t] 2 k2):=by
 have v2:Ev ts .operand hh k (.ok [t] 2 k2):=Ev.of1 v fun n q=>by simp [step,bf,h5,q,R.ax]
 have v3:Ev ts (.primMore t 2) hh k2 (.ok [t] 2 k2):=Ev.of0 fun n=>by simp [step,aQ,hs.1,hs.2.1,hs.2.2]
 have v4:Ev ts .primary hh k (.ok [t] 2 k2):=Ev.of2 v2 v3 fun n q1 q2=>by simp [step,dK,q1,R.ax,q2]
 exact Ev.of1 v4 fun n q=>by simp [step,bW,hn,q]
def RBx (T:List TC) (t:Tree):Prop:=(∃ r,T=mw [123]::r)∧∀ ts k h,At ts k T→∃ t',er t'=er t∧Ev ts .block h k (.ok [t'] 0 (k+T.length))
section
variable (D : Int → List UInt8)
def XB (t:Tree):Prop:=∀ n,nee .block t<n→RBx (tk D n .block t) t
variable {D}
theorem aC {l:List Tree} {t:Tree} {kd:Int} {x:List UInt8} {p:Int} {n c:Nat} {j j':PrJ} (hk:kd≠0) (h:nee j (nd kd x p l)<n+c) (hc:c≤8) (mt:t∈l):nee j' t<n:=by
 have h1:=oJ (List.mem_map_of_mem (f:=sz) mt)
 have h2:=kK j'
 simp only [nee,aJ,if_neg hk] at h ⊢
 omega
theorem XE_43 {p:Int} {a:Tree} {l:List Tree} (ha:XE D a) (hl:∀ t∈l,XE D t):XE D (nd 43 [] p (a::l)):=by
 intro n hn
 obtain ⟨m,rfl⟩:∃ m,n=m+2:=⟨n-2,by simp [nee,aJ,rnk] at hn;omega⟩
 have hm:∀ t∈a::l,nee .expr t<m:=fun t mt=>aC (by decide) hn (by omega) mt
 rw [show tk D (m+2) .expr (nd 43 [] p (a::l))=tk D m .expr a++(mw [40]::(dM (l.map (tk D m .expr))++[mw [41]])) from List.append_assoc _ _ _]
 refine PEx.tail (ha m (hm a (by simp))) (fun y r e=>by cases e;decide) fun ts k hh a' e hA=>?_
 obtain ⟨q1,q2,q3⟩:=tm hA.1
 obtain ⟨l',e1,v1⟩:=kF (h:=false) stp_E (tk D m .expr) l (k+1) (fun t mt=>itm_E (hl t mt m (hm t (by simp [mt])))) (fun t mt ts k ha=>(hl t mt m (hm t (by simp [mt]))).1.no ha (by decide) (by decide)) hA.2
 have v2:Ev ts .args false (k+1) (.ok l' 0 (k+1+(dM (l.map (tk D m .expr))).length+1)):=Ev.of1 v1 fun n q=>by simp [step,q]
 refine ⟨nd 43 [] (zp ts k).pos (a'::l'),by rw [ay,ay,List.map_cons,List.map_cons,e,e1],fun r v=>Ev.of2 v2 v fun n w1 w2=>?_⟩
 simp only [step,aQ,ak q3,w1,R.bind]
 rw [if_pos (by decide),←w2,show shp (nd 43 [] p (a::l))=5 by simp [shp,nd,Tree.kind]]
 congr 1
 simp
 omega
theorem XE_45 {p:Int} {a b:Tree} (ha:XE D a) (hb:XE D b):XE D (nd 45 [] p [a,b]):=by
 intro n hn
 obtain ⟨m,rfl⟩:∃ m,n=m+2:=⟨n-2,by simp [nee,aJ,rnk] at hn;omega⟩
 have hm:∀ t∈[a,b],nee .expr t<m:=fun t mt=>aC (by decide) hn (by omega) mt
 rw [show tk D (m+2) .expr (nd 45 [] p [a,b])=tk D m .expr a++(mw [91]::(tk D m .expr b++[mw [93]])) from List.append_assoc _ _ _]
 refine PEx.tail (ha m (hm a (by simp))) (fun y r e=>by cases e;decide) fun ts k hh a' e hA=>?_
 obtain ⟨h0,hA⟩:=hA
 rw [aU] at hA
 obtain ⟨q1,q2,q3⟩:=tm h0
 have h93:=(tm hA.2.1).2.2
 have hB:=hb m (hm b (by simp))
 obtain ⟨b',e1,v1⟩:=hB.expr false hA.1 (bg h93 (by decide))
 have hn1:=hB.1.no hA.1 (l:=[[58]]) (by decide) (by decide)
 have v2:Ev ts (.bracketed a' (zp ts k).pos) hh (k+1) (.ok [nd 45 [] (zp ts k).pos [a',b']] 4 (k+1+(tk D m .expr b).length+1)):=Ev.of1 v1 fun n q=>by
  simp only [step,yH,hn1,Bool.false_eq_true,if_false,q,R.ax,ak h93]
  rw [if_pos (by decide)]
 refine ⟨nd 45 [] (zp ts k).pos [a',b'],by rw [ay,ay];simp [e,e1],fun r v=>Ev.of2 v2 v fun n w1 w2=>?_⟩
 simp only [step,aQ,ak q3,w1,R.ax]
 rw [if_neg (by decide),if_pos (by decide),←w2,show shp (nd 45 [] p [a,b])=4 by simp [shp,nd,Tree.kind]]
 congr 1
 simp
 omega
theorem XE_47 {p:Int} {a:Tree} {x:List UInt8} (hx:eu x=false) (ha:XE D a):XE D (nd 47 x p [a]):=by
 intro n hn
 obtain ⟨m,rfl⟩:∃ m,n=m+2:=⟨n-2,by simp [nee,aJ,rnk] at hn;omega⟩
 have hm:∀ t∈[a],nee .expr t<m:=fun t mt=>aC (by decide) hn (by omega) mt
 rw [show tk D (m+2) .expr (nd 47 x p [a])=tk D m .expr a++[mw [46],nw x] from rfl]
 refine PEx.tail (ha m (hm a (by simp))) (fun y r e=>by cases e;decide) fun ts k hh a' e hA=>?_
 obtain ⟨q1,q2,q3⟩:=tm hA.1
 obtain ⟨r1,r2,r3⟩:=tn hA.2.1 hx
 refine ⟨nd 47 x (zp ts k).pos [a'],by rw [ay,ay];simp [e],fun r v=>Ev.of1 v fun n w=>?_⟩
 simp only [step,aQ,ak q3,bI,r1,r2]
 rw [if_neg (by decide),if_neg (by decide),if_pos (by decide),if_pos trivial,←w,show shp (nd 47 x p [a])=4 by simp [shp,nd,Tree.kind]]
 rfl
theorem XE_46 {p:Int} {a b c:Tree} (ha:XE D a) (hb:b=aB∨(XE D b∧b.kind≠8)) (hc:c=aB∨(XE D c∧c.kind≠8)):XE D (nd 46 [] p [a,b,c]):=by
 intro n hn
 obtain ⟨m,rfl⟩:∃ m,n=m+2:=⟨n-2,by simp [nee,aJ,rnk] at hn;omega⟩
 have hm:∀ t∈[a,b,c],nee .expr t<m:=fun t mt=>aC (by decide) hn (by omega) mt
 have ht:tk D (m+2) .expr (nd 46 [] p [a,b,c])=tk D m .expr a++(mw [91]::(unT [] (tk D m .expr) b++mw [58]::(unT [] (tk D m .expr) c++[mw [93]]))):=by
  show ((tk D m .expr a++(mw [91]::unT [] (tk D m .expr) b))++(mw [58]::unT [] (tk D m .expr) c))++[mw [93]]=_
  simp
 rw [ht]
 refine PEx.tail (ha m (hm a (by simp))) (fun y r e=>by cases e;decide) fun ts k hh a' e hA=>?_
 obtain ⟨h0,hA⟩:=hA
 rw [aU] at hA
 obtain ⟨hA1,hA2,hA3⟩:=hA
 rw [aU] at hA3
 obtain ⟨q1,q2,q3⟩:=tm h0
 have h58:=(tm hA2).2.2
 have h93:=(tm hA3.2.1).2.2
 have hC:∃ c',er c'=er c∧∀ f',∃ n0,∀ n,n0≤n→fA ts (run ts n) a' (zp ts k).pos f' (k+1+(unT [] (tk D m .expr) b).length)=.ok [nd 46 [] (zp ts k).pos [a',f',c']] 2 (k+1+(unT [] (tk D m .expr) b).length+1+(unT [] (tk D m .expr) c).length+1):=by
  rcases hc with rfl | ⟨hc,h8⟩
  ·refine ⟨aB,rfl,fun f'=>⟨0,fun n _=>?_⟩⟩
   have hu:unT [] (tk D m .expr) aB=[]:=rfl
   rw [hu] at h93 ⊢
   simp only [fA,want,ak h58,fG]
   rw [if_pos (by decide),ak (by simpa using h93),if_pos (by decide),if_pos (by decide)]
   rfl
  ·have hu:unT [] (tk D m .expr) c=tk D m .expr c:=by rw [unT,if_neg h8];rfl
   rw [hu] at h93 hA3 ⊢
   have hcm:=hc m (hm c (by simp))
   obtain ⟨c',e1,n0,v1⟩:=hcm.expr false hA3.1 (bg h93 (by decide))
   have hn1:=hcm.1.no hA3.1 (l:=[[93]]) (by decide) (by decide)
   refine ⟨c',e1,fun f'=>⟨n0,fun n hn=>?_⟩⟩
   simp only [fA,want,ak h58,fG]
   rw [if_pos (by decide),hn1,if_neg (by decide),v1 n hn]
   simp only [R.ax]
   rw [ak h93,if_pos (by decide)]
 obtain ⟨c',ec,fC⟩:=hC
 have hB:∃ b',er b'=er b∧Ev ts (.bracketed a' (zp ts k).pos) hh (k+1) (.ok [nd 46 [] (zp ts k).pos [a',b',c']] 2 (k+1+(unT [] (tk D m .expr) b).length+1+(unT [] (tk D m .expr) c).length+1)):=by
  rcases hb with rfl | ⟨hb,h8⟩
  ·obtain ⟨n0,f⟩:=fC aB
   refine ⟨aB,rfl,Ev.up ⟨n0,fun n hn=>?_⟩⟩
   have hu:unT [] (tk D m .expr) aB=[]:=rfl
   have h58':yI ts (k+1)=[58]:=by simpa [hu] using h58
   simp only [step,yH,ak h58']
   rw [if_pos (by decide)]
   exact f n hn
  ·have hu:unT [] (tk D m .expr) b=tk D m .expr b:=by rw [unT,if_neg h8];rfl
   rw [hu] at h58 hA1 fC ⊢
   have hbm:=hb m (hm b (by simp))
   obtain ⟨b',e1,n1,v1⟩:=hbm.expr false hA1 (bg h58 (by decide))
   have hn1:=hbm.1.no hA1 (l:=[[58]]) (by decide) (by decide)
   obtain ⟨n0,f⟩:=fC b'
   refine ⟨b',e1,Ev.up ⟨n0+n1,fun n hn=>?_⟩⟩
   simp only [step,yH,hn1,Bool.false_eq_true,if_false,v1 n (by omega),R.ax,ak h58]
   rw [if_neg (by decide)]
   exact f n (by omega)
 obtain ⟨b',eb,vb⟩:=hB
 refine ⟨nd 46 [] (zp ts k).pos [a',b',c'],by rw [ay,ay];simp [e,eb,ec],fun r v=>Ev.of2 vb v fun n w1 w2=>?_⟩
 simp only [step,aQ,ak q3,w1,R.ax]
 rw [if_neg (by decide),if_pos (by decide),←w2,show shp (nd 46 [] p [a,b,c])=2 by simp [shp,nd,Tree.kind]]
 congr 1
 simp
 omega
end
end Go.Proofs.YtgbjpnnockoomaaGreatDoor.Px
