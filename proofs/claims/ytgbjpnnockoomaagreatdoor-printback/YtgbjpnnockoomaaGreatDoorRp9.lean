import Derived.Test.YtgbjpnnockoomaaGreatDoorRp8
set_option linter.unusedVariables false
set_option linter.unusedSimpArgs false
namespace Go.Proofs.YtgbjpnnockoomaaGreatDoor.Px
open Lx Lx.Sp
section
variable {D : Int → List UInt8}
def XP (D:Int→List UInt8) (t:Tree):Prop:=t=aB∨(XM D t∧(t.kind=17∨t.kind=19∨t.kind=20∨t.kind=33∨t.kind=34))
theorem ug {t:Tree} (hk:t.kind=17∨t.kind=19∨t.kind=20∨t.kind=33∨t.kind=34) (m:Nat):tk D (m+1) .stmt t=tk D m .simple t:=by
 show tkS D (tk D m) .stmt t=_
 simp only [tkS]
 rcases hk with e | e | e | e | e <;> simp [e]
theorem tail2_parse {b:Tree} (hb:XP D b) {m:Nat} (hm:nee .simple b<m) {ts:List Tok} {k:Nat} (ha:At ts k (mw [59]::unT [] (tk D (m+1) .stmt) b)) (hs:yI ts (k+1+(unT [] (tk D (m+1) .stmt) b).length)=[123]) :
 ∃ b',er b'=er b∧∀ first c,∃ n0,∀ n,n0≤n→ya ts (run ts n) true first c k=.ok [first,c,b'] 0 (k+1+(unT [] (tk D (m+1) .stmt) b).length):=by
 have h59:=(tm ha.1).2.2
 rcases hb with rfl | ⟨hb,hk⟩
 ·have hu:unT [] (tk D (m+1) .stmt) aB=[]:=rfl
  rw [hu] at hs ⊢
  have h123:yI ts (k+1)=[123]:=hs
  refine ⟨aB,rfl,fun first c=>⟨0,fun n _=>?_⟩⟩
  simp only [ya,want,ak h59,ak h123]
  rfl
 ·have h8:¬b.kind=8:=by rcases hk with e | e | e | e | e <;> omega
  have hu:unT [] (tk D (m+1) .stmt) b=tk D m .simple b:=by rw [unT,if_neg h8,ug hk];rfl
  rw [hu] at hs ha ⊢
  obtain ⟨b',e1,n0,v⟩:=(hb m hm).2.1 ts (k+1) true ha.2 (.inr hs)
  have hd:=(hb m hm).1 ts (k+1) ha.2 (.inr hs)
  have hn:=hd.no (l:=[[123]]) (by decide) (by decide) (by decide)
  refine ⟨b',e1,fun first c=>⟨n0,fun n hn0=>?_⟩⟩
  simp only [ya,want,ak h59,hn]
  rw [if_pos (by decide),if_neg (by decide),v n hn0]
  rfl
theorem tail_parse {b c:Tree} (hb:XP D b) (hc:c=aB∨(XE D c∧c.kind≠8)) {m:Nat} (hmb:nee .simple b<m) (hmc:nee .expr c<m+1) {ts:List Tok} {k:Nat} (ha:At ts k (mw [59]::(unT [] (tk D (m+1) .expr) c++mw [59]::unT [] (tk D (m+1) .stmt) b))) (hs:yI ts (k+1+(unT [] (tk D (m+1) .expr) c).length+1+(unT [] (tk D (m+1) .stmt) b).length)=[123]) :
 ∃ c' b',er c'=er c∧er b'=er b∧∀ first,∃ n0,∀ n,n0≤n→yn ts (run ts n) true first k=.ok [first,c',b'] 0 (k+1+(unT [] (tk D (m+1) .expr) c).length+1+(unT [] (tk D (m+1) .stmt) b).length):=by
 obtain ⟨h0,ha⟩:=ha
 have h59:=(tm h0).2.2
 rw [aU] at ha
 obtain ⟨b',eb,fb⟩:=tail2_parse hb hmb ha.2 hs
 have h592:=(tm ha.2.1).2.2
 rcases hc with rfl | ⟨hc,h8⟩
 ·have hu:unT [] (tk D (m+1) .expr) aB=[]:=rfl
  rw [hu] at h592 fb ⊢
  have h593:yI ts (k+1)=[59]:=h592
  refine ⟨aB,b',rfl,eb,fun first=>?_⟩
  obtain ⟨n0,f⟩:=fb first aB
  refine ⟨n0,fun n hn=>?_⟩
  simp only [yn,want,ak h59,ak h593]
  rw [if_pos (by decide),if_pos (by decide)]
  exact f n hn
 ·have hu:unT [] (tk D (m+1) .expr) c=tk D (m+1) .expr c:=by rw [unT,if_neg h8];rfl
  rw [hu] at h592 fb ha ⊢
  have hE:=hc (m+1) hmc
  obtain ⟨c',e1,n1,v⟩:=hE.expr true ha.1 (bg h592 (by decide))
  have hn:=hE.1.no ha.1 (l:=[[59]]) (by decide) (by decide)
  refine ⟨c',b',e1,eb,fun first=>?_⟩
  obtain ⟨n0,f⟩:=fb first c'
  refine ⟨n0+n1,fun n hn0=>?_⟩
  simp only [yn,want,ak h59,hn]
  rw [if_pos (by decide),if_neg (by decide),v n (by omega)]
  exact f n (by omega)
def fhT (D:Int→List UInt8) (m:Nat) (a c b:Tree):List TC:=if a.kind=8∧b.kind=8 then unT [] (tk D (m+2) .expr) c else unT [] (tk D (m+1) .stmt) a++mw [59]::(unT [] (tk D (m+1) .expr) c++mw [59]::unT [] (tk D (m+1) .stmt) b)
theorem head_parse {a c b:Tree} (ha:XP D a) (hc:c=aB∨(XE D c∧c.kind≠8)) (hb:XP D b) {m:Nat} (hma:nee .simple a<m) (hmb:nee .simple b<m) (hmc:nee .expr c<m+1) {ts:List Tok} {k:Nat} (hA:At ts k (fhT D m a c b)) (hs:yI ts (k+(fhT D m a c b).length)=[123]) :
 ∃ l',l'.map er=[a,c,b].map er∧Ev ts .forHead true k (.ok l' 0 (k+(fhT D m a c b).length)):=by
 have kk:∀ t,XP D t→t.kind=8→t=aB:=fun t h h8=>by
  rcases h with rfl | ⟨_,hk⟩
  ·rfl
  ·rcases hk with e | e | e | e | e <;> omega
 by_cases hab:a.kind=8∧b.kind=8
 ·obtain rfl:=kk a ha hab.1
  obtain rfl:=kk b hb hab.2
  have hf:fhT D m aB c aB=unT [] (tk D (m+2) .expr) c:=by unfold fhT;rw [if_pos hab]
  rw [hf] at hA hs ⊢
  rcases hc with rfl | ⟨hc,h8⟩
  ·have hu:unT [] (tk D (m+2) .expr) aB=[]:=rfl
   rw [hu] at hs ⊢
   have h123:yI ts k=[123]:=hs
   exact ⟨[aB,aB,aB],rfl,Ev.of0 fun n=>by simp [step,yY,ak h123]⟩
  ·have hu:unT [] (tk D (m+2) .expr) c=tk D (m+2) .expr c:=by rw [unT,if_neg h8];rfl
   rw [hu] at hs hA ⊢
   have hE:=hc (m+2) (by omega)
   obtain ⟨c',e1,_,v1,_⟩:=hE.un true hA (bg hs (by decide)).1
   have n1:=hE.1.no hA (l:=[[123]]) (by decide) (by decide)
   have n2:=hE.1.no hA (l:=[[59]]) (by decide) (by decide)
   have v2:=act_no (hh:=true) (t:=c') (s:=shp c) (ts:=ts) (.inr hs)
   have v3:=ve (hh:=true) (ts:=ts) (k:=k+(tk D (m+2) .expr c).length) (by rw [hs];decide) c' (least:=1) (by omega)
   have v4:Ev ts .forLead true k (.ok [c'] 0 (k+(tk D (m+2) .expr c).length)):=Ev.of3 v1 v2 v3 fun n w1 w2 w3=>by
    simp [step,aZ,w1,R.ax,w2,R.bind,ak hs,w3]
   exact ⟨[aB,c',aB],by simp [e1],Ev.of1 v4 fun n w=>by simp [step,yY,n1,n2,w,R.ax]⟩
 ·have hf:fhT D m a c b=unT [] (tk D (m+1) .stmt) a++mw [59]::(unT [] (tk D (m+1) .expr) c++mw [59]::unT [] (tk D (m+1) .stmt) b):=by unfold fhT;rw [if_neg hab]
  rw [hf] at hA hs ⊢
  rw [aU] at hA
  have hlen:k+(unT [] (tk D (m+1) .stmt) a++mw [59]::(unT [] (tk D (m+1) .expr) c++mw [59]::unT [] (tk D (m+1) .stmt) b)).length=k+(unT [] (tk D (m+1) .stmt) a).length+1+(unT [] (tk D (m+1) .expr) c).length+1+(unT [] (tk D (m+1) .stmt) b).length:=by simp;omega
  rw [hlen] at hs ⊢
  have h59:=(tm hA.2.1).2.2
  obtain ⟨c',b',ec,eb,ft⟩:=tail_parse hb hc hmb hmc hA.2 hs
  rcases ha with rfl | ⟨ha,hk⟩
  ·have hu:unT [] (tk D (m+1) .stmt) aB=[]:=rfl
   rw [hu] at h59 ft ⊢
   have h59':yI ts k=[59]:=h59
   obtain ⟨n0,f⟩:=ft aB
   refine ⟨[aB,c',b'],by simp [ec,eb],Ev.up ⟨n0,fun n hn=>?_⟩⟩
   simp only [step,yY,ak h59']
   rw [if_neg (by decide),if_pos (by decide)]
   exact f n hn
  ·have h8:¬a.kind=8:=by rcases hk with e | e | e | e | e <;> omega
   have hu:unT [] (tk D (m+1) .stmt) a=tk D m .simple a:=by rw [unT,if_neg h8,ug hk];rfl
   rw [hu] at h59 ft hA ⊢
   obtain ⟨a',ea,n1,v⟩:=(ha m hma).2.2 ts k true hA.1 h59
   have hd:=(ha m hma).1 ts k hA.1 (.inl h59)
   have g1:=hd.no (l:=[[123]]) (by decide) (by decide) (by decide)
   have g2:=hd.no (l:=[[59]]) (by decide) (by decide) (by decide)
   obtain ⟨n0,f⟩:=ft a'
   refine ⟨[a',c',b'],by simp [ea,ec,eb],Ev.up ⟨n0+n1,fun n hn=>?_⟩⟩
   simp only [step,yY,g1,g2,Bool.false_eq_true,if_false,v n (by omega),R.ax,if_true]
   exact f n (by omega)
def RKx (T:List TC) (t:Tree):Prop:=∃ w r,T=nw w::r∧[[102,111,114],[115,119,105,116,99,104],[115,101,108,101,99,116]].contains w=true∧∀ ts k h,At ts k T→∃ t',er t'=er t∧Ev ts .breakable h k (.ok [t'] 0 (k+T.length))
def XK (D:Int→List UInt8) (t:Tree):Prop:=∀ n,nee .stmt t<n→RKx (tk D n .stmt t) t
theorem XK_22 {p:Int} {a c b:Tree} {bl:Tree} (ha:XP D a) (hc:c=aB∨(XE D c∧c.kind≠8)) (hb:XP D b) (hbl:XB D bl):XK D (nd 22 [] p [a,c,b,bl]):=by
 intro n hn
 obtain ⟨m,rfl⟩:∃ m,n=m+4:=⟨n-4,by simp [nee,aJ,rnk] at hn;omega⟩
 have hm:∀ j',∀ t∈[a,c,b,bl],nee j' t<m:=fun j' t mt=>aC (by decide) hn (by omega) mt
 have htk:tk D (m+4) .stmt (nd 22 [] p [a,c,b,bl])=nw [102,111,114]::(fhT D m a c b++tk D (m+2) .block bl):=by
  show (nw [102,111,114]::(if a.kind=8∧b.kind=8 then unT [] (tk D (m+2) .expr) c else (unT [] (tk D (m+1) .stmt) a++(mw [59]::unT [] (tk D (m+1) .expr) c))++(mw [59]::unT [] (tk D (m+1) .stmt) b)))++tk D (m+2) .block bl=_
  unfold fhT
  split <;> simp
 rw [htk]
 refine ⟨_,_,rfl,by decide,fun ts k hh hA=>?_⟩
 obtain ⟨h0,hA⟩:=hA
 have hfor:=(tw h0 (by decide)).2.2
 rw [aU] at hA
 obtain ⟨⟨br,hbr⟩,hbp⟩:=hbl (m+2) (by have:=hm .block bl (by simp);omega)
 have h123:yI ts (k+1+(fhT D m a c b).length)=[123]:=by
  have h:=hA.2
  rw [hbr] at h
  exact (tm h.1).2.2
 obtain ⟨l',e1,v1⟩:=head_parse ha hc hb (hm _ a (by simp)) (hm _ b (by simp)) (by have:=hm .expr c (by simp);omega) hA.1 h123
 obtain ⟨bl',e2,v2⟩:=hbp ts _ hh hA.2
 have v3:Ev ts .forStmt hh k (.ok [nd 22 [] (zp ts k).pos (l'++[bl'])] 0 (k+1+(fhT D m a c b).length+(tk D (m+2) .block bl).length)):=Ev.of2 v1 v2 fun n w1 w2=>by simp [step,dQ,w1,R.bind,w2,R.ax]
 refine ⟨nd 22 [] (zp ts k).pos (l'++[bl']),by rw [ay,ay,List.map_append,e1];simp [e2],Ev.of1 v3 fun n w=>?_⟩
 simp only [step,aN,hfor,if_true,w]
 exact okE rfl (by simp;omega)
theorem XS_K {t:Tree} (h:XK D t):XS D t:=by
 intro n hn
 obtain ⟨w,r,hT,hw,hp⟩:=h n hn
 have hww:eu w=true∧(!w.isEmpty&&[[59],[125],[99,97,115,101],[100,101,102,97,117,108,116]].contains w)=false∧w≠[118,97,114]∧w≠[123]∧w≠[105,102]:=by
  have hh:w=[102,111,114]∨w=[115,119,105,116,99,104]∨w=[115,101,108,101,99,116]:=by simpa using hw
  rcases hh with rfl | rfl | rfl <;> decide
 have hsg:∀ ts k,At ts k (tk D n .stmt t)→yI ts k=w:=fun ts k ha=>by rw [hT] at ha;exact (tw ha.1 hww.1).2.2
 refine ⟨fun ts k ha hs=>kV (hsg ts k ha) hww.2.1,fun ts k hh ha hs=>?_⟩
 obtain ⟨t',e,v⟩:=hp ts k hh ha
 refine ⟨t',e,Ev.of1 v fun n q=>?_⟩
 simp only [step,aP,hsg ts k ha,hww.2.2.1,hww.2.2.2.1,hww.2.2.2.2,if_false,hw,if_true,q]
theorem XS_35 {p:Int} {x:List UInt8} {t:Tree} (hx:eu x=false) (h:XK D t):XS D (nd 35 x p [t]):=by
 intro n hn
 obtain ⟨m,rfl⟩:=aH hn
 have hm:nee .stmt t<m:=aC (by decide) hn (by omega) (by simp)
 rw [show tk D (m+1) .stmt (nd 35 x p [t])=nw x::mw [58]::tk D m .stmt t from rfl]
 refine ⟨fun ts k ha hs=>by unfold behind;rw [ak (tn ha.1 hx).2.2];rfl,fun ts k hh ha hs=>?_⟩
 obtain ⟨r1,r2,r3⟩:=tn ha.1 hx
 obtain ⟨q1,q2,q3⟩:=tm ha.2.1
 obtain ⟨w,r,hT,hw,hp⟩:=h m hm
 obtain ⟨t',e,v⟩:=hp ts _ hh ha.2.2
 have hl:labels ts k=true:=by unfold labels;rw [r1,q1,q2];rfl
 have v2:Ev ts .labelled hh k (.ok [nd 35 x (zp ts k).pos [t']] 0 (k+1+1+(tk D m .stmt t).length)):=Ev.of1 v fun n w=>by simp [step,dD,want,ak q3,w,R.ax,r2]
 refine ⟨nd 35 x (zp ts k).pos [t'],by rw [ay,ay];simp [e],Ev.of1 v2 fun n w=>?_⟩
 simp [step,aP,r3,hl,w]
 omega
def endC (ts:List Tok) (k:Nat):Prop:=yI ts k=[125]∨yI ts k=[99,97,115,101]∨yI ts k=[100,101,102,97,117,108,116]
def RLx (j:Job) (T:List TC) (t:Tree):Prop:=(∀ ts k,At ts k T→yI ts k=[99,97,115,101]∨yI ts k=[100,101,102,97,117,108,116])∧∀ ts k h,At ts k T→endC ts (k+T.length)→∃ t',er t'=er t∧Ev ts j h k (.ok [t'] 0 (k+T.length))
theorem kz {c:Bool} (f:Tree→List TC) {ts:List Tok} {h:Bool} : ∀ (l acc:List Tree) (k:Nat),(∀ t∈l,RLx (if c=true then .comm else .clause) (f t) t)→At ts k (l.flatMap f++[mw [125]])→
 ∃ l',l'.map er=l.map er∧Ev ts (.clausesMore c acc) h k (.ok (acc++l') 0 (k+(l.flatMap f).length+1))
 | [],acc,k,_,ha=>by
   have h125:=(tm ha.1).2.2
   exact ⟨[],rfl,Ev.of0 fun n=>by simp [step,yu,ak h125]⟩
 | a::l,acc,k,hi,ha=>by
   rw [List.flatMap_cons,List.append_assoc,aU] at ha
   have hA:=hi a (by simp)
   have hend:endC ts (k+(f a).length):=by
    have ha2:=ha.2
    cases l with
    | nil=>exact .inl (tm ha2.1).2.2
    | cons b l=>
      rw [List.flatMap_cons,List.append_assoc,aU] at ha2
      exact .inr ((hi b (by simp)).1 ts _ ha2.1)
   obtain ⟨a',e1,v1⟩:=hA.2 ts k h ha.1 hend
   obtain ⟨l',e2,v2⟩:=kz (h:=h) f l (acc++[a']) (k+(f a).length) (fun t m=>hi t (by simp [m])) ha.2
   have hn:yb ts k [[125]]=false:=by rcases hA.1 ts k ha.1 with h | h <;> rw [ak h] <;> decide
   refine ⟨a'::l',by simp [e1,e2],Ev.of2 v1 v2 fun n w1 w2=>?_⟩
   simp only [step,yu,hn,Bool.false_eq_true,if_false,w1,R.ax,w2]
   exact okE (by simp) (by rw [List.flatMap_cons,List.length_append];omega)
theorem qw {c:Bool} {ts:List Tok} {k:Nat} {h:Bool} {r:R} (h0:yI ts k=[123]) (v:Ev ts (.clausesMore c []) h (k+1) r):Ev ts (.clauses c) h k r:=Ev.of1 v fun n q=>by simp [step,dJ,want,ak h0,q]
def XC (D:Int→List UInt8) (t:Tree):Prop:=∀ n,nee .clause t<n→RLx .clause (tk D n .clause t) t
def XO (D:Int→List UInt8) (t:Tree):Prop:=∀ n,nee .comm t<n→RLx .comm (tk D n .comm t) t
theorem XK_23 {p:Int} {e:Tree} {l:List Tree} (he:e=aB∨(XE D e∧e.kind≠8)) (hl:∀ t∈l,XC D t):XK D (nd 23 [] p (e::l)):=by
 intro n hn
 obtain ⟨m,rfl⟩:∃ m,n=m+2:=⟨n-2,by simp [nee,aJ,rnk] at hn;omega⟩
 have hm:∀ j',∀ t∈e::l,nee j' t<m:=fun j' t mt=>aC (by decide) hn (by omega) mt
 have htk:tk D (m+2) .stmt (nd 23 [] p (e::l))=nw [115,119,105,116,99,104]::(unT [] (tk D m .expr) e++mw [123]::(l.flatMap (tk D m .clause)++[mw [125]])):=by
  show ((nw [115,119,105,116,99,104]::unT [] (tk D m .expr) e)++(mw [123]::l.flatMap (tk D m .clause)))++[mw [125]]=_
  simp
 rw [htk]
 refine ⟨_,_,rfl,by decide,fun ts k hh hA=>?_⟩
 obtain ⟨h0,hA⟩:=hA
 have hsw:=(tw h0 (by decide)).2.2
 rw [aU] at hA
 have h123:=(tm hA.2.1).2.2
 obtain ⟨l',e1,v1⟩:=kz (c:=false) (h:=hh) (tk D m .clause) l [] _ (fun t mt=>hl t mt m (hm _ t (by simp [mt]))) hA.2.2
 have v2:=qw h123 v1
 have hE:∃ e',er e'=er e∧Ev ts .switchStmt hh k (.ok [nd 23 [] (zp ts k).pos (e'::l')] 0 (k+1+(unT [] (tk D m .expr) e).length+1+(l.flatMap (tk D m .clause)).length+1)):=by
  rcases he with rfl | ⟨he,h8⟩
  ·have hu:unT [] (tk D m .expr) aB=[]:=rfl
   rw [hu] at h123 v2 ⊢
   have h123':yI ts (k+1)=[123]:=h123
   exact ⟨aB,rfl,Ev.of1 v2 fun n w=>by
    have w':run ts n (.clauses false) hh (k+1)=_:=w
    simp [step,yt,ak h123',w',R.bind]⟩
  ·have hu:unT [] (tk D m .expr) e=tk D m .expr e:=by rw [unT,if_neg h8];rfl
   rw [hu] at h123 v2 hA ⊢
   have hX:=he m (hm _ e (by simp))
   obtain ⟨e',e3,v3⟩:=hX.expr true hA.1 (bg h123 (by decide))
   have hn:=hX.1.no hA.1 (l:=[[123]]) (by decide) (by decide)
   exact ⟨e',e3,Ev.of2 v3 v2 fun n w1 w2=>by simp [step,yt,hn,w1,R.ax,w2,R.bind]⟩
 obtain ⟨e',e3,v3⟩:=hE
 refine ⟨nd 23 [] (zp ts k).pos (e'::l'),by rw [ay,ay];simp [e1,e3],Ev.of1 v3 fun n w=>?_⟩
 simp [step,aN,hsw,w]
 omega
theorem XK_25 {p:Int} {l:List Tree} (hl:∀ t∈l,XO D t):XK D (nd 25 [] p l):=by
 intro n hn
 obtain ⟨m,rfl⟩:∃ m,n=m+2:=⟨n-2,by simp [nee,aJ,rnk] at hn;omega⟩
 have hm:∀ j',∀ t∈l,nee j' t<m:=fun j' t mt=>aC (by decide) hn (by omega) mt
 rw [show tk D (m+2) .stmt (nd 25 [] p l)=nw [115,101,108,101,99,116]::mw [123]::(l.flatMap (tk D m .comm)++[mw [125]]) from rfl]
 refine ⟨_,_,rfl,by decide,fun ts k hh hA=>?_⟩
 have hse:=(tw hA.1 (by decide)).2.2
 have h123:=(tm hA.2.1).2.2
 obtain ⟨l',e1,v1⟩:=kz (c:=true) (h:=hh) (tk D m .comm) l [] _ (fun t mt=>hl t mt m (hm _ t mt)) hA.2.2
 have v2:=qw h123 v1
 have v3:Ev ts .selectStmt hh k (.ok [nd 25 [] (zp ts k).pos l'] 0 (k+1+1+(l.flatMap (tk D m .comm)).length+1)):=Ev.of1 v2 fun n w=>by simp [step,bP,w,R.bind]
 refine ⟨nd 25 [] (zp ts k).pos l',by rw [ay,ay,e1],Ev.of1 v3 fun n w=>?_⟩
 simp [step,aN,hse,w]
 omega
end
end Go.Proofs.YtgbjpnnockoomaaGreatDoor.Px
