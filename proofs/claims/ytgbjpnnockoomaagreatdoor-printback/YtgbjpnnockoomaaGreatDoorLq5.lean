import Derived.Test.YtgbjpnnockoomaaGreatDoorLz2
import Derived.Test.YtgbjpnnockoomaaGreatDoorRq
set_option linter.unusedVariables false
set_option linter.unusedSimpArgs false
namespace Go.Proofs.YtgbjpnnockoomaaGreatDoor.Px
open Lx Lx.Sp
theorem PX_col {q:Qs} : PX q [58] [mw [58]] .M:=jJ (by decide) (by cases q <;> first | trivial | rfl)
theorem PX_eq {q:Qs} (hq:q≠.M):PX q [61] [mw [61]] .M:=jJ (by decide) (by cases q;trivial;rfl;exact absurd rfl hq)
theorem nC {f:Tree→List UInt8} {g:Tree→List TC} (d:Nat):∀ {l:List Tree},(∀ t∈l,GX (f t) (g t))→PX .B (linesT f d l) (dW g l) .B
 | [],_=>jP _
 | a::l,h=>by
   have ha:=h a (by simp)
   obtain ⟨t,h1,h2⟩:=ha.2.1
   have h3:=PX_nl ((mJ (d+1)).app (ha.px nB)) (by rw [List.nil_append];exact h1) h2
   exact (h3.app (nC (f:=f) (g:=g) d (l:=l) fun t m=>h t (by simp [m]))).cast (by simp [linesT]) (by simp [dW])
theorem pJ {q:Qs} : PX q ([123]++[10]) [mw [123]] .B:=PX_nl0 (aI (by decide)) rfl (by decide)
theorem block_gx {f:Tree→List UInt8} {g:Tree→List TC} (d:Nat) {l:List Tree} (h:∀ t∈l,GX (f t) (g t)) {q:Qs} : PX q ([123,10]++linesT f d l++bV d++[125]) (mw [123]::(dW g l++[mw [125]])) .B:=
 (((pJ.app (nC d h)).app (mJ d)).app (aI (c:=125) (by decide))).cast rfl (by simp)
theorem cs_px {f:Tree→List UInt8} {g:Tree→List TC} (d:Nat) {l:List Tree} (h:∀ t∈l,GX (f t) (g t)) {q:Qs} : PX q ([58,10]++linesT f d l) (mw [58]::dW g l) .B:=
 ((PX_nl0 PX_col rfl (by decide):PX q ([58]++[10]) [mw [58]] .B).app (nC d h)).cast rfl rfl
theorem unl_gx {x a:List UInt8} {T A:List TC} {f:Tree→List UInt8} {g:Tree→List TC} {t:Tree} (hx:GX x T) {q1:Qs} (ha:PX .E a A q1) (hq1:q1≠.E) (h:t.kind≠8→GX (f t) (g t)):GX (x++gX a f t) (T++unT A g t):=by
 unfold gX unT
 by_cases h8:t.kind=8
 ·rw [if_pos h8,if_pos h8,List.append_nil,List.append_nil];exact hx
 ·rw [if_neg h8,if_neg h8]
  exact ⟨by simp [hx.1],gK (gK (h h8).2.1),fun q hq=>(hx.px hq).app (ha.app ((h h8).px hq1))⟩
section
theorem oq {x:List UInt8} {y:List UInt8} {T:List TC} (hx:rV x=true) (h:GX y T):GX (x++[32]++y) (nw x::T):=(GX.pre (fun q hq=>(aW hq hx).app cO) nB h).cast rfl (by simp)
def LB (t:Tree):Prop:=∀ n d,nee .block t<n→GX (pr D0 n .block d t) (tk D0 n .block t)
def LS (t:Tree):Prop:=∀ n d,nee .stmt t<n→GX (pr D0 n .stmt d t) (tk D0 n .stmt t)
def LM (t:Tree):Prop:=∀ n d,nee .simple t<n→GX (pr D0 n .simple d t) (tk D0 n .simple t)
def LIf (t:Tree):Prop:=∀ n d,nee .ifStmt t<n→GX (pr D0 n .ifStmt d t) (tk D0 n .ifStmt t)
def LC (t:Tree):Prop:=∀ n d,nee .clause t<n→PX .B (pr D0 n .clause d t) (tk D0 n .clause t) .B
def LO (t:Tree):Prop:=∀ n d,nee .comm t<n→PX .B (pr D0 n .comm d t) (tk D0 n .comm t) .B
def LD (t:Tree):Prop:=∀ n d,nee .decl t<n→GX (pr D0 n .decl d t) (tk D0 n .decl t)
def LN (kd:Int) (t:Tree):Prop:=∃ x p y,t=nd kd x p [y]∧nOk x∧LT y
def LFn (l:List Tree):Prop:=∃ p ps r b,l=[nd 6 [] p ps,r,b]∧(∀ t∈ps,LN 7 t)∧(r=aB∨LT r)∧LB b
def LI (t:Tree):Prop:=∃ x p e,t=nd 5 x p [e]∧nOk x∧LE e
def LCb (t:Tree):Prop:=∃ p l,t=nd 16 [] p l∧∀ s∈l,LS s
theorem LB_16 {p:Int} {l:List Tree} (hl:∀ t∈l,LS t):LB (nd 16 [] p l):=by
 intro n d hn
 obtain ⟨m,rfl⟩:=aH hn
 have hm:∀ t∈l,nee .stmt t<m:=fun t mt=>aC (by decide) hn (by omega) mt
 refine ⟨?_, ?_,fun q hq=>PX.weak ?_ ((block_gx (f:=pr D0 m .stmt (d+1)) (g:=tk D0 m .stmt) d fun t mt=>hl t mt m _ (hm t mt)).cast rfl rfl)⟩
 ·show [123,10]++linesT (pr D0 m .stmt (d+1)) d l++bV d++[125]≠[]
  simp
 ·show kX (mw [123]::dW (tk D0 m .stmt) l++[mw [125]])
  exact gK (fU (by decide))
 ·show [123,10]++linesT (pr D0 m .stmt (d+1)) d l++bV d++[125]≠[]
  simp
theorem fn_px {kd:Int} {x:List UInt8} {p:Int} {l:List Tree} (hk:kd≠0) (h:LFn l) {n d:Nat} (hn:nee .function (nd kd x p l)<n):(∀ q,PX q (pr D0 n .function d (nd kd x p l)) (tk D0 n .function (nd kd x p l)) .E)∧kX (tk D0 n .function (nd kd x p l)):=by
 obtain ⟨pp,ps,r,b,rfl,hps,hr,hb⟩:=h
 obtain ⟨m,rfl⟩:∃ m,n=m+4:=⟨n-4,by simp [nee,aJ,rnk] at hn;omega⟩
 have hm:∀ j',∀ s∈[nd 6 [] pp ps,r,b],nee j' s<m+3:=fun j' s ms=>aC (n:=m+3) (c:=1) hk hn (by omega) ms
 have hmp:∀ j',∀ s∈ps,nee j' s<m:=fun j' s ms=>by
  have h1:=oJ (List.mem_map_of_mem (f:=sz) ms)
  have h2:=kK j'
  have h3:=hm .file (nd 6 [] pp ps) (by simp)
  have h4:rnk .file=0:=rfl
  simp only [nee,aJ] at h3 ⊢
  rw [if_neg (by decide)] at h3
  omega
 obtain ⟨q1,h1⟩:=mP (f:=pr D0 (m+2) .param d) (g:=tk D0 (m+2) .param) (l:=ps) fun t mt=>by
  obtain ⟨y,p2,z,rfl,hy,hz⟩:=hps t mt
  have hme:nee .wtype z<m:=by
   have h1:=hmp .file _ mt
   simp [nee,aJ,rnk] at h1 ⊢
   omega
  exact (oq hy.1 (hz m d hme)).cast rfl rfl
 obtain ⟨q2,h2⟩:=mQ (q:=.B) (a:=[32]) (A:=[]) (f:=pr D0 (m+3) .wtype d) (g:=tk D0 (m+3) .wtype) (t:=r) cO nB fun h8=>by
  rcases hr with rfl | hr
  ·exact absurd rfl h8
  ·exact hr (m+3) d (hm _ r (by simp))
 have h3:=hb (m+3) d (hm _ b (by simp))
 refine ⟨fun q=>(((((((aI (q:=q) (c:=40) (by decide)).app h1).app (aI (c:=41) (by decide))).app h2).app cO).app (h3.px nB)).cast rfl ?_), ?_⟩
 ·show _=((mw [40]::dM (ps.map (tk D0 (m+2) .param)))++(mw [41]::unT [] (tk D0 (m+3) .wtype) r))++tk D0 (m+3) .block b
  simp
 ·show kX (((mw [40]::dM (ps.map (tk D0 (m+2) .param)))++(mw [41]::unT [] (tk D0 (m+3) .wtype) r))++tk D0 (m+3) .block b)
  exact gK h3.2.1
theorem LE_48 {p:Int} {l:List Tree} (h:LFn l):LE (nd 48 [] p l):=by
 intro n d hn
 obtain ⟨m,rfl⟩:=aH hn
 have hm:nee .function (nd 48 [] p l)<m:=by simp only [nee,rnk] at hn ⊢;omega
 obtain ⟨f1,f2⟩:=fn_px (d:=d) (by decide) h hm
 have g:GX ([102,117,110,99]++pr D0 m .function d (nd 48 [] p l)) ([nw [102,117,110,99]]++tk D0 m .function (nd 48 [] p l)):=⟨by simp,gK f2,fun q hq=>(aW hq (by decide)).app (f1 _)⟩
 exact g.cast rfl rfl
theorem LE_49 {p:Int} {x:List UInt8} {l:List Tree} (hx:nOk x) (hl:∀ t∈l,LI t):LE (nd 49 x p l):=by
 intro n d hn
 obtain ⟨m,rfl⟩:∃ m,n=m+2:=⟨n-2,by simp [nee,aJ,rnk] at hn;omega⟩
 obtain ⟨q1,h1⟩:=mP (f:=pr D0 (m+1) .initial d) (g:=tk D0 (m+1) .initial) (l:=l) fun t mt=>by
  obtain ⟨y,p2,e,rfl,hy,he⟩:=hl t mt
  have hme:nee .expr e<m:=by
   have h1:=aC (j':=.file) (c:=2) (by decide) hn (by omega) mt
   simp [nee,aJ,rnk] at h1 ⊢
   omega
  exact (GX.pre (fun q hq=>((aW hq hy.1).app PX_col).app cO) nB (he m d hme)).cast (by simp [pr,ym,nd,Tree.kind,Tree.text,Tree.kids,yM]) (by simp [tk,tkS,nd,Tree.kind,Tree.text,Tree.kids,yM])
 have h38:PX .B [38] [mw [38]] .M:=jJ (by decide) trivial
 exact (GX.close (fun q hq=>((((((aI (c:=40) (by decide)).app h38).app (aW nM hx.1)).app (aI (c:=123) (by decide))).app h1).app (aI (c:=125) (by decide)))) (aI (c:=41) (by decide)) (by simp) (fU (by decide))).cast (by simp [pr,ym,nd,Tree.kind,Tree.text,Tree.kids,yM]) (by simp [tk,tkS,nd,Tree.kind,Tree.text,Tree.kids,yM])
theorem LE_50 {p:Int} {t:Tree} {l:List Tree} (ht:LT t) (hl:∀ e∈l,LE e):LE (nd 50 [] p (t::l)):=by
 intro n d hn
 obtain ⟨m,rfl⟩:=aH hn
 have hm:∀ j',∀ s∈t::l,nee j' s<m:=fun j' s ms=>aC (by decide) hn (by omega) ms
 obtain ⟨q1,h1⟩:=mP (f:=pr D0 m .expr d) (g:=tk D0 m .expr) (l:=l) fun e me=>hl e me m d (hm _ e (by simp [me]))
 exact (GX.close (fun q hq=>(((((((aI (c:=40) (by decide)).app (aI (c:=91) (by decide))).app (aI (c:=93) (by decide))).app ((ht m d (hm _ t (by simp))).px nB)).app (aI (c:=123) (by decide))).app h1).app (aI (c:=125) (by decide)))) (aI (c:=41) (by decide)) (by simp) (fU (by decide))).cast (by simp [pr,ym,nd,Tree.kind,Tree.text,Tree.kids,yM]) (by simp [tk,tkS,nd,Tree.kind,Tree.text,Tree.kids,yM])
theorem LM_17 {p:Int} {x:List UInt8} {e:Tree} (hx:nOk x) (he:LE e):LM (nd 17 x p [e]):=by
 intro n d hn
 obtain ⟨m,rfl⟩:=aH hn
 have hm:nee .expr e<m:=aC (by decide) hn (by omega) (by simp)
 have h2:PX .B [58,61] [mw [58,61]] .B:=PX_two' (by decide) trivial
 exact (GX.pre (fun q hq=>(((aW hq hx.1).app cO).app h2).app cO) nB (he m d hm)).cast (by simp [pr,ym,nd,Tree.kind,Tree.text,Tree.kids,yM]) (by simp [tk,tkS,nd,Tree.kind,Tree.text,Tree.kids,yM])
theorem LM_19 {p:Int} {x:List UInt8} {a e:Tree} (hx:[[61],[43,61],[45,61],[42,61]].contains x=true) (ha:LE a) (he:LE e):LM (nd 19 x p [a,e]):=by
 intro n d hn
 obtain ⟨m,rfl⟩:∃ m,n=m+2:=⟨n-2,by simp [nee,aJ,rnk] at hn;omega⟩
 have hm:∀ t∈[a,e],nee .expr t<m:=fun t mt=>aC (by decide) hn (by omega) mt
 have h0:([[61],[43,61],[45,61],[42,61]].all fun y=>opL.contains y)=true:=by decide
 exact (pM (List.all_eq_true.1 h0 x (List.contains_iff_mem.1 hx)) (ha m d (hm a (by simp))) (he m d (hm e (by simp)))).cast rfl rfl
theorem LM_20 {p:Int} {x:List UInt8} {a:Tree} (hx:x=[43,43]∨x=[45,45]) (ha:LE a):LM (nd 20 x p [a]):=by
 intro n d hn
 obtain ⟨m,rfl⟩:=aH hn
 have hm:nee .expr a<m:=aC (by decide) hn (by omega) (by simp)
 rcases hx with rfl | rfl
 ·exact ((ha m d hm).post (PX_two' (c:=43) (e:=43) (by decide) rfl) (by simp) (fU (by decide))).cast rfl rfl
 ·exact ((ha m d hm).post (PX_two' (c:=45) (e:=45) (by decide) rfl) (by simp) (fU (by decide))).cast rfl rfl
theorem LM_33 {p:Int} {a e:Tree} (ha:LE a) (he:LE e):LM (nd 33 [] p [a,e]):=by
 intro n d hn
 obtain ⟨m,rfl⟩:∃ m,n=m+2:=⟨n-2,by simp [nee,aJ,rnk] at hn;omega⟩
 have hm:∀ t∈[a,e],nee .expr t<m:=fun t mt=>aC (by decide) hn (by omega) mt
 exact (pM (x:=[60,45]) (by decide) (ha m d (hm a (by simp))) (he m d (hm e (by simp)))).cast rfl rfl
theorem LM_34c {p:Int} {a:Tree} (hs:shp a=5) (ha:LE a):LM (nd 34 [] p [a]):=by
 intro n d hn
 obtain ⟨m,rfl⟩:∃ m,n=m+2:=⟨n-2,by simp [nee,aJ,rnk] at hn;omega⟩
 have hm:nee .expr a<m:=aC (by decide) hn (by omega) (by simp)
 have h41:¬a.kind=41:=by intro e;simp [shp,e] at hs
 refine (ha m d hm).cast ?_ ?_
 ·show _=(if a.kind=41∧a.text=[60,45] then [60,45]++pr D0 m .expr d (yM a 0) else pr D0 m .expr d a)
  rw [if_neg (fun h=>h41 h.1)]
 ·show _=(if a.kind=41∧a.text=[60,45] then mw [60,45]::tk D0 m .expr (yM a 0) else tk D0 m .expr a)
  rw [if_neg (fun h=>h41 h.1)]
theorem LM_34r {p p2:Int} {a:Tree} (ha:LE a):LM (nd 34 [] p [nd 41 [60,45] p2 [a]]):=by
 intro n d hn
 obtain ⟨m,rfl⟩:∃ m,n=m+2:=⟨n-2,by simp [nee,aJ,rnk] at hn;omega⟩
 have hm:nee .expr a<m:=by simp [nee,aJ,rnk] at hn ⊢;omega
 exact (GX.pre (a:=[60,45]) (A:=[mw [60,45]]) (fun q hq=>PX_two' (by decide) (by cases q;trivial;exact absurd rfl hq;rfl)) nB (ha m d hm)).cast rfl rfl
theorem sJ {t:Tree} (hk:t.kind=17∨t.kind=19∨t.kind=20∨t.kind=33∨t.kind=34) (h:LM t):LS t:=by
 intro n d hn
 obtain ⟨m,rfl⟩:=aH hn
 have hm:nee .simple t<m:=by simp only [nee,rnk] at hn ⊢;omega
 refine (h m d hm).cast ?_ ?_
 ·show _=ym D0 (pr D0 m) .stmt d t
  simp only [ym]
  rcases hk with e | e | e | e | e <;> simp [e]
 ·show _=tkS D0 (tk D0 m) .stmt t
  simp only [tkS]
  rcases hk with e | e | e | e | e <;> simp [e]
theorem LS_16 {t:Tree} (hk:t.kind=16) (h:LB t):LS t:=by
 intro n d hn
 obtain ⟨m,rfl⟩:=aH hn
 have hm:nee .block t<m:=by simp only [nee,rnk] at hn ⊢;omega
 exact (h m d hm).cast (by show _=ym D0 (pr D0 m) .stmt d t;simp [ym,hk]) (by show _=tkS D0 (tk D0 m) .stmt t;simp [tkS,hk])
theorem LS_21 {t:Tree} (hk:t.kind=21) (h:LIf t):LS t:=by
 intro n d hn
 obtain ⟨m,rfl⟩:=aH hn
 have hm:nee .ifStmt t<m:=by simp only [nee,rnk] at hn ⊢;omega
 exact (h m d hm).cast (by show _=ym D0 (pr D0 m) .stmt d t;simp [ym,hk]) (by show _=tkS D0 (tk D0 m) .stmt t;simp [tkS,hk])
theorem LS_18 {p:Int} {x:List UInt8} {y e:Tree} (hx:nOk x) (hy:LT y) (he:e=aB∨LE e):LS (nd 18 x p [y,e]):=by
 intro n d hn
 obtain ⟨m,rfl⟩:∃ m,n=m+2:=⟨n-2,by simp [nee,aJ,rnk] at hn;omega⟩
 have hm:∀ j',∀ t∈[y,e],nee j' t<m:=fun j' t mt=>aC (by decide) hn (by omega) mt
 have g:GX (([118,97,114]++[32])++(x++[32]++pr D0 m .wtype d y)) (([nw [118,97,114]]++[])++(nw x::tk D0 m .wtype y)):=GX.pre (fun q hq=>(aW hq (by decide)).app cO) nB (oq hx.1 (hy m d (hm _ y (by simp))))
 have ha:PX .E ([32]++[61]++[32]) ([]++[mw [61]]++[]) .B:=(cO.app (PX_eq (by intro h;cases h))).app cO
 exact (unl_gx (f:=pr D0 (m+1) .expr d) (g:=tk D0 (m+1) .expr) (t:=e) g ha nB fun h8=>by
  rcases he with rfl | he
  ·exact absurd rfl h8
  ·exact he (m+1) d (by have:=hm .expr e (by simp);omega)).cast rfl rfl
theorem pI {kd:Int} {w x:List UInt8} {p:Int} (hk:(kd=27∧w=[98,114,101,97,107])∨(kd=28∧w=[99,111,110,116,105,110,117,101])) (hx:x=[]∨nOk x):LS (nd kd x p []):=by
 intro n d hn
 have hk0:kd≠0:=by rcases hk with ⟨rfl,_⟩ | ⟨rfl,_⟩ <;> decide
 obtain ⟨m,rfl⟩:∃ m,n=m+2:=⟨n-2,by simp [nee,aJ,rnk,hk0] at hn;omega⟩
 have hw:rV w=true∧eu w=true∧oO w=true:=by rcases hk with ⟨_,rfl⟩ | ⟨_,rfl⟩ <;> decide
 have hg:=gI hw.1 (.inr hw.2)
 have ht:tk D0 (m+2) .stmt (nd kd x p [])=nw w::(if x=[] then [] else [nw x]):=by rcases hk with ⟨rfl,rfl⟩ | ⟨rfl,rfl⟩ <;> rfl
 have hp:pr D0 (m+2) .stmt d (nd kd x p [])=w++(if x=[] then [] else [32]++x):=by rcases hk with ⟨rfl,rfl⟩ | ⟨rfl,rfl⟩ <;> rfl
 rw [ht,hp]
 by_cases hx0:x=[]
 ·rw [if_pos hx0,if_pos hx0,List.append_nil];exact hg
 ·rw [if_neg hx0,if_neg hx0]
  have h:=hx.resolve_left hx0
  exact (GX.pre (fun q hq=>(hg.px hq).app cO) nB (gI h.1 (.inl h.2))).cast (by simp) (by simp)
theorem LS_29 {p:Int} : LS (nd 29 [] p []):=by
 intro n d hn
 obtain ⟨m,rfl⟩:=aH hn
 exact gI (x:=[102,97,108,108,116,104,114,111,117,103,104]) (by decide) (.inr (by decide))
theorem LS_30 {p:Int} {e:Tree} (he:e=aB∨LE e):LS (nd 30 [] p [e]):=by
 intro n d hn
 obtain ⟨m,rfl⟩:=aH hn
 have hm:nee .expr e<m:=aC (by decide) hn (by omega) (by simp)
 exact (unl_gx (f:=pr D0 m .expr d) (g:=tk D0 m .expr) (t:=e) (a:=[32]) (A:=[]) (gI (x:=[114,101,116,117,114,110]) (by decide) (.inr (by decide))) cO nB fun h8=>by
  rcases he with rfl | he
  ·exact absurd rfl h8
  ·exact he m d hm).cast rfl rfl
theorem LS_call {kd:Int} {w:List UInt8} {p:Int} {e:Tree} (hk:(kd=31∧w=[103,111])∨(kd=32∧w=[100,101,102,101,114])) (he:LE e):LS (nd kd [] p [e]):=by
 intro n d hn
 obtain ⟨m,rfl⟩:=aH hn
 have hk0:kd≠0:=by rcases hk with ⟨rfl,_⟩ | ⟨rfl,_⟩ <;> decide
 have hm:nee .expr e<m:=aC hk0 hn (by omega) (by simp)
 rcases hk with ⟨rfl,rfl⟩ | ⟨rfl,rfl⟩
 ·exact (GX.pre (fun q hq=>(aW (x:=[103,111]) hq (by decide)).app cO) nB (he m d hm)).cast rfl rfl
 ·exact (GX.pre (fun q hq=>(aW (x:=[100,101,102,101,114]) hq (by decide)).app cO) nB (he m d hm)).cast rfl rfl
theorem LS_35 {p:Int} {x:List UInt8} {t:Tree} (hx:nOk x) (h:LS t):LS (nd 35 x p [t]):=by
 intro n d hn
 obtain ⟨m,rfl⟩:=aH hn
 have hm:nee .stmt t<m:=aC (by decide) hn (by omega) (by simp)
 exact (GX.pre (fun q hq=>((aW hq hx.1).app PX_col).app cO) nB (h m d hm)).cast (by simp [pr,ym,nd,Tree.kind,Tree.text,Tree.kids,yM]) (by simp [tk,tkS,nd,Tree.kind,Tree.text,Tree.kids,yM])
theorem LIf_21 {p:Int} {c th o:Tree} (hc:LE c) (ht:LB th) (ho:o=aB∨(LB o∧o.kind=16)∨(LIf o∧o.kind=21)):LIf (nd 21 [] p [c,th,o]):=by
 intro n d hn
 obtain ⟨m,rfl⟩:=aH hn
 have hm:∀ j',∀ t∈[c,th,o],nee j' t<m:=fun j' t mt=>aC (by decide) hn (by omega) mt
 have g:GX (([105,102]++[32])++pr D0 m .expr d c++[32]++pr D0 m .block d th) (([nw [105,102]]++[])++tk D0 m .expr c++[]++tk D0 m .block th):=GX.pre (fun q hq=>(((aW hq (by decide)).app cO).app ((hc m d (hm _ c (by simp))).px nB)).app cO) nB (ht m d (hm _ th (by simp)))
 have ha:PX .E ([32]++[101,108,115,101]++[32]) ([]++[nw [101,108,115,101]]++[]) .B:=(cO.app (aW nB (by decide))).app cO
 exact (unl_gx (f:=pr D0 m .stmt d) (g:=tk D0 m .stmt) (t:=o) g ha nB fun h8=>by
  have hs:LS o:=by
   rcases ho with rfl | ⟨h,hk⟩ | ⟨h,hk⟩
   ·exact absurd rfl h8
   ·exact LS_16 hk h
   ·exact LS_21 hk h
  exact hs m d (hm _ o (by simp))).cast (by simp [pr,ym,nd,Tree.kind,Tree.text,Tree.kids,yM]) (by simp [tk,tkS,nd,Tree.kind,Tree.text,Tree.kids,yM])
theorem LD_3 {p:Int} {x:List UInt8} {y:Tree} (hx:nOk x) (hy:LT y):LD (nd 3 x p [y]):=by
 intro n d hn
 obtain ⟨m,rfl⟩:∃ m,n=m+2:=⟨n-2,by simp [nee,aJ,rnk] at hn;omega⟩
 have hm:nee .wtype y<m:=aC (by decide) hn (by omega) (by simp)
 exact (GX.pre (fun q hq=>(aW (x:=[118,97,114]) hq (by decide)).app cO) nB (oq hx.1 (hy m d hm))).cast rfl rfl
theorem LD_4 {p:Int} {x:List UInt8} {l:List Tree} (hx:nOk x) (hl:LFn l):LD (nd 4 x p l):=by
 intro n d hn
 obtain ⟨m,rfl⟩:=aH hn
 have hm:nee .function (nd 4 x p l)<m:=by simp only [nee,rnk] at hn ⊢;omega
 obtain ⟨f1,f2⟩:=fn_px (d:=d) (by decide) hl hm
 have g:GX (([102,117,110,99]++[32])++x++pr D0 m .function d (nd 4 x p l)) (([nw [102,117,110,99]]++[])++[nw x]++tk D0 m .function (nd 4 x p l)):=⟨by simp,gK f2,fun q hq=>(((aW hq (by decide)).app cO).app (aW nB hx.1)).app (f1 _)⟩
 exact g.cast rfl rfl
theorem LD_2 {p:Int} {x:List UInt8} {l:List Tree} (hx:nOk x) (hl:∀ t∈l,LN 5 t):LD (nd 2 x p l):=by
 intro n d hn
 obtain ⟨m,rfl⟩:∃ m,n=m+3:=⟨n-3,by simp [nee,aJ,rnk] at hn;omega⟩
 have hm:∀ t∈l,nee .file t<m:=fun t mt=>aC (n:=m) (c:=3) (by decide) hn (by omega) mt
 have h1:=nC (f:=pr D0 (m+2) .field (d+1)) (g:=tk D0 (m+2) .field) d (l:=l) fun t mt=>by
  obtain ⟨y,p2,z,rfl,hy,hz⟩:=hl t mt
  have hme:nee .wtype z<m:=by
   have h1:=hm _ mt
   simp [nee,aJ,rnk] at h1 ⊢
   omega
  exact (oq hy.1 (hz m (d+1) hme)).cast rfl rfl
 exact (GX.close (fun q hq=>(((((((aW (x:=[116,121,112,101]) hq (by decide)).app cO).app (aW nB hx.1)).app cO).app (aW (x:=[115,116,114,117,99,116]) nB (by decide))).app cO).app pJ).app h1) (aI (c:=125) (by decide)) (by simp) (fU (by decide))).cast (by simp [pr,ym,nd,Tree.kind,Tree.text,Tree.kids,yM]) (by simp [tk,tkS,nd,Tree.kind,Tree.text,Tree.kids,yM])
end
open Lx Lx.Sp
section
def LP (t:Tree):Prop:=t=aB∨(LM t∧(t.kind=17∨t.kind=19∨t.kind=20∨t.kind=33∨t.kind=34))
theorem LP_ls {t:Tree} (h:LP t) (h8:t.kind≠8):LS t:=by
 rcases h with rfl | ⟨h,hk⟩
 ·exact absurd rfl h8
 ·exact sJ hk h
theorem LE_8 {t:Tree} (h:t=aB∨LE t) (h8:t.kind≠8):LE t:=by
 rcases h with rfl | h
 ·exact absurd rfl h8
 ·exact h
theorem PX_59 {q:Qs} : PX q [59] [mw [59]] .B:=aI (by decide)
theorem LS_22 {p:Int} {a c b bl:Tree} (ha:LP a) (hc:c=aB∨LE c) (hb:LP b) (hbl:LB bl):LS (nd 22 [] p [a,c,b,bl]):=by
 intro n d hn
 obtain ⟨m,rfl⟩:∃ m,n=m+4:=⟨n-4,by simp [nee,aJ,rnk] at hn;omega⟩
 have hm:∀ j',∀ t∈[a,c,b,bl],nee j' t<m:=fun j' t mt=>aC (by decide) hn (by omega) mt
 have hB:=hbl (m+2) d (by have:=hm .block bl (by simp);omega)
 have hh:∃ q',PX .E (if a.kind=8∧b.kind=8 then gX [32] (pr D0 (m+2) .expr d) c else [32]++gX [] (pr D0 (m+1) .stmt d) a++[59,32]++gX [] (pr D0 (m+1) .expr d) c++[59]++gX [32] (pr D0 (m+1) .stmt d) b) (if a.kind=8∧b.kind=8 then unT [] (tk D0 (m+2) .expr) c else (unT [] (tk D0 (m+1) .stmt) a++(mw [59]::unT [] (tk D0 (m+1) .expr) c))++(mw [59]::unT [] (tk D0 (m+1) .stmt) b)) q':=by
  split
  ·exact mQ cO nB fun h8=>LE_8 hc h8 (m+2) d (by have:=hm .expr c (by simp);omega)
  ·obtain ⟨q1,h1⟩:=mQ (q:=.B) (jP .B) nB (f:=pr D0 (m+1) .stmt d) (g:=tk D0 (m+1) .stmt) (t:=a) fun h8=>LP_ls ha h8 (m+1) d (by have:=hm .stmt a (by simp);omega)
   obtain ⟨q2,h2⟩:=mQ (q:=.B) (jP .B) nB (f:=pr D0 (m+1) .expr d) (g:=tk D0 (m+1) .expr) (t:=c) fun h8=>LE_8 hc h8 (m+1) d (by have:=hm .expr c (by simp);omega)
   obtain ⟨q3,h3⟩:=mQ (q:=.B) (a:=[32]) (A:=[]) cO nB (f:=pr D0 (m+1) .stmt d) (g:=tk D0 (m+1) .stmt) (t:=b) fun h8=>LP_ls hb h8 (m+1) d (by have:=hm .stmt b (by simp);omega)
   exact ⟨q3,((((((cO (q:=.E)).app h1).app (PX_59.app cO)).app h2).app PX_59).app h3).cast (by simp) (by simp)⟩
 obtain ⟨q1,h1⟩:=hh
 exact (GX.pre (fun q hq=>((aW (x:=[102,111,114]) hq (by decide)).app h1).app cO) nB hB).cast rfl (by
  show _=(nw [102,111,114]::(if a.kind=8∧b.kind=8 then unT [] (tk D0 (m+2) .expr) c else (unT [] (tk D0 (m+1) .stmt) a++(mw [59]::unT [] (tk D0 (m+1) .expr) c))++(mw [59]::unT [] (tk D0 (m+1) .stmt) b)))++tk D0 (m+2) .block bl
  simp)
theorem uM {f:Tree→List UInt8} {g:Tree→List TC} : ∀ {l:List Tree},(∀ t∈l,PX .B (f t) (g t) .B)→PX .B (l.flatMap f) (l.flatMap g) .B
 | [],_=>jP _
 | a::l,h=>((h a (by simp)).app (uM (f:=f) (g:=g) (l:=l) fun t m=>h t (by simp [m]))).cast (by simp) (by simp)
theorem LS_23 {p:Int} {e:Tree} {l:List Tree} (he:e=aB∨LE e) (hl:∀ t∈l,LC t):LS (nd 23 [] p (e::l)):=by
 intro n d hn
 obtain ⟨m,rfl⟩:∃ m,n=m+2:=⟨n-2,by simp [nee,aJ,rnk] at hn;omega⟩
 have hm:∀ j',∀ t∈e::l,nee j' t<m:=fun j' t mt=>aC (by decide) hn (by omega) mt
 obtain ⟨q1,h1⟩:=mQ (q:=.E) (a:=[32]) (A:=[]) cO nB (f:=pr D0 m .expr d) (g:=tk D0 m .expr) (t:=e) fun h8=>LE_8 he h8 m d (hm _ e (by simp))
 have h2:=uM (f:=pr D0 m .clause d) (g:=tk D0 m .clause) (l:=l) fun t mt=>hl t mt m d (hm _ t (by simp [mt]))
 exact (GX.close (fun q hq=>(((((aW (x:=[115,119,105,116,99,104]) hq (by decide)).app h1).app cO).app pJ).app h2).app (mJ d)) (aI (c:=125) (by decide)) (by simp) (fU (by decide))).cast (by simp [pr,ym,nd,Tree.kind,Tree.text,Tree.kids,yM]) (by simp [tk,tkS,nd,Tree.kind,Tree.text,Tree.kids,yM])
theorem LS_25 {p:Int} {l:List Tree} (hl:∀ t∈l,LO t):LS (nd 25 [] p l):=by
 intro n d hn
 obtain ⟨m,rfl⟩:∃ m,n=m+2:=⟨n-2,by simp [nee,aJ,rnk] at hn;omega⟩
 have hm:∀ j',∀ t∈l,nee j' t<m:=fun j' t mt=>aC (by decide) hn (by omega) mt
 have h2:=uM (f:=pr D0 m .comm d) (g:=tk D0 m .comm) (l:=l) fun t mt=>hl t mt m d (hm _ t mt)
 exact (GX.close (fun q hq=>((((aW (x:=[115,101,108,101,99,116]) hq (by decide)).app cO).app pJ).app h2).app (mJ d)) (aI (c:=125) (by decide)) (by simp) (fU (by decide))).cast (by simp [pr,ym,nd,Tree.kind,Tree.text,Tree.kids,yM]) (by simp [tk,tkS,nd,Tree.kind,Tree.text,Tree.kids,yM])
theorem lcs {b:Tree} (h:LCb b) {n d:Nat} (hn:nee .clauseStmts b<n) {q:Qs} : PX q (pr D0 n .clauseStmts d b) (tk D0 n .clauseStmts b) .B:=by
 obtain ⟨p,l,rfl,hl⟩:=h
 obtain ⟨m,rfl⟩:=aH hn
 have hm:∀ t∈l,nee .stmt t<m:=fun t mt=>aC (by decide) hn (by omega) mt
 exact (cs_px (f:=pr D0 m .stmt (d+1)) (g:=tk D0 m .stmt) d fun t mt=>hl t mt m _ (hm t mt)).cast rfl rfl
theorem caseW {d:Nat} : PX .B (bV d++[99,97,115,101]++[32]) ([]++[nw [99,97,115,101]]++[]) .B:=((mJ d).app (aW nB (by decide))).app cO
theorem LC_case {p:Int} {e:Tree} {es:List Tree} {b:Tree} (he:LE e) (hes:∀ t∈es,LE t) (hb:LCb b):LC (nd 24 [99,97,115,101] p ((e::es)++[b])):=by
 intro n d hn
 obtain ⟨m,rfl⟩:=aH hn
 have hm:∀ j',∀ t∈(e::es)++[b],nee j' t<m:=fun j' t mt=>aC (by decide) hn (by omega) mt
 have e1:=mg 24 [99,97,115,101] p (e::es) b
 have e2:=part_end 24 [99,97,115,101] p (e::es) b
 obtain ⟨q1,h1⟩:=mP (f:=pr D0 m .expr d) (g:=tk D0 m .expr) (l:=e::es) fun t mt=>by
  rcases List.mem_cons.1 mt with rfl | mt'
  ·exact he m d (hm _ t (by simp))
  ·exact hes t mt' m d (hm _ t (by simp [mt']))
 refine (((caseW (d:=d)).app h1).app (lcs hb (d:=d) (hm .clauseStmts b (by simp)))).cast ?_ ?_
 ·have hl:¬((nd 24 [99,97,115,101] p (e::(es++[b]))).kids.length-1=0):=by simp [nd,Tree.kids]
  simp only [pr,ym]
  rw [e1,e2,if_pos (by simp [nd,Tree.kind,Tree.text])]
  simp [hl]
 ·simp only [tk,tkS]
  rw [e1,e2,if_pos (by simp [nd,Tree.kind,Tree.text])]
  simp
theorem LC_default {p:Int} {b:Tree} (hb:LCb b):LC (nd 24 [100,101,102,97,117,108,116] p [b]):=by
 intro n d hn
 obtain ⟨m,rfl⟩:=aH hn
 have hm:nee .clauseStmts b<m:=aC (by decide) hn (by omega) (by simp)
 exact (((mJ d).app (aW (x:=[100,101,102,97,117,108,116]) nB (by decide))).app (lcs hb (d:=d) hm)).cast rfl rfl
theorem LO_recv {p:Int} {u b:Tree} (hu:LE u) (hk:u.kind≠7) (hb:LCb b):LO (nd 26 [114,101,99,118] p [u,b]):=by
 intro n d hn
 obtain ⟨m,rfl⟩:∃ m,n=m+2:=⟨n-2,by simp [nee,aJ,rnk] at hn;omega⟩
 have hm:∀ j',∀ t∈[u,b],nee j' t<m:=fun j' t mt=>aC (by decide) hn (by omega) mt
 have h2:PX .B [60,45] [mw [60,45]] .B:=PX_two' (by decide) trivial
 refine ((((caseW (d:=d)).app h2).app ((hu m d (hm _ u (by simp))).px nB)).app (lcs hb (d:=d) (hm .clauseStmts b (by simp)))).cast ?_ ?_
 ·simp [pr,ym,nd,Tree.kind,Tree.text,Tree.kids,yM]
  intro h;exact absurd h (by cases u;exact hk)
 ·simp [tk,tkS,nd,Tree.kind,Tree.text,Tree.kids,yM]
  intro h;exact absurd h (by cases u;exact hk)
theorem LO_recv2 {p p2:Int} {x:List UInt8} {u b:Tree} (hx:nOk x) (hu:LE u) (hb:LCb b):LO (nd 26 [114,101,99,118] p [nd 7 x p2 [],u,b]):=by
 intro n d hn
 obtain ⟨m,rfl⟩:∃ m,n=m+2:=⟨n-2,by simp [nee,aJ,rnk] at hn;omega⟩
 have hm:∀ j',∀ t∈[nd 7 x p2 [],u,b],nee j' t<m:=fun j' t mt=>aC (by decide) hn (by omega) mt
 have h1:PX .B [58,61] [mw [58,61]] .B:=PX_two' (by decide) trivial
 have h2:PX .B [60,45] [mw [60,45]] .B:=PX_two' (by decide) trivial
 exact ((((((((caseW (d:=d)).app (aW nB hx.1)).app cO).app h1).app cO).app h2).app ((hu m d (hm _ u (by simp))).px nB)).app (lcs hb (d:=d) (hm .clauseStmts b (by simp)))).cast (by simp [pr,ym,nd,Tree.kind,Tree.text,Tree.kids,yM]) (by simp [tk,tkS,nd,Tree.kind,Tree.text,Tree.kids,yM])
theorem LO_send {p:Int} {a e b:Tree} (ha:LE a) (he:LE e) (hb:LCb b):LO (nd 26 [115,101,110,100] p [a,e,b]):=by
 intro n d hn
 obtain ⟨m,rfl⟩:∃ m,n=m+2:=⟨n-2,by simp [nee,aJ,rnk] at hn;omega⟩
 have hm:∀ j',∀ t∈[a,e,b],nee j' t<m:=fun j' t mt=>aC (by decide) hn (by omega) mt
 have h1:=pM (x:=[60,45]) (by decide) (ha m d (hm _ a (by simp))) (he m d (hm _ e (by simp)))
 exact (((caseW (d:=d)).app (h1.px nB)).app (lcs hb (n:=m+1) (d:=d) (by have:=hm .clauseStmts b (by simp);omega))).cast (by
  show _=((bV d++[99,97,115,101,32])++(pr D0 m .expr d a++[32]++[60,45]++[32]++pr D0 m .expr d e))++pr D0 (m+1) .clauseStmts d b
  simp) (by
  show _=(nw [99,97,115,101]::(tk D0 m .expr a++mw [60,45]::tk D0 m .expr e))++tk D0 (m+1) .clauseStmts b
  simp)
theorem LO_default {p:Int} {b:Tree} (hb:LCb b):LO (nd 26 [100,101,102,97,117,108,116] p [b]):=by
 intro n d hn
 obtain ⟨m,rfl⟩:=aH hn
 have hm:nee .clauseStmts b<m:=aC (by decide) hn (by omega) (by simp)
 exact (((mJ d).app (aW (x:=[100,101,102,97,117,108,116]) nB (by decide))).app (lcs hb (d:=d) hm)).cast rfl rfl
theorem file_px {l:List Tree} {n:Nat} (h:∀ t∈l,LD t) (hn:∀ t∈l,nee .decl t<n):PX .B (l.flatMap fun k=>pr D0 n .decl 0 k++[10]) (dW (tk D0 n .decl) l) .B:=by
 induction l with
 | nil=>exact jP _
 | cons a l ih=>
   have ha:=h a (by simp) n 0 (hn a (by simp))
   obtain ⟨t,h1,h2⟩:=ha.2.1
   exact ((PX_nl (ha.px nB) h1 h2).app (ih (fun t m=>h t (by simp [m])) fun t m=>hn t (by simp [m]))).cast (by simp) (by simp [dW])
end
end Go.Proofs.YtgbjpnnockoomaaGreatDoor.Px
