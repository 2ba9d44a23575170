import Derived.Test.YtgbjpnnockoomaaGreatDoorPi
import Derived.Test.YtgbjpnnockoomaaGreatDoorPs
import Derived.Test.YtgbjpnnockoomaaGreatDoorSteps
import Derived.Test.YtgbjpnnockoomaaGreatDoorPr1
import Derived.Lib.ItoaLen
import Derived.Test.YtgbjpnnockoomaaGreatDoorLq2
import Derived.Test.YtgbjpnnockoomaaGreatDoorRp6
set_option linter.unusedVariables false
set_option linter.unusedSimpArgs false
set_option maxHeartbeats 2000000
set_option maxRecDepth 100000
namespace Go.Proofs.YtgbjpnnockoomaaGreatDoor.Pp
open Go.RowKit Lx Px
theorem File_any (w:World) (kd:Int) (tx:List UInt8) (nm ps:Int) (ks:List Tree) (ao:Option Addr) (cp n:Nat) (hk:Jj.aO w (.slice ao ks.length cp) ks) (hT:TabOk w) (hn:je I64 (.mk kd tx nm ps ks)) (hf:nee .file (.mk kd tx nm ps ks)<n) (hz:sz (.mk kd tx nm ps ks)<1152921504606846976) (hl:(pr Lib.itoa n .file 0 (.mk kd tx nm ps ks)).length≤1099511627776) :
 Calls Tryz.prog 6 #[nA kd tx nm ps ao ks.length cp] w fun e w'=>e=.returned (.string ⟨(pr Lib.itoa n .file 0 (.mk kd tx nm ps ks)).toArray⟩)∧w.grownBy w' none:=by
 have hJ:∀ b,JC w w.heap.size b (pr Lib.itoa n) .file 0 (.mk kd tx nm ps ks):=fun b=>jobs_all rfl Lib.itoa I64 ⟨om,om⟩ (fun v hv=>itoa_ok rfl hT v hv) n .file 0 _ hf trivial om hn
 have HJ:=zm (fun b=>hJ b kd tx nm ps ks ao cp rfl hk)
 obtain ⟨T,hTT⟩:∃ T,T=pr Lib.itoa n .file 0 (.mk kd tx nm ps ks):=⟨_,rfl⟩
 rw [←hTT] at HJ hl ⊢
 simp only [JF,JA] at HJ
 clear hTT hJ hT hn hf hz hk
 have hP:PB w.heap.size (w.heap.size+1) (0:Nat) (Lib.byteCells []) ((w.alloc (nO kd tx nm ps ao ks.length cp)).alloc (.cells #[.pointer none,.slice none 0 0,.int .i64 0] 50)):=.inl ⟨om,.slice none 0 0,yW _ _ zK,World.ownsRowF_nil _ _ _ _,by intro h;cases h⟩
 have hB:Below w.heap.size w ((w.alloc (nO kd tx nm ps ao ks.length cp)).alloc (.cells #[.pointer none,.slice none 0 0,.int .i64 0] 50)):=((Below.refl _ _).alloc lr _).alloc zK _
 have HX:=zm (zk HJ (w.heap.size+1) [] _ hB hP (by simpa using hl))
 have HB:=zm hB
 clear HJ hP hB
 go_enter Tryz.func6,Tryz.ntmps6
 go_wp2_with fail
 with_reducible refine (zk HX).mono ?_
 rintro e w2 ⟨rfl,h2⟩
 have hb2:=(zk HB).trans h2.2.1
 have HY:=zm (string_any _ _ _ _ _ h2.1 hb2.size)
 have HB2:=zm hb2
 clear h2 hb2
 go_wp2_with fail
 with_reducible refine (zk HY).mono ?_
 rintro e w3 ⟨rfl,h3⟩
 have HB3:=zm ((zk HB2).trans h3)
 clear h3
 go_wp2
 go_ret
 exact ⟨by simp,grown_of rfl (zk HB3)⟩
end Go.Proofs.YtgbjpnnockoomaaGreatDoor.Pp
namespace Go.Proofs.YtgbjpnnockoomaaGreatDoor.Px
open Lx Pp
theorem sz_cnt:∀ (n:Nat) (t:Tree),SizeOf.sizeOf t≤n→sz t≤2*cnt t
 | 0,t,h=>by cases t;simp at h
 | n+1,.mk k x m p l,h=>by
   rw [nX,qx,jH]
   have hl:∀ r:List Tree,(∀ t∈r,t∈l)→(r.map sz).sum≤2*(r.map cnt).sum:=by
    intro r
    induction r with
    | nil=>intro _;simp
    | cons a r ih=>
      intro hm
      have h1:=sz_cnt n a (by have:=List.sizeOf_lt_of_mem (hm a zK);simp at h;omega)
      have h2:=ih (fun t m=>hm t (by simp [m]))
      simp only [List.map_cons,List.sum_cons]
      omega
   have:=hl l (fun _ m=>m)
   split <;> omega
theorem nums_of:∀ (n:Nat) (t:Tree),SizeOf.sizeOf t≤n→OkT 8192 t→je I6 t
 | 0,t,h,_=>by cases t;simp at h
 | n+1,.mk k x m p l,h,ho=>by
   rw [iG] at ho
   rw [lW]
   exact ⟨ho.2.1,fun t mt=>nums_of n t (by have:=List.sizeOf_lt_of_mem mt;simp at h;omega) (ho.2.2 t mt)⟩
open Lx
theorem qC (ts:List Tok) (h:Bool):∀ (n:Nat) (acc:List Tree) (k:Nat) (l:List Tree) (s:Int) (k':Nat),k≤ts.length→run ts n (.fileMore acc) h k=.ok l s k'→k'≤ts.length∧∃ kids,l=[nd 1 [] 0 kids]
 | 0,_,_,_,_,_,_,e=>by cases e
 | n+1,acc,k,l,s,k',hk,e=>by
   have e2:bU ts (run ts n) acc h k=.ok l s k':=e
   unfold bU at e2
   split at e2
   ·cases e2;exact ⟨hk,_,rfl⟩
   ·cases hd:run ts n .decl h k with
    | ok l2 s2 k2=>
      rw [hd] at e2
      match l2,e2 with
      | [d],e2=>
        simp only [R.ax,want] at e2
        split at e2
        ·rename_i hq
         exact qC ts h n _ _ _ _ _ (lt_is hq) e2
        ·cases e2
      | [],e2=>cases e2
      | _::_::_,e2=>cases e2
    | bad p=>rw [hd] at e2;cases e2
    | out=>rw [hd] at e2;cases e2
theorem small_of:∀ (n:Nat) (t:Px.Tree),SizeOf.sizeOf t≤n→cnt t≤1000000→Jj.small t=true:=by
 intro n
 induction n with
 | zero=>intro t h;exfalso;cases t;simp at h
 | succ n ih=>
   intro t h hc
   cases t with
   | mk a b c d l=>
     rw [qx] at hc
     have hl:=cntL_len l
     rw [Jj.small]
     simp only [Bool.and_eq_true,decide_eq_true_eq,List.all_eq_true]
     refine ⟨om,fun x hx=>?_⟩
     obtain ⟨t,ht,rfl⟩:=List.mem_map.1 hx
     have h1:=List.sizeOf_lt_of_mem ht
     have h2:=cntL_mem ht
     simp only [Px.Tree.mk.sizeOf_spec] at h
     exact ih t om om
theorem jW:∀ (f:Nat) (l:List UInt8) (k:Nat) (ts ts':List Tok),k≤l.length→fO f l k ts=.inr ts'→ts'.length+k≤ts.length+l.length
  | 0,l,k,ts,ts',hk,e=>by cases e;omega
  | f+1,l,k,ts,ts',hk,e=>by
    unfold fO at e
    split at e
    · rename_i hlt
      split at e
      · cases e
      · rename_i q hq
        have h1:=iP l k ts hlt q.1 q.2 hq
        have h2:=jW f l q.1 q.2 ts' h1.2.1 e
        omega
    · cases e;omega
theorem lex_len (l:List UInt8):(aY l).1.length≤l.length+2:=by
  unfold aY
  split
  · simp
  · split
    · simp
    · rename_i ts hs
      split
      · simp
      · have h1:=jW _ l 0 [] ts (Nat.zero_le _) hs
        have h2:=Go.Proofs.YtgbjpnnockoomaaGreatDoor.Lx.jw ts (l.length:Int)
        simp only [jQ,List.length_append,List.length_cons,List.length_nil] at *
        omega
theorem parsed (l:List UInt8) (hl:l.length≤4000) (h0:(aY l).2.1=0) (t:Tree) (n:Nat) (s:Int) (k':Nat) (hr:run (aY l).1 n (.fileMore []) false 0=.ok [t] s k'):(∃ kids,t=.mk 1 [] 0 0 kids)∧OkT 8192 t∧sz t≤300000∧Jj.small t=true:=by
  obtain ⟨hk,kids,he⟩:=qC (aY l).1 false n [] 0 [t] s k' (Nat.zero_le _) hr
  simp only [List.cons.injEq,and_true] at he
  subst he
  have h1:=(run_few (aY l).1 n (.fileMore []) false 0 trivial _ _ _ hr).2
  have h2:=lex_len l
  simp only [iy,jT,cj,ex] at h1
  have h3:cnt (nd 1 [] 0 kids)≤70000:=om
  have h4:=parse_ok l h0 n false kids s k' hr
  have h5:=sz_cnt _ (nd 1 [] 0 kids) lr
  exact ⟨⟨kids,rfl⟩,by rw [jZ];exact ⟨by simp,h4⟩,om,small_of _ _ lr om⟩
theorem sz_er:∀ (n:Nat) (t:Tree),SizeOf.sizeOf t≤n→sz (er t)=sz t
  | 0,t,h=>by cases t;simp at h
  | n+1,.mk k x m p l,h=>by
    rw [iZ,nX,nX,List.map_map]
    congr 2
    apply List.map_congr_left
    intro t mt
    exact sz_er n t (by have:=List.sizeOf_lt_of_mem mt;simp at h;omega)
theorem ok_er:∀ (n:Nat) (t:Tree),SizeOf.sizeOf t≤n→OkT 8192 t→OkT 8192 (er t)
  | 0,t,h,_=>by cases t;simp at h
  | n+1,.mk k x m p l,h,ho=>by
    rw [iG] at ho
    rw [iZ,iG]
    refine ⟨ho.1,ho.2.1,fun t mt=>?_⟩
    obtain ⟨s,ms,rfl⟩:=List.mem_map.1 mt
    exact ok_er n s (by have:=List.sizeOf_lt_of_mem ms;simp at h;omega) (ho.2.2 s ms)
end Go.Proofs.YtgbjpnnockoomaaGreatDoor.Px
namespace Go.Proofs.YtgbjpnnockoomaaGreatDoor.Pp
open Go.RowKit Lx Px
def prt (t:Tree):List UInt8:=pr Lib.itoa 2400010 .file 0 t
theorem prt_er (t:Tree):prt (er t)=prt t:=pr_er _ _ _ _ _
theorem prt_len {t:Tree} (ho:OkT 8192 t) (hz:sz t≤300000):(prt t).length≤1099511627776:=by
  have h:=Go.Proofs.YtgbjpnnockoomaaGreatDoor.Px.qP Lib.itoa (fun v hv=>by have:=Lib.itoa_length_le v hv.1 hv.2;omega) 2400010 2400010 lr .file 0 t trivial ho om
  unfold prt
  simp only [rnk] at h
  omega
theorem ul (w:World) (kd:Int) (tx:List UInt8) (nm ps:Int) (ks:List Tree) (ao:Option Addr) (cp:Nat) (hk:Jj.aO w (.slice ao ks.length cp) ks) (hT:TabOk w) (ho:OkT 8192 (.mk kd tx nm ps ks)) (hz:sz (.mk kd tx nm ps ks)≤300000) :
    Calls Tryz.prog 6 #[nA kd tx nm ps ao ks.length cp] w fun e w'=>e=.returned (.string ⟨(prt (.mk kd tx nm ps ks)).toArray⟩)∧w.grownBy w' none:=
  File_any w kd tx nm ps ks ao cp 2400010 hk hT (nums_of _ _ lr ho) (by unfold nee;simp only [rnk];omega) om (prt_len ho hz)
end Go.Proofs.YtgbjpnnockoomaaGreatDoor.Pp
namespace Go.Proofs.YtgbjpnnockoomaaGreatDoor.Px
open Lx Lx.Sp
theorem PX.weak {q q2:Qs} {x:List UInt8} {T:List TC} (hx:x≠[]) (h:PX q x T .B):PX q x T q2:=
 ⟨h.1,fun e=>absurd e hx,fun d lst r hd hr=>h.2.2 d lst r (by cases d <;> trivial) hr⟩
theorem aI {q:Qs} {c:UInt8} (hc:[40,41,91,93,123,125,44,46,59].contains c=true):PX q [c] [mw [c]] .B:=by
 have h0:([40,41,91,93,123,125,44,46,59].all fun c=>decide (mkC.contains c=true∧bH c=false∧hs c=true∧c≠47∧(iJ.all fun y=>match y with | e::_=>e != c | _=>false)=true))=true:=by decide
 obtain ⟨h1,h2,h3,h4,h5⟩:=of_decide_eq_true (List.all_eq_true.1 h0 c (List.contains_iff_mem.1 hc))
 refine PX_one h1 (by cases q;trivial;exact h2;exact h3) fun e r _=>⟨?_,.inl h4⟩
 rw [Bool.eq_false_iff]
 intro hp
 have:=List.all_eq_true.1 h5 _ (List.contains_iff_mem.1 hp)
 simp at this
theorem PX_two' {q:Qs} {c e:UInt8} (hp:kE [c,e]=true) (h0:okd q [c]):PX q [c,e] [mw [c,e]] .B:=by
 have f:(iJ.all fun y=>match y with | c::_=>decide (¬(c=32∨c=9)∧c≠10∧isLet c=false∧aG c=false∧c≠34∧c≠47) | _=>false)=true:=by decide
 obtain ⟨f3,f4,f5,f6,f7,f8⟩:=of_decide_eq_true (List.all_eq_true.1 f _ (List.contains_iff_mem.1 hp))
 refine qp (by simp) (mw [c,e]) (by cases q <;> exact h0) fun d hd k last=>?_
 show jg (c::(e::d)) k last=_
 rw [gB,if_neg f3,if_neg f4,if_neg (by rw [vT f8];simp),if_neg (by rw [f5];simp),if_neg (by rw [f6];simp),if_neg f7,mlen_2 d hp,if_neg (by decide)]
 rfl
def kX (T:List TC):Prop:=∃ t,T.getLast?=some t∧dX t.1 t.2.1=true
theorem gK {T U:List TC} (h:kX U):kX (T++U):=by
 obtain ⟨t,h1,h2⟩:=h
 exact ⟨t,by rw [List.getLast?_append,h1];rfl,h2⟩
def GX (x:List UInt8) (T:List TC):Prop:=(x≠[])∧kX T∧∀ q,q≠.E→PX q x T .E
theorem GX.pre {a x:List UInt8} {A T:List TC} {q':Qs} (ha:∀ q,q≠.E→PX q a A q') (hq:q'≠.E) (h:GX x T):GX (a++x) (A++T):=
 ⟨by simp [h.1],gK h.2.1,fun q h1=>(ha q h1).app (h.2.2 q' hq)⟩
theorem GX.post {x b:List UInt8} {T U:List TC} (h:GX x T) (hb:PX .E b U .B) (hb0:b≠[]) (he:kX U):GX (x++b) (T++U):=
 ⟨by simp [hb0],gK he,fun q h1=>(h.2.2 q h1).app (hb.weak hb0)⟩
theorem GX.close {a b:List UInt8} {A U:List TC} {q':Qs} (ha:∀ q,q≠.E→PX q a A q') (hb:PX q' b U .B) (hb0:b≠[]) (he:kX U):GX (a++b) (A++U):=
 ⟨by simp [hb0],gK he,fun q h1=>(ha q h1).app (hb.weak hb0)⟩
theorem GX.px {x:List UInt8} {T:List TC} (h:GX x T) {q:Qs} (hq:q≠.E):PX q x T .E:=h.2.2 q hq
theorem nB:Qs.B≠.E:=by intro h;cases h
theorem nM:Qs.M≠.E:=by intro h;cases h
theorem fU {x:List UInt8} (h:uY x=true):kX [mw x]:=⟨mw x,rfl,by simp [mw,dX,h]⟩
theorem end_nm {x:List UInt8} (h:eu x=false):kX [nw x]:=⟨nw x,rfl,by simp [nw,nmK,h,dX]⟩
theorem end_wd {x:List UInt8} (h:eu x=true) (h2:oO x=true):kX [nw x]:=⟨nw x,rfl,by simp [nw,nmK,h,dX,h2]⟩
theorem gI {x:List UInt8} (h:rV x=true) (hw:eu x=false∨(eu x=true∧oO x=true)):GX x [nw x]:=
 ⟨(by intro e;subst e;cases h),hw.elim end_nm fun h=>end_wd h.1 h.2,fun q hq=>aW hq h⟩
theorem GX.cast {x y:List UInt8} {T U:List TC} (h:GX x T) (e1:x=y) (e2:T=U):GX y U:=by rw [←e1,←e2];exact h
theorem PX.cast {q q':Qs} {x y:List UInt8} {T U:List TC} (h:PX q x T q') (e1:x=y) (e2:T=U):PX q y U q':=by rw [←e1,←e2];exact h
theorem mP {f:Tree→List UInt8} {g:Tree→List TC} : ∀ {l:List Tree},(∀ t∈l,GX (f t) (g t))→∃ q',PX .B (eY (l.map f)) (dM (l.map g)) q':=by
 have hx:∀ l:List Tree,(∀ t∈l,GX (f t) (g t))→PX .E ((l.map f).flatMap fun y=>[44,32]++y) (iL (l.map g)) .E:=by
  intro l
  induction l with
  | nil=>intro _;exact jP _
  | cons a l ih=>
    intro h
    have h1:PX .E ([44]++[32]) ([mw [44]]++[]) .B:=(aI (by decide)).app cO
    have h2:=(h1.app ((h a (by simp)).px nB)).app (ih fun t m=>h t (by simp [m]))
    exact h2.cast (by simp) (by simp [iL])
 intro l h
 cases l with
 | nil=>exact ⟨.B,jP _⟩
 | cons a l=>exact ⟨.E,((h a (by simp)).px nB).app (hx l fun t m=>h t (by simp [m]))⟩
theorem mQ {a:List UInt8} {A:List TC} {q1:Qs} {f:Tree→List UInt8} {g:Tree→List TC} {t:Tree} {q:Qs} (ha:PX q a A q1) (hq1:q1≠.E) (h:t.kind≠8→GX (f t) (g t)):∃ q',PX q (gX a f t) (unT A g t) q':=by
 unfold gX unT
 by_cases h8:t.kind=8
 ·rw [if_pos h8,if_pos h8];exact ⟨q,jP q⟩
 ·rw [if_neg h8,if_neg h8];exact ⟨.E,ha.app ((h h8).px hq1)⟩
section
abbrev D0:Int→List UInt8:=Lib.itoa
def LT (t:Tree):Prop:=∀ n d,nee .wtype t<n→GX (pr D0 n .wtype d t) (tk D0 n .wtype t)
def nOk (x:List UInt8):Prop:=rV x=true∧eu x=false
theorem um {kd p:Int} (hk:kd=9∨kd=10∨kd=11):LT (nd kd [] p []):=by
 intro n d hn
 obtain ⟨m,rfl⟩:=aH hn
 rcases hk with rfl | rfl | rfl
 ·exact gI (x:=[105,110,116]) (by decide) (.inr (by decide))
 ·exact gI (x:=[98,111,111,108]) (by decide) (.inr (by decide))
 ·exact gI (x:=[115,116,114,105,110,103]) (by decide) (.inr (by decide))
theorem LT_12 {p:Int} {x:List UInt8} (hx:nOk x):LT (nd 12 x p []):=by
 intro n d hn
 obtain ⟨m,rfl⟩:=aH hn
 exact GX.pre (a:=[42]) (A:=[mw [42]]) (fun q hq=>jJ (by decide) (by cases q;trivial;exact absurd rfl hq;rfl)) nM (gI hx.1 (.inl hx.2))
theorem LT_13 {p:Int} {t:Tree} (h:LT t):LT (nd 13 [] p [t]):=by
 intro n d hn
 obtain ⟨m,rfl⟩:=aH hn
 have hm:nee .wtype t<m:=aC (by decide) hn (by omega) (by simp)
 exact GX.pre (a:=[91]++[93]) (A:=[mw [91]]++[mw [93]]) (fun q hq=>(aI (by decide)).app (aI (by decide))) nB (h m d hm)
theorem LT_14 {p:Int} {t:Tree} (h:LT t):LT (nd 14 [] p [t]):=by
 intro n d hn
 obtain ⟨m,rfl⟩:=aH hn
 have hm:nee .wtype t<m:=aC (by decide) hn (by omega) (by simp)
 exact GX.pre (a:=[99,104,97,110]++[32]) (A:=[nw [99,104,97,110]]++[]) (fun q hq=>(aW hq (by decide)).app cO) nB (h m d hm)
theorem LT_15 {p:Int} {l:List Tree} {r:Tree} (hl:∀ t∈l,LT t) (hr:r=aB∨LT r):LT (nd 15 [] p (l++[r])):=by
 intro n d hn
 obtain ⟨m,rfl⟩:=aH hn
 have hm:∀ t∈l++[r],nee .wtype t<m:=fun t mt=>aC (by decide) hn (by omega) mt
 have e1:=mg 15 [] p l r
 have e2:((nd 15 [] p (l++[r])).kids.take ((nd 15 [] p (l++[r])).kids.length-1))=l:=by simp [nd,Tree.kids]
 have ht:tk D0 (m+1) .wtype (nd 15 [] p (l++[r]))=(nw [102,117,110,99]::mw [40]::dM (l.map (tk D0 m .wtype)))++mw [41]::unT [] (tk D0 m .wtype) r:=by
  simp only [tk,tkS];rw [e1,e2];rfl
 have hp:pr D0 (m+1) .wtype d (nd 15 [] p (l++[r]))=(([102,117,110,99,40]++eY (l.map (pr D0 m .wtype d)))++[41])++gX [32] (pr D0 m .wtype d) r:=by
  simp only [pr,ym];rw [e1,e2];rfl
 rw [ht,hp]
 obtain ⟨q1,h1⟩:=mP (f:=pr D0 m .wtype d) (g:=tk D0 m .wtype) (l:=l) fun t mt=>hl t mt m d (hm t (by simp [mt]))
 have h0:∀ q,q≠.E→PX q (([102,117,110,99]++[40])++eY (l.map (pr D0 m .wtype d))) (([nw [102,117,110,99]]++[mw [40]])++dM (l.map (tk D0 m .wtype))) q1:=fun q hq=>((aW hq (by decide)).app (aI (by decide))).app h1
 rcases hr with rfl | hr
 ·have:=GX.close h0 (aI (c:=41) (by decide)) (by simp) (fU (by decide))
  exact this.cast (by simp [gX,aB,nd,Tree.kind]) (by simp [unT,aB,nd,Tree.kind])
 ·by_cases h8:r.kind=8
  ·have:=GX.close h0 (aI (c:=41) (by decide)) (by simp) (fU (by decide))
   exact this.cast (by simp [gX,h8]) (by simp [unT,h8])
  ·have:=GX.pre (fun q hq=>((h0 q hq).app (aI (c:=41) (by decide))).app cO) nB (hr m d (hm r (by simp)))
   exact this.cast (by simp [gX,h8]) (by simp [unT,h8])
def LE (t:Tree):Prop:=∀ n d,nee .expr t<n→GX (pr D0 n .expr d t) (tk D0 n .expr t)
theorem LE_36 {v p:Int} (h0:0≤v) (h1:v<1000000000000000000):LE (.mk 36 [] v p []):=by
 intro n d hn
 obtain ⟨m,rfl⟩:=aH hn
 refine ⟨?_,⟨_,rfl,rfl⟩,fun q hq=>PX_num hq h0 h1⟩
 show Lib.itoa v≠[]
 obtain ⟨u,rfl⟩:∃ u:Nat,v=u:=⟨v.toNat,by omega⟩
 rw [Lib.itoa_nonneg]
 exact (dd_facts u u (Nat.le_refl _)).2.2.2
theorem LE_37 {x:List UInt8} {p:Int} (hx:isSt x=true):LE (nd 37 x p []):=by
 intro n d hn
 obtain ⟨m,rfl⟩:=aH hn
 exact ⟨by show nN x≠[];simp [nN],⟨_,rfl,rfl⟩,fun q hq=>PX_str hx⟩
theorem LE_40 {x:List UInt8} {p:Int} (hx:nOk x):LE (nd 40 x p []):=by
 intro n d hn
 obtain ⟨m,rfl⟩:=aH hn
 exact gI hx.1 (.inl hx.2)
theorem LE_38 {x:List UInt8} {p:Int} (hx:x=[116,114,117,101]∨x=[102,97,108,115,101]):LE (nd 38 x p []):=by
 intro n d hn
 obtain ⟨m,rfl⟩:=aH hn
 rcases hx with rfl | rfl
 ·exact gI (x:=[116,114,117,101]) (by decide) (.inr (by decide))
 ·exact gI (x:=[102,97,108,115,101]) (by decide) (.inr (by decide))
theorem LE_39 {p:Int} : LE (nd 39 [] p []):=by
 intro n d hn
 obtain ⟨m,rfl⟩:=aH hn
 exact gI (x:=[110,105,108]) (by decide) (.inr (by decide))
theorem paren_gx {x:List UInt8} {T:List TC} {q:Qs} (h:PX .B x T q):GX ([40]++x++[41]) (mw [40]::(T++[mw [41]])):=
 (GX.close (fun q hq=>(aI (c:=40) (by decide)).app h) (aI (c:=41) (by decide)) (by simp) (fU (by decide))).cast rfl (by simp)
theorem LE_41 {x:List UInt8} {p:Int} {a:Tree} (hx:x=[45]∨x=[33]∨x=[60,45]) (h:LE a):LE (nd 41 x p [a]):=by
 intro n d hn
 obtain ⟨m,rfl⟩:=aH hn
 have hm:nee .expr a<m:=aC (by decide) hn (by omega) (by simp)
 have h1:∃ q1,q1≠.E∧PX .B x [mw x] q1:=by
  rcases hx with rfl | rfl | rfl
  ·exact ⟨.M,nM,jJ (by decide) trivial⟩
  ·exact ⟨.M,nM,jJ (by decide) trivial⟩
  ·exact ⟨.B,nB,PX_two' (by decide) trivial⟩
 obtain ⟨q1,hq1,h1⟩:=h1
 exact (paren_gx (h1.app ((h m d hm).px hq1))).cast (by simp [pr,ym,nd,Tree.kind,Tree.text,yM,Tree.kids]) rfl
def opL:List (List UInt8):=[[124,124],[38,38],[61,61],[33,61],[60],[60,61],[62],[62,61],[43],[45],[42],[47],[37],[61],[43,61],[45,61],[42,61],[60,45]]
theorem op_px {x:List UInt8} (h:opL.contains x=true):∃ q,PX .B x [mw x] q:=by
 have hm:x∈opL:=List.contains_iff_mem.1 h
 simp only [opL,List.mem_cons,List.not_mem_nil,or_false] at hm
 rcases hm with rfl | rfl | rfl | rfl | rfl | rfl | rfl | rfl | rfl | rfl | rfl | rfl | rfl | rfl | rfl | rfl | rfl | rfl
 all_goals first
  | exact ⟨.B,PX_two' (by decide) trivial⟩
  | exact ⟨.M,jJ (by decide) trivial⟩
theorem op_in {x:List UInt8} (h:1≤aF x):opL.contains x=true:=by
 unfold aF at h
 repeat' split at h
 all_goals first
  | (exfalso;omega)
  | (rename_i e;subst e;decide)
  | (rename_i e;rw [List.contains_iff_mem] at e;simp only [List.mem_cons,List.not_mem_nil,or_false] at e;rcases e with rfl | rfl | rfl | rfl | rfl | rfl <;> decide)
  | (rename_i e;rw [List.contains_iff_mem] at e;simp only [List.mem_cons,List.not_mem_nil,or_false] at e;rcases e with rfl | rfl | rfl <;> decide)
  | (rename_i e;rw [List.contains_iff_mem] at e;simp only [List.mem_cons,List.not_mem_nil,or_false] at e;rcases e with rfl | rfl <;> decide)
theorem pM {x a b:List UInt8} {A B:List TC} (hx:opL.contains x=true) (ha:GX a A) (hb:GX b B):GX (a++[32]++x++[32]++b) (A++mw x::B):=by
 obtain ⟨q,h1⟩:=op_px hx
 exact (GX.pre (fun q0 hq=>(((ha.px hq).app cO).app h1).app cO) nB hb).cast rfl (by simp)
theorem LE_42 {x:List UInt8} {p:Int} {a b:Tree} (hx:1≤aF x) (ha:LE a) (hb:LE b):LE (nd 42 x p [a,b]):=by
 intro n d hn
 obtain ⟨m,rfl⟩:∃ m,n=m+2:=⟨n-2,by simp [nee,aJ,rnk] at hn;omega⟩
 have hm:∀ t∈[a,b],nee .expr t<m:=fun t mt=>aC (by decide) hn (by omega) mt
 exact (paren_gx ((pM (op_in hx) (ha m d (hm a (by simp))) (hb m d (hm b (by simp)))).px nB)).cast rfl rfl
theorem LE_43 {p:Int} {a:Tree} {l:List Tree} (ha:LE a) (hl:∀ t∈l,LE t):LE (nd 43 [] p (a::l)):=by
 intro n d hn
 obtain ⟨m,rfl⟩:∃ m,n=m+2:=⟨n-2,by simp [nee,aJ,rnk] at hn;omega⟩
 have hm:∀ t∈a::l,nee .expr t<m:=fun t mt=>aC (by decide) hn (by omega) mt
 obtain ⟨q1,h1⟩:=mP (f:=pr D0 m .expr d) (g:=tk D0 m .expr) (l:=l) fun t mt=>hl t mt m d (hm t (by simp [mt]))
 exact (GX.close (fun q hq=>(((ha m d (hm a (by simp))).px hq).app (aI (c:=40) (by decide))).app h1) (aI (c:=41) (by decide)) (by simp) (fU (by decide))).cast rfl (by simp [tk,tkS,nd,Tree.kind,yM,Tree.kids])
theorem LE_45 {p:Int} {a b:Tree} (ha:LE a) (hb:LE b):LE (nd 45 [] p [a,b]):=by
 intro n d hn
 obtain ⟨m,rfl⟩:∃ m,n=m+2:=⟨n-2,by simp [nee,aJ,rnk] at hn;omega⟩
 have hm:∀ t∈[a,b],nee .expr t<m:=fun t mt=>aC (by decide) hn (by omega) mt
 exact (GX.close (fun q hq=>(((ha m d (hm a (by simp))).px hq).app (aI (c:=91) (by decide))).app ((hb m d (hm b (by simp))).px nB)) (aI (c:=93) (by decide)) (by simp) (fU (by decide))).cast rfl (by simp [tk,tkS,nd,Tree.kind,yM,Tree.kids])
theorem LE_47 {p:Int} {a:Tree} {x:List UInt8} (hx:nOk x) (ha:LE a):LE (nd 47 x p [a]):=by
 intro n d hn
 obtain ⟨m,rfl⟩:∃ m,n=m+2:=⟨n-2,by simp [nee,aJ,rnk] at hn;omega⟩
 have hm:nee .expr a<m:=aC (by decide) hn (by omega) (by simp)
 exact (GX.pre (fun q hq=>((ha m d hm).px hq).app (aI (c:=46) (by decide))) nB (gI hx.1 (.inl hx.2))).cast rfl (by simp [tk,tkS,nd,Tree.kind,yM,Tree.kids,Tree.text])
theorem LE_46 {p:Int} {a b c:Tree} (ha:LE a) (hb:b=aB∨LE b) (hc:c=aB∨LE c):LE (nd 46 [] p [a,b,c]):=by
 intro n d hn
 obtain ⟨m,rfl⟩:∃ m,n=m+2:=⟨n-2,by simp [nee,aJ,rnk] at hn;omega⟩
 have hm:∀ t∈[a,b,c],nee .expr t<m:=fun t mt=>aC (by decide) hn (by omega) mt
 have hu:∀ t q,q≠.E→t∈[a,b,c]→(t=aB∨LE t)→∃ q',PX q (gX [] (pr D0 m .expr d) t) (unT [] (tk D0 m .expr) t) q':=fun t q hq mt h=>mQ (jP q) hq fun h8=>by
  rcases h with rfl | h
  ·exact absurd rfl h8
  ·exact h m d (hm t mt)
 obtain ⟨q1,h1⟩:=hu b .B nB (by simp) hb
 obtain ⟨q2,h2⟩:=hu c .M nM (by simp) hc
 have h58:PX q1 [58] [mw [58]] .M:=jJ (by decide) (by cases q1 <;> first | trivial | rfl)
 exact (GX.close (fun q hq=>(((((ha m d (hm a (by simp))).px hq).app (aI (c:=91) (by decide))).app h1).app h58).app h2) (aI (c:=93) (by decide)) (by simp) (fU (by decide))).cast rfl (by simp [tk,tkS,nd,Tree.kind,yM,Tree.kids])
theorem LE_44 {p:Int} {x:List UInt8} {l:List Tree} (hx:bltS.contains x=true) (hl:∀ t∈l,LE t):LE (nd 44 x p l):=by
 intro n d hn
 obtain ⟨m,rfl⟩:∃ m,n=m+2:=⟨n-2,by simp [nee,aJ,rnk] at hn;omega⟩
 have hm:∀ t∈l,nee .expr t<m:=fun t mt=>aC (by decide) hn (by omega) mt
 have hf:rV x=true∧x≠[109,97,107,101]∧x≠[110,101,119]:=by
  have:(bltS.all fun y=>decide (rV y=true∧y≠[109,97,107,101]∧y≠[110,101,119]))=true:=by decide
  exact of_decide_eq_true (List.all_eq_true.1 this x (List.contains_iff_mem.1 hx))
 obtain ⟨q1,h1⟩:=mP (f:=pr D0 m .expr d) (g:=tk D0 m .expr) (l:=l) fun t mt=>hl t mt m d (hm t mt)
 exact (GX.close (fun q hq=>((aW hq hf.1).app (aI (c:=40) (by decide))).app h1) (aI (c:=41) (by decide)) (by simp) (fU (by decide))).cast (by simp [pr,ym,nd,Tree.kind,Tree.text,Tree.kids,hf.2.1,hf.2.2]) (by simp [tk,tkS,nd,Tree.kind,Tree.text,Tree.kids,hf.2.1,hf.2.2])
theorem LE_new {p p2:Int} {y:List UInt8} (hy:nOk y):LE (nd 44 [110,101,119] p [nd 12 y p2 []]):=by
 intro n d hn
 obtain ⟨m,rfl⟩:∃ m,n=m+3:=⟨n-3,by simp [nee,aJ,rnk] at hn;omega⟩
 exact (GX.close (fun q hq=>((aW (x:=[110,101,119]) hq (by decide)).app (aI (c:=40) (by decide))).app (aW nB hy.1)) (aI (c:=41) (by decide)) (by simp) (fU (by decide))).cast rfl rfl
theorem LE_make {p:Int} {t:Tree} {l:List Tree} (ht:LT t) (hl:l=[]∨∃ e,l=[e]∧LE e):LE (nd 44 [109,97,107,101] p (t::l)):=by
 intro n d hn
 obtain ⟨m,rfl⟩:∃ m,n=m+2:=⟨n-2,by simp [nee,aJ,rnk] at hn;omega⟩
 have hm:∀ j',∀ s∈t::l,nee j' s<m:=fun j' s ms=>aC (by decide) hn (by omega) ms
 have h0:∀ q,q≠.E→PX q ([109,97,107,101]++[40]++pr D0 m .wtype d t) ([nw [109,97,107,101]]++[mw [40]]++tk D0 m .wtype t) .E:=fun q hq=>((aW hq (by decide)).app (aI (c:=40) (by decide))).app ((ht m d (hm _ t (by simp))).px nB)
 rcases hl with rfl | ⟨e,rfl,he⟩
 ·exact (GX.close h0 (aI (c:=41) (by decide)) (by simp) (fU (by decide))).cast (by simp [pr,ym,nd,Tree.kind,Tree.text,Tree.kids,yM]) (by simp [tk,tkS,nd,Tree.kind,Tree.text,Tree.kids,yM])
 ·exact (GX.close (fun q hq=>(((h0 q hq).app (aI (c:=44) (by decide))).app cO).app ((he m d (hm _ e (by simp))).px nB)) (aI (c:=41) (by decide)) (by simp) (fU (by decide))).cast (by simp [pr,ym,nd,Tree.kind,Tree.text,Tree.kids,yM]) (by simp [tk,tkS,nd,Tree.kind,Tree.text,Tree.kids,yM])
end
end Go.Proofs.YtgbjpnnockoomaaGreatDoor.Px
namespace Go.Proofs.YtgbjpnnockoomaaGreatDoor.Lx.Sp
theorem okB_pln {c:UInt8} (h:dO c=true):okB c=true:=by
 simp [dO,plnZ] at h
 simp [okB]
 omega
theorem vU:∀ (n:Nat) (d m:List UInt8) (j:Nat),d.length≤n→txt d=(some m,j)→∀ c∈m,okB c=true
 | n,[],m,j,_,h=>by simp [txt] at h
 | 0,c::r,m,j,hl,h=>by simp at hl
 | n+1,c::r,m,j,hl,h=>by
   simp only [List.length_cons] at hl
   by_cases h1:c=34
   ·subst h1
    rw [mD] at h
    have:m=[]:=by simpa using (Prod.mk.inj h).1.symm
    subst this
    simp
   ·by_cases h2:c=92
    ·subst h2
     cases r with
     | nil=>rw [og [] (by simp)] at h;simp at h
     | cons d r=>
       cases he:rM d with
       | none=>rw [og (d::r) (by intro d' r' e;cases e;exact he)] at h;simp at h
       | some x=>
         rw [oh d x r he] at h
         cases hm:txt r with
         | mk a b=>
           rw [hm] at h
           cases a with
           | none=>simp at h
           | some m'=>
             have e:m=x::m':=by simpa using (Prod.mk.inj h).1.symm
             subst e
             have ih:=vU n r m' b (by simp only [List.length_cons] at hl;omega) hm
             intro c hc
             rcases List.mem_cons.1 hc with rfl | hc
             ·revert he
              unfold rM
              split
              ·intro e;cases e;decide
              ·split
               ·intro e;cases e;decide
               ·split
                ·intro e;cases e;decide
                ·intro e;cases e
             ·exact ih c hc
    ·by_cases h3:dO c=true
     ·rw [mr c r h3] at h
      cases hm:txt r with
      | mk a b=>
        rw [hm] at h
        cases a with
        | none=>simp at h
        | some m'=>
          have e:m=c::m':=by simpa using (Prod.mk.inj h).1.symm
          subst e
          have ih:=vU n r m' b (by omega) hm
          intro d hd
          rcases List.mem_cons.1 hd with rfl | hd
          ·exact okB_pln h3
          ·exact ih d hd
     ·rw [rq c r (by simpa using h3) h1 h2] at h
      simp at h
end Go.Proofs.YtgbjpnnockoomaaGreatDoor.Lx.Sp
namespace Go.Proofs.YtgbjpnnockoomaaGreatDoor.Px
open Lx Lx.Sp
def TLx (t:Tok):Prop:=(t.kind=1→nOk t.text)∧(t.kind=3→isSt t.text=true)∧(t.kind=2→0≤t.num∧t.num<1000000000000000000)
theorem endT_lx {ts:List Tok} {k:Int} (h:∀ t∈ts,TLx t):∀ t∈kS ts k,TLx t:=by
 unfold kS
 split
 ·split
  ·intro t m
   rcases List.mem_append.1 m with m | m
   ·exact h t m
   ·simp only [List.mem_singleton] at m;subst m;exact ⟨fun e=>by simp at e,fun e=>by simp at e,fun e=>by simp at e⟩
  ·exact h
 ·exact h
theorem nP {ts:List Tok} {x:Tok} (h:∀ t∈ts,TLx t) (hx:TLx x):∀ t∈ts++[x],TLx t:=fun t m=>(List.mem_append.1 m).elim (h t) (fun m=>by simp only [List.mem_singleton] at m;subst m;exact hx)
theorem partF_lx (l:List UInt8) (k:Nat) (ts:List Tok) (h:∀ t∈ts,TLx t) (k':Nat) (ts':List Tok) (hp:jh l k ts=.inr (k',ts')):∀ t∈ts',TLx t:=by
 unfold jh at hp
 split at hp
 ·cases hp
 ·rename_i c hc
  split at hp
  ·cases hp;exact h
  ·rename_i h1
   split at hp
   ·cases hp;exact endT_lx h
   ·rename_i h2
    split at hp
    ·cases hp;exact h
    ·split at hp
     ·rename_i hl
      unfold lJ at hp
      split at hp
      ·cases hp
      ·rename_i h24
       cases hp
       refine nP h ⟨fun e=>?_,fun e=>?_,fun e=>?_⟩
       ·have hk:k<l.length:=(List.getElem?_eq_some_iff.1 hc).1
        have hd:l.drop k=c::l.drop (k+1):=by rw [List.drop_eq_getElem_cons hk,(List.getElem?_eq_some_iff.1 hc).2]
        have he:sub l k (yL bH l k)=(l.drop k).takeWhile bH:=by rw [re_D,uh,qg]
        have hw:eu (sub l k (yL bH l k))=false:=by
         cases hx:eu (sub l k (yL bH l k)) with
         | false=>rfl
         | true=>simp only [nmK,hx,if_true] at e;omega
        refine ⟨?_,hw⟩
        have ha:=gG bH l k
        have hlen:(sub l k (yL bH l k)).length≤24:=by
         rw [he];rw [re_D] at h24;omega
        have hx:sub l k (yL bH l k)=c::(l.drop (k+1)).takeWhile bH:=by
         rw [he,hd,List.takeWhile_cons,if_pos (by simp [bH,hl])]
        show rV (sub l k (yL bH l k))=true
        rw [hx] at ha hlen ⊢
        simp only [rV,Bool.and_eq_true,decide_eq_true_eq,List.all_eq_true]
        exact ⟨⟨hl,ha⟩,hlen⟩
       ·exfalso;simp only [nmK] at e;split at e <;> omega
       ·exfalso;simp only [nmK] at e;split at e <;> omega
     ·split at hp
      ·unfold kJ at hp
       split at hp
       ·cases hp
       ·rename_i hb
        split at hp
        ·cases hp
        ·cases hp
         refine nP h ⟨fun e=>by simp at e,fun e=>by simp at e,fun _=>?_⟩
         have h18:(sub l k (yL aG l k)).length≤18:=by
          simp only [iM,Bool.or_eq_true,decide_eq_true_eq,not_or] at hb
          omega
         have q1:=pU _ _ rfl (gG aG l k)
         have q2:=qO _ 18 h18
         have q3:p10 18=1000000000000000000:=by decide
         simp only
         exact ⟨by omega,by omega⟩
      ·split at hp
       ·unfold textF at hp
        split at hp
        ·cases hp
        ·rename_i m n hm
         split at hp
         ·cases hp
         ·rename_i h256
          cases hp
          refine nP h ⟨fun e=>by simp at e,fun _=>?_,fun e=>by simp at e⟩
          simp only [isSt,Bool.and_eq_true,decide_eq_true_eq,List.all_eq_true]
          exact ⟨vU _ _ _ _ (Nat.le_refl _) hm,by omega⟩
       ·unfold lH at hp
        split at hp
        ·cases hp
        ·cases hp;exact nP h ⟨fun e=>by simp at e,fun e=>by simp at e,fun e=>by simp at e⟩
theorem scanF_lx (l:List UInt8):∀ (f k:Nat) (ts:List Tok),(∀ t∈ts,TLx t)→∀ ts',fO f l k ts=.inr ts'→∀ t∈ts',TLx t
 | 0,k,ts,h,ts',e=>by cases e;exact h
 | f+1,k,ts,h,ts',e=>by
   unfold fO at e
   split at e
   ·split at e
    ·cases e
    ·rename_i q hq
     exact scanF_lx l f q.1 q.2 (partF_lx l k ts h q.1 q.2 hq) ts' e
   ·cases e;exact h
theorem lex_lx (l:List UInt8):∀ t∈(aY l).1,TLx t:=by
 unfold aY
 split
 ·intro t m;cases m
 ·split
  ·intro t m;cases m
  ·rename_i ts hs
   split
   ·intro t m;cases m
   ·exact nP (endT_lx (scanF_lx l _ 0 [] (fun t m=>by cases m) ts hs)) ⟨fun e=>by simp at e,fun e=>by simp at e,fun e=>by simp at e⟩
theorem tok_lx {ts:List Tok} (h:∀ t∈ts,TLx t) (k:Nat):TLx (zp ts k):=by
 unfold zp
 rw [List.getD_eq_getElem?_getD]
 cases e:ts[k]? with
 | some x=>exact h x (List.mem_of_getElem? e)
 | none=>exact ⟨fun e=>by simp at e,fun e=>by simp at e,fun e=>by simp at e⟩
end Go.Proofs.YtgbjpnnockoomaaGreatDoor.Px
