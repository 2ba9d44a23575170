import Derived.Test.YtgbjpnnockoomaaGreatDoorParP
import Derived.Test.YtgbjpnnockoomaaGreatDoorParB
import Derived.Test.YtgbjpnnockoomaaGreatDoorText
import Derived.Test.YtgbjpnnockoomaaGreatDoorNum
set_option maxHeartbeats 2000000
set_option maxRecDepth 100000
set_option linter.unusedVariables false
set_option linter.unusedSimpArgs false
set_option maxHeartbeats 40000000
namespace Go.Proofs.YtgbjpnnockoomaaGreatDoor.Px
open Lx
def st:Job→Nat
 | .clause=>1
 | .comm=>1
 | _=>0
def bnd:Job→Nat
 | .listMore _ acc=>acc.length
 | .stmts acc=>acc.length+1
 | .clausesMore _ acc=>acc.length
 | .caseMore acc=>acc.length
 | .bracedMore _ acc=>acc.length
 | .fieldsMore acc=>acc.length
 | .listed _=>1
 | _=>4
def F (P:List Tree→Int→Nat→Prop) (r:R):Prop:=∀ l s k',r=.ok l s k'→P l s k'
section
variable {P Q : List Tree → Int → Nat → Prop} {ts : List Tok}
theorem aj {l:List Tree} {s:Int} {k:Nat} (h:P l s k):F P (.ok l s k):=fun _ _ _ e=>by cases e;exact h
theorem aS {p:Int} : F P (.bad p):=fun _ _ _ e=>by cases e
theorem kZ:F P .out:=fun _ _ _ e=>by cases e
theorem ai {c:Prop} [Decidable c] {a b:R} (h1:c→F P a) (h2:¬c→F P b):F P (if c then a else b):=by
 by_cases h:c
 ·rw [if_pos h];exact h1 h
 ·rw [if_neg h];exact h2 h
theorem au {k:Nat} {s:List UInt8} {f:Tok→Nat→R} (h:F P (f (zp ts k) (k+1))):F P (want ts k s f):=ai (fun _=>h) (fun _=>aS)
theorem jU {k:Nat} {f:Tok→Nat→R} (h:F P (f (zp ts k) (k+1))):F P (bI ts k f):=ai (fun _=>h) (fun _=>aS)
theorem aA {r:R} {f:List Tree→Int→Nat→R} (h:F Q r) (k:∀ l s k',Q l s k'→F P (f l s k')):F P (r.bind f):=by
 cases r with
 | ok l s k'=>exact k l s k' (h l s k' rfl)
 | bad p=>exact aS
 | out=>exact kZ
theorem af {r:R} {f:Tree→Int→Nat→R} (h:F Q r) (k:∀ t s k',Q [t] s k'→F P (f t s k')):F P (r.ax f):=by
 cases r with
 | ok l s k'=>
   match l,h with
   | [],_=>exact kZ
   | [t],h=>exact k t s k' (h [t] s k' rfl)
   | _::_::_,_=>exact kZ
 | bad p=>exact aS
 | out=>exact kZ
theorem bZ {r:R} (h:F Q r) (k:∀ l s k',Q l s k'→P l s k'):F P r:=fun l s k' e=>k l s k' (h l s k' e)
end
def Fine (j:Job) (k:Nat) (r:R):Prop:=F (fun l _ k'=>k+st j≤k'∧l.length≤bnd j+(k'-k)) r
set_option linter.unusedSimpArgs false in
theorem step_fine (ts:List Tok) (rec:Job→Bool→Nat→R) (ih:∀ j h k,Fine j k (rec j h k)) (j:Job) (h:Bool) (k:Nat):Fine j k (step ts rec j h k):=by
 unfold Fine
 have q1:∀ it:It,st it.job=0:=by intro it;cases it <;> rfl
 have q2:∀ it:It,bnd it.job=4:=by intro it;cases it <;> rfl
 cases j
 all_goals
  simp only [step,bK,fB,fH,bF,yo,bJ,gW,gm,aP,dn,bC,dB,dD,dN,yO,cu,aN,dQ,yY,aZ,yt,bP,dJ,yu,dS,bY,aX,gZ,yl,fOp,jy,iw,bW,dK,aQ,yH,bf,yC,aV,bD,eU,yG,eP,yk,dR,fZ,dF,bn,bU,yn,ya,fA,fG,jump]
  repeat' (first
   | exact aS
   | refine ai (fun _=>?_) (fun _=>?_)
   | refine au ?_
   | refine jU ?_
   | (refine af (ih _ _ _) ?_;rintro _ _ _ ⟨_,_⟩)
   | (refine aA (ih _ _ _) ?_;rintro _ _ _ ⟨_,_⟩)
   | (refine bZ (ih _ _ _) ?_;rintro _ _ _ ⟨_,_⟩)
   | refine aj ?_)
  all_goals (try split at *)
  all_goals (simp only [st,bnd,q1,q2,List.length_append,List.length_cons,List.length_nil] at *)
  all_goals (try (refine ⟨?_, ?_⟩ <;> omega))
theorem yq (ts:List Tok):∀ (n:Nat) (j:Job) (h:Bool) (k:Nat),Fine j k (run ts n j h k)
 | 0,_,_,_=>kZ
 | n+1,j,h,k=>step_fine ts (run ts n) (fun j h k=>yq ts n j h k) j h k
end Go.Proofs.YtgbjpnnockoomaaGreatDoor.Px
namespace Go.Proofs.YtgbjpnnockoomaaGreatDoor
open Go.RowKit Lx Px
theorem Tryz.info25:(Tryz.prog.info? 25).map (fun i=>(i.zero,i.size,i.bytes))=some (some (.agg #[.int .i64 0,.string ⟨#[]⟩,.int .i64 0,.int .i64 0,.string ⟨#[]⟩,.int .i64 0,.slice none 0 0]),7,88):=by kernel_rfl
theorem zq.own {w:World} {lo hi:Nat} {kv:Value} {l:List Tree} (h:zq w lo hi kv l):∀ x,kv.ownBlock=some x→lo≤x∧x<hi:=by
 obtain ⟨cs,h1,h2,_⟩:=h
 exact fun x hx=>⟨(h1.lt x hx).1,h2 x hx⟩
theorem PS.own {w w':World} {C:Ctx} {k:Nat} {h:Bool} {v:Value} (p:PS w C k h) (ok:C.Ok) (hg:w.grownBy w' v.ownBlock) (hv:∀ x,v.ownBlock=some x→C.b<x):PS w' C k h:=
 p.same (hg.block _ p.lt (fun e=>by have:=hv _ e.symm;omega)) (hg.block _ (bG p.tk) (fun e=>by have:=hv _ e.symm;have:=ok.lt;omega))
theorem push_far {w w1 wf:World} {lo hi a b g cap n:Nat} {kv:Value} {l:List Tree} {cs c:List Value} {t:Tree} (hn:n=l.length+1)
 (h1:w1.ownsRow lo 25 7 (.slice (some ⟨g,0,none⟩) n cap) n (cs++c)) (hg:w.grownBy w1 kv.ownBlock) (hat:kv.ownBlock=some g∨g=w.heap.size) (hgl:g<w1.heap.size)
 (hk:bM w l (fun b=>(lo≤b∧b<hi)∧some b≠kv.ownBlock) cs) (hhi:hi≤w.heap.size) (h3:∀ x,kv.ownBlock=some x→x<hi) (k:Nd w a b t c) (hlo:lo≤a) (hb:b≤w.heap.size) (hd:hi≤a)
 (z1:w1.heap.size≤wf.heap.size) (z2:wf.heap[g]?=w1.heap[g]?) (z3:Ag lo hi w1 wf) (z4:Ag a b w1 wf):zq wf lo wf.heap.size (.slice (some ⟨g,0,none⟩) n cap) (l++[t]):=by
 have hz:=hg.size
 have e1:bM wf l (fun b=>(lo≤b∧b<wf.heap.size)∧some b≠(Value.slice (some ⟨g,0,none⟩) n cap).ownBlock) cs:=by
  refine yZ hk _ fun x hx=>⟨⟨⟨hx.1.1,om⟩, ?_⟩,(z3 x hx.1.1 hx.1.2).trans (hg.block x om hx.2)⟩
  simp only [Value.ownBlock,ne_eq,Option.some.injEq]
  rintro rfl
  rcases hat with h | h
  ·exact hx.2 h.symm
  ·omega
 have e2:kR wf t (fun b=>(lo≤b∧b<wf.heap.size)∧some b≠(Value.slice (some ⟨g,0,none⟩) n cap).ownBlock) c:=by
  refine jC k _ fun x hx=>⟨⟨⟨om,om⟩, ?_⟩,(z4 x hx.1 hx.2).trans (hg.block x om ?_)⟩
  ·simp only [Value.ownBlock,ne_eq,Option.some.injEq]
   rintro rfl
   rcases hat with h | h
   ·have:=h3 _ h;omega
   ·omega
  ·intro e
   have:=h3 _ e.symm
   omega
 have h1':=gy (w':=wf) h1 (fun x hx=>by simp only [Value.ownBlock,Option.some.injEq] at hx;subst hx;exact z2)
 exact ⟨cs++c,by simpa [hn] using h1',fun x hx=>by simp only [Value.ownBlock,Option.some.injEq] at hx;omega,gJ e1 (cells_one e2)⟩
theorem dG {ops:Array Oper} {rest:List Oper} {o:Oper} {a:Act} {Q:Exit→Act→World→Prop} {w:World} (hgd:o.guard=none) (s x:Operand) (ho:o.op=.call { callee:=.builtin .append,args:=#[s,x],argTypes:=#[23,23] })
 {lo hi:Nat} {ao:Option Addr} {cp:Nat} {l:List Tree} {t:Tree} {A B g0:Nat} {cur:Array Value} (hs:a.eval s=.slice ao l.length cp) (hrow:zq w lo hi (.slice ao l.length cp) l)
 (hx:a.eval x=.slice (some ⟨g0,0,none⟩) 1 1) (hb:BL w g0 (.cells cur 25)) (hc:Nd w A B t cur.toList) (h7:cur.size=7) (h1c:∀ u∈cur.toList,u.oneCell'=true) (hn:l.length≤1000000) (hlo:lo≤w.heap.size) (hhi:hi≤w.heap.size) (hA:lo≤A) (hB:B≤w.heap.size) (hd:hi≤A)
 (h:∀ g cp' w',(∀ wf,w'.heap.size≤wf.heap.size→wf.heap[g]?=w'.heap[g]?→Ag lo hi w' wf→Ag A B w' wf→zq wf lo wf.heap.size (.slice (some ⟨g,0,none⟩) (l.length+1) cp') (l++[t]))→w.grownBy w' (Value.slice ao l.length cp).ownBlock→(lo≤g∧g<hi∨g=w.heap.size)→g<w'.heap.size→wpList Tryz.prog ops Q rest (a.put o.dst (.slice (some ⟨g,0,none⟩) (l.length+1) cp')) w'):wpList Tryz.prog ops Q (o::rest) a w:=by
 obtain ⟨cs,r1,r2,r3⟩:=hrow
 obtain ⟨i0,hi0,hz0,hz1,hz2⟩:=info_parts Tryz.info25
 refine wpList_append_lies _ hgd s x 23 ho lo 25 i0 _ 7 88 Tryz.underlying23 hi0 hz0 hz1 hz2 rfl dc _ l.length cs hs r1 ⟨g0,0,none⟩ 1 1 cur.toList hx (by simpa using h7) (World.news_of_block hb) h1c dc (by unfold maxLen;omega) om hlo _ rfl ?_
 intro g cap w' q1 q2 q3 q4
 refine h g cap w' (fun wf z1 z2 z3 z4=>push_far rfl q1 q2 q3 q4 r3 hhi r2 hc hA hB hd z1 z2 z3 z4) q2 ?_ q4
 rcases q3 with q3 | q3
 ·exact .inl ⟨(r1.lt g q3).1,r2 g q3⟩
 ·exact .inr q3
theorem iK {ops:Array Oper} {o:Oper} {a:Act} {K:Act→World→Prop} {Q:Exit→Act→World→Prop} {E:Prop} {w:World} (hgd:o.guard=none) (s x:Operand) (ho:o.op=.call { callee:=.builtin .append,args:=#[s,x],argTypes:=#[23,23] })
 {lo hi:Nat} {ao:Option Addr} {cp:Nat} {l:List Tree} {t:Tree} {A B g0:Nat} {cur:Array Value} (hs:a.eval s=.slice ao l.length cp) (hrow:zq w lo hi (.slice ao l.length cp) l)
 (hx:a.eval x=.slice (some ⟨g0,0,none⟩) 1 1) (hb:BL w g0 (.cells cur 25)) (hc:Nd w A B t cur.toList) (h7:cur.size=7) (h1c:∀ u∈cur.toList,u.oneCell'=true) (hn:l.length≤1000000) (hlo:lo≤w.heap.size) (hhi:hi≤w.heap.size) (hA:lo≤A) (hB:B≤w.heap.size) (hd:hi≤A)
 (h:∀ g cp' w',(∀ wf,w'.heap.size≤wf.heap.size→wf.heap[g]?=w'.heap[g]?→Ag lo hi w' wf→Ag A B w' wf→zq wf lo wf.heap.size (.slice (some ⟨g,0,none⟩) (l.length+1) cp') (l++[t]))→w.grownBy w' (Value.slice ao l.length cp).ownBlock→(lo≤g∧g<hi∨g=w.heap.size)→g<w'.heap.size→K (a.put o.dst (.slice (some ⟨g,0,none⟩) (l.length+1) cp')) w') :
 if Region.wanted o (yielded ops a.tmps)=true then Oper.wp Tryz.prog o a w K Q else E:=by
 obtain ⟨cs,r1,r2,r3⟩:=hrow
 obtain ⟨i0,hi0,hz0,hz1,hz2⟩:=info_parts Tryz.info25
 refine step_append_lies _ hgd s x 23 ho lo 25 i0 _ 7 88 Tryz.underlying23 hi0 hz0 hz1 hz2 rfl dc _ l.length cs hs r1 ⟨g0,0,none⟩ 1 1 cur.toList hx (by simpa using h7) (World.news_of_block hb) h1c dc (by unfold maxLen;omega) om hlo _ rfl ?_
 intro g cap w' q1 q2 q3 q4
 refine h g cap w' (fun wf z1 z2 z3 z4=>push_far rfl q1 q2 q3 q4 r3 hhi r2 hc hA hB hd z1 z2 z3 z4) q2 ?_ q4
 rcases q3 with q3 | q3
 ·exact .inl ⟨(r1.lt g q3).1,r2 g q3⟩
 ·exact .inr q3
theorem iO {kd nm ps:Int} {tx:ByteArray} {ao:Option Addr} {n cp:Nat} : ∀ u∈(#[Value.int .i64 kd,.string tx,.int .i64 nm,.int .i64 ps,.string ⟨#[]⟩,.int .i64 0,.slice ao n cp]:Array Value).toList,u.oneCell'=true:=by
 simp [Value.oneCell']
theorem rowB {w:World} {lo hi a b g:Nat} {t:Tree} {cur:Array Value} (hb:BL w g (.cells cur 25)) (hc:Nd w a b t cur.toList) (hs:cur.size=7) (hlo:lo≤g) (hla:lo≤a) (hhi:g<hi) (hbi:b≤hi) (hd:g<a∨b≤g):zq w lo hi (.slice (some ⟨g,0,none⟩) 1 1) [t]:=
 dU hb hc hs hlo hla hhi hbi hd
theorem jI {w:World} {lo hi g:Nat} {l:List Tree} {cur:Array Value} {n:Nat} (hb:BL w g (.cells cur 25)) (hn:n=l.length) (hs:cur.size=n*7) (hm:n≤1000000) (hlo:lo≤g) (hhi:g<hi) (h:Kids w lo hi g l cur.toList):zq w lo hi (.slice (some ⟨g,0,none⟩) n n) l:=
 zq.lit hb hn hs hm hlo hhi h
end Go.Proofs.YtgbjpnnockoomaaGreatDoor
namespace Go.Proofs.YtgbjpnnockoomaaGreatDoor.Lx
def kS (ts:List Tok) (k:Int):List Tok:=
 match ts.getLast? with
 | some t=>if dX t.kind t.text then ts++[⟨5,[59],1,k⟩] else ts
 | none=>ts
def nmK (t:List UInt8):Int:=if eu t=true then 4 else 1
def lJ (l:List UInt8) (k:Nat) (ts:List Tok):Sum Nat (Nat × List Tok):=
 if 24<yL bH l k-k then .inl k else .inr (yL bH l k,ts++[⟨nmK (sub l k (yL bH l k)),sub l k (yL bH l k),0,k⟩])
def lF (l:List UInt8) (k:Nat):Bool:=match l[k]? with | some c=>isLet c | none=>false
def iM (t:List UInt8):Bool:=decide (18<t.length)||(decide (1<t.length)&&t.head?==some 48)
def kJ (l:List UInt8) (k:Nat) (ts:List Tok):Sum Nat (Nat × List Tok):=
 if iM (sub l k (yL aG l k))=true then .inl k
 else if lF l (yL aG l k)=true then .inl (yL aG l k)
 else .inr (yL aG l k,ts++[⟨2,sub l k (yL aG l k),dY (sub l k (yL aG l k)),k⟩])
def textF (l:List UInt8) (k:Nat) (ts:List Tok):Sum Nat (Nat × List Tok):=
 match txt (l.drop (k+1)) with
 | (none,n)=>.inl (k+1+n)
 | (some m,n)=>if 256<m.length then .inl k else .inr (k+1+n,ts++[⟨3,m,0,k⟩])
def lH (l:List UInt8) (k:Nat) (ts:List Tok):Sum Nat (Nat × List Tok):=
 if jA (l.drop k)=0 then .inl k else .inr (k+jA (l.drop k),ts++[⟨5,sub l k (k+jA (l.drop k)),0,k⟩])
def jh (l:List UInt8) (k:Nat) (ts:List Tok):Sum Nat (Nat × List Tok):=
 match l[k]? with
 | none=>.inl 0
 | some c=>
   if c=32∨c=9 then .inr (k+1,ts)
   else if c=10 then .inr (k+1,kS ts k)
   else if cmt l k=true then .inr (yL lK l k,ts)
   else if isLet c=true then lJ l k ts
   else if aG c=true then kJ l k ts
   else if c=34 then textF l k ts
   else lH l k ts
theorem re_gt (p:UInt8→Bool) (l:List UInt8) (k:Nat) (c:UInt8) (h:l[k]?=some c) (hp:p c=true):k<yL p l k:=by
 rw [←re_step p l k c h hp]
 have:=re_ge p l (k+1)
 omega
theorem txt_le:∀ (n:Nat) (t:List UInt8),t.length≤n→(txt t).2≤t.length
 | 0,t,h=>by
   have:t=[]:=List.eq_nil_of_length_eq_zero om
   subst this;simp [txt]
 | n+1,t,h=>by
   cases t with
   | nil=>simp [txt]
   | cons c r=>
     by_cases h1:c=34
     ·subst h1;rw [mD];simp
     ·by_cases h2:c=92
      ·subst h2
       cases r with
       | nil=>rw [og [] (fun d r' hr=>by cases hr)];simp
       | cons d r'=>
         cases he:rM d with
         | none=>rw [og (d::r') (fun d' q hr=>by cases hr;exact he)];simp
         | some x=>
           rw [oh d x r' he]
           have:=txt_le n r' (by simp at h;omega)
           simp;omega
      ·cases hp:dO c with
       | true=>
         rw [mr c r hp]
         have:=txt_le n r (by simp at h;omega)
         simp;omega
       | false=>rw [rq c r hp h1 h2];simp
theorem mlen_le2 (l:List UInt8):jA l≤l.length:=by
 unfold jA
 split
 ·omega
 ·rename_i c r
  split
  ·split
   ·rename_i h
    have:((c::r).take 2).length=2:=by
     simp [kE,iJ] at h
     rcases h with h | h | h | h | h | h | h | h | h | h | h | h | h <;> simp [h]
    rw [List.length_take] at this
    omega
   ·split <;> simp
  ·split <;> simp
theorem jw (ts:List Tok) (k:Int):(kS ts k).length≤ts.length+1:=by
 unfold kS
 split
 ·split <;> simp
 ·omega
theorem iP (l:List UInt8) (k:Nat) (ts:List Tok) (hk:k<l.length) (k':Nat) (ts':List Tok) (h:jh l k ts=.inr (k',ts')):k<k'∧k'≤l.length∧ts'.length≤ts.length+1:=by
 have hc:l[k]?=some l[k]:=List.getElem?_eq_getElem hk
 generalize l[k]=c at hc
 unfold jh at h
 rw [hc] at h
 simp only at h
 split at h
 ·cases h;exact ⟨om,om,om⟩
 ·split at h
  ·cases h;exact ⟨om,om,jw _ _⟩
  ·rename_i h10
   split at h
   ·cases h
    refine ⟨re_gt _ l k c hc ?_,re_le _ l k om,om⟩
    have:¬(c.toNat:Int)=10:=fun e=>h10 (UInt8.toNat_inj.1 (by simpa using Int.ofNat.inj e))
    simp only [lK,decide_eq_false this,Bool.not_false]
   ·split at h
    ·rename_i hl
     unfold lJ at h
     split at h
     ·cases h
     ·cases h
      exact ⟨re_gt _ l k c hc (by simp [bH,hl]),re_le _ l k om,by simp⟩
    ·split at h
     ·rename_i hd
      unfold kJ at h
      split at h
      ·cases h
      ·split at h
       ·cases h
       ·cases h
        exact ⟨re_gt _ l k c hc hd,re_le _ l k om,by simp⟩
     ·split at h
      ·unfold textF at h
       have hle:=txt_le _ (l.drop (k+1)) lr
       rw [List.length_drop] at hle
       split at h
       ·cases h
       ·rename_i m n hx
        rw [hx] at hle
        simp only at hle
        split at h
        ·cases h
        ·cases h
         exact ⟨om,om,by simp⟩
      ·unfold lH at h
       have hle:=mlen_le2 (l.drop k)
       rw [List.length_drop] at hle
       split at h
       ·cases h
       ·cases h
        exact ⟨om,om,by simp⟩
def fO:Nat→List UInt8→Nat→List Tok→Sum Nat (List Tok)
 | 0,_,_,ts=>.inr ts
 | f+1,l,k,ts=>
   if k<l.length then
    match jh l k ts with
    | .inl p=>.inl p
    | .inr q=>fO f l q.1 q.2
   else .inr ts
def dm (l:List UInt8) (k:Nat) (ts:List Tok):Sum Nat (List Tok):=fO (l.length+1-k) l k ts
theorem jD:∀ (f g:Nat) (l:List UInt8) (k:Nat) (ts:List Tok),l.length-k≤f→l.length-k≤g→fO f l k ts=fO g l k ts
 | 0,0,_,_,_,_,_=>rfl
 | 0,g+1,l,k,ts,h,_=>by rw [fO,fO,if_neg om]
 | f+1,0,l,k,ts,_,h=>by rw [fO,fO,if_neg om]
 | f+1,g+1,l,k,ts,hf,hg=>by
   rw [fO,fO]
   by_cases hk:k<l.length
   ·rw [if_pos hk,if_pos hk]
    cases hp:jh l k ts with
    | inl p=>rfl
    | inr q=>
      obtain ⟨h1,h2,_⟩:=iP l k ts hk q.1 q.2 hp
      exact jD f g l q.1 q.2 om om
   ·rw [if_neg hk,if_neg hk]
theorem scanAll_end (l:List UInt8) (k:Nat) (ts:List Tok) (h:l.length≤k):dm l k ts=.inr ts:=by
 unfold dm
 rw [jD _ 0 l k ts om om,fO]
theorem scanAll_inl (l:List UInt8) (k:Nat) (ts:List Tok) (p:Nat) (h:k<l.length) (hp:jh l k ts=.inl p):dm l k ts=.inl p:=by
 unfold dm
 rw [jD _ (l.length-k+1) l k ts om om,fO,if_pos h,hp]
theorem scanAll_inr (l:List UInt8) (k:Nat) (ts:List Tok) (k':Nat) (ts':List Tok) (h:k<l.length) (hp:jh l k ts=.inr (k',ts')):dm l k ts=dm l k' ts':=by
 obtain ⟨h1,h2,_⟩:=iP l k ts h k' ts' hp
 unfold dm
 rw [jD _ (l.length-k+1) l k ts om om,fO,if_pos h,hp]
 exact jD _ _ l k' ts' om om
def opens (t:List UInt8):Bool:=t==[40]||t==[91]||t==[123]
def closes (t:List UInt8):Bool:=t==[41]||t==[93]||t==[125]
def bQ (o:Int) (t:Tok):Int:=if t.kind=5 then (if opens t.text=true then o+1 else if closes t.text=true then max (o-1) 0 else o) else o
def eG:Int→List Tok→Option Int
 | _,[]=>none
 | o,t::r=>if t.kind=5∧40<bQ o t then some t.pos else eG (bQ o t) r
def jQ (ts:List Tok) (n:Nat):List Tok:=kS ts n++[⟨6,[],0,n⟩]
def aY (l:List UInt8):List Tok × Int × Int:=
 if 8192<l.length then ([],1,8192)
 else match dm l 0 [] with
  | .inl p=>([],2,(p:Int))
  | .inr ts=>
    match eG 0 (jQ ts l.length) with
    | some a=>([],3,a)
    | none=>(jQ ts l.length,0,0)
theorem lexR_big (l:List UInt8) (h:8192<l.length):aY l=([],1,8192):=if_pos h
theorem lexR_bad (l:List UInt8) (h:l.length≤8192) (p:Nat) (hs:dm l 0 []=.inl p):aY l=([],2,(p:Int)):=by
 unfold aY;rw [if_neg om,hs]
theorem lexR_deep (l:List UInt8) (h:l.length≤8192) (ts:List Tok) (hs:dm l 0 []=.inr ts) (a:Int) (hd:eG 0 (jQ ts l.length)=some a):aY l=([],3,a):=by
 unfold aY;rw [if_neg om,hs];simp only [hd]
theorem lexR_ok (l:List UInt8) (h:l.length≤8192) (ts:List Tok) (hs:dm l 0 []=.inr ts) (hd:eG 0 (jQ ts l.length)=none):aY l=(jQ ts l.length,0,0):=by
 unfold aY;rw [if_neg om,hs];simp only [hd]
end Go.Proofs.YtgbjpnnockoomaaGreatDoor.Lx
namespace Go.Proofs.YtgbjpnnockoomaaGreatDoor.Px
open Lx
def su:Job→Nat
 | .simple=>1 | .shaped=>1 | .primary=>1 | .operand=>1 | .wordOperand=>1 | .markOperand=>1 | .builtin _=>1 | .labelled=>1
 | _=>0
theorem vO (it:It):su it.job=0:=by cases it <;> rfl
def cnt:Tree→Nat
 | .mk _ _ _ _ l=>1+(l.map cnt).sum
def jH (l:List Tree):Nat:=(l.map cnt).sum
theorem qx (a:Int) (b:List UInt8) (c p:Int) (l:List Tree):cnt (.mk a b c p l)=1+jH l:=by rw [cnt];rfl
theorem oH (a:Int) (b:List UInt8) (p:Int) (l:List Tree):cnt (nd a b p l)=1+jH l:=qx ..
theorem mY:cnt aB=1:=by rw [aB,oH];rfl
theorem jT:jH []=0:=rfl
theorem iy (t:Tree) (l:List Tree):jH (t::l)=cnt t+jH l:=by simp [jH]
theorem mX (l r:List Tree):jH (l++r)=jH l+jH r:=by simp [jH]
theorem lY (t:Tree):cnt (alone t)=1+cnt t:=by rw [alone,oH,iy,jT];omega
theorem cnt_kids (t:Tree):cnt t=1+jH t.kids:=by cases t;rw [qx];rfl
def ex:Job→Int
 | .result=>1 | .fileMore _=>1 | .forHead=>3 | .expr=>-8 | .op _=>-8 | .unary=>-8 | .shaped=>-8 | .primary=>-8 | .operand=>-8 | .wordOperand=>-8 | .markOperand=>-8 | .builtin _=>-8
 | _=>0
def cj:Job→Nat
 | .listMore _ acc=>jH acc | .stmts acc=>jH acc | .acting t _=>cnt t | .clausesMore _ acc=>jH acc | .caseMore acc=>jH acc | .opOf t _=>cnt t
 | .primMore t _=>cnt t | .bracketed t _=>cnt t | .bracedMore _ acc=>jH acc | .fieldsMore acc=>jH acc | .fileMore acc=>jH acc
 | _=>0
def GB:Job→Prop
 | .builtin r=>r=.makeArgs∨r=.newArgs∨r=.args
 | _=>True
def Few (j:Job) (k:Nat) (r:R):Prop:=F (fun l _ k'=>k+su j≤k'∧(jH l:Int)≤cj j+16*((k':Int)-k)+ex j) r
theorem uF (it:It):cj it.job=0:=by cases it <;> rfl
theorem step_few (ts:List Tok) (rec:Job→Bool→Nat→R) (ih:∀ j h k,GB j→Few j k (rec j h k)) (j:Job) (h:Bool) (k:Nat) (hb:GB j):Few j k (step ts rec j h k):=by
 unfold Few at *
 cases j
 all_goals
  simp only [step,bK,fB,fH,bF,yo,bJ,gW,gm,aP,dn,bC,dB,dD,dN,yO,cu,aN,dQ,ya,yn,yY,aZ,yt,bP,dJ,yu,dS,bY,aX,gZ,yl,fOp,jy,iw,bW,dK,aQ,fG,fA,yH,bf,yC,aV,bD,eU,yG,eP,yk,dR,fZ,dF,bn,bU,jump,behind,ex,cj,su]
  (try (rename_i it acc;(have hit:It:=it);clear hit;cases it <;> simp only [It.job]))
  (try (rename_i it;(have hit:It:=it);clear hit;cases it <;> simp only [It.job]))
  (try (rcases (show _∨_∨_ from hb) with rfl | rfl | rfl))
  (try (rename_i c acc;cases c <;> simp only [Bool.false_eq_true,if_false,if_true]))
  repeat' (first
   | exact aS
   | refine au ?_
   | refine jU ?_
   | refine ai (fun _=>?_) (fun _=>?_)
   | (refine af (ih _ _ _ zS) ?_
      intro t _ _ hx
      (try simp only [uF,vO] at hx)
      (try simp only [ex,cj,su,jT,iy,mX,oH,mY,lY] at hx)
      have hk:=cnt_kids t)
   | (refine aA (ih _ _ _ zS) ?_
      intro _ _ _ hx
      (try simp only [uF,vO] at hx)
      (try simp only [ex,cj,su,jT,iy,mX,oH,mY,lY] at hx))
   | (refine bZ (ih _ _ _ zS) ?_
      intro _ _ _ hx
      (try simp only [uF,vO] at hx)
      (try simp only [ex,cj,su,jT,iy,mX,oH,mY,lY] at hx)
      (first | omega | (constructor <;> omega)))
   | (refine aj ?_
      (try simp only [jT,iy,mX,oH,mY,lY,qx])
      (first | omega | (constructor <;> omega))))
theorem run_few (ts:List Tok):∀ (n:Nat) (j:Job) (h:Bool) (k:Nat),GB j→Few j k (run ts n j h k)
 | 0,_,_,_,_=>fun _ _ _ e=>by cases e
 | n+1,j,h,k,hb=>step_few ts (run ts n) (run_few ts n) j h k hb
theorem cnt_pos (t:Tree):1≤cnt t:=by rw [cnt_kids];omega
theorem cntL_len:∀ l:List Tree,l.length≤jH l
 | []=>Nat.le_refl _
 | t::r=>by rw [iy,List.length_cons];have:=cntL_len r;have:=cnt_pos t;omega
theorem cntL_mem {t:Tree} : ∀ {l:List Tree},t∈l→cnt t≤jH l
 | a::r,h=>by
   rw [iy]
   rcases List.mem_cons.1 h with rfl | h
   ·omega
   ·have:=cntL_mem h;omega
end Go.Proofs.YtgbjpnnockoomaaGreatDoor.Px
namespace Go.Proofs.YtgbjpnnockoomaaGreatDoor
open Go.RowKit Lx
def jr (b:Nat) (s:ByteArray) (w:World) (r:Sum Nat (Nat × List Tok)) (ev:Ending) (w':World):Prop:=
 match r with
 | .inl p=>ev=.returned (.iface 57 (.agg #[.int .i64 (p:Int)]))∧Below b w w'
 | .inr q=>ev=.returned .nilIface∧∃ sv',St w' b s q.1 sv' q.2∧Below b w w'
theorem jb {b p:Nat} {s:ByteArray} {w w':World} {r:Sum Nat (Nat × List Tok)} (h:r=.inl p) (hb:Below b w w'):jr b s w r (.returned (.iface 57 (.agg #[.int .i64 (p:Int)]))) w':=by
 subst h;exact ⟨rfl,hb⟩
theorem jE {b k:Nat} {s:ByteArray} {w w':World} {ts:List Tok} {r:Sum Nat (Nat × List Tok)} (h:r=.inr (k,ts)) (sv':Value) (hst:St w' b s k sv' ts) (hb:Below b w w'):jr b s w r (.returned .nilIface) w':=by
 subst h;exact ⟨rfl,sv',hst,hb⟩
theorem endL_eq (ts:List Tok) (k:Int):endL ts k=kS ts k:=rfl
theorem yf (b:Nat) (w:World) (n:Nat):Below b w (w.drewN n):=below_drewN (Below.refl b w) n
theorem tK (b k:Nat) (s:ByteArray) (sv:Value) (ts:List Tok) (w:World) (h:St w b s k sv ts) (hn:ts.length≤100000) (hs:s.size≤8192) (hk:k<s.size) :
 Calls Tryz.prog 45 #[.pointer (some ⟨b,0,none⟩)] w (jr b s w (lJ s.toList k ts)):=by
 by_cases hl:24<yL bH s.toList k-k
 ·refine (name_long b k s w hs om (zv h.blk 0) (zv h.blk 1) hl).mono ?_
  rintro e w' ⟨rfl,rfl⟩
  exact jb (if_pos hl) (Below.refl _ _)
 ·refine (name_ok b k s sv ts w h hn hs om om).mono ?_
  rintro e w' ⟨rfl,sv',hst,hb⟩
  exact jE (if_neg hl) sv' hst hb
theorem tJ (b k:Nat) (s:ByteArray) (sv:Value) (ts:List Tok) (w:World) (h:St w b s k sv ts) (hn:ts.length≤100000) (hs:s.size≤8192) (hk:k<s.size) (hg:∀ i,i<128→w.cell? ⟨1,i,none⟩=some (.int .i8 (iI i))) :
 Calls Tryz.prog 49 #[.pointer (some ⟨b,0,none⟩)] w (jr b s w (lH s.toList k ts)):=by
 by_cases hm:jA (s.toList.drop k)=0
 ·refine (mark_no b k s w hs hk (zv h.blk 0) (zv h.blk 1) hg hm).mono ?_
  rintro e w' ⟨rfl,n,rfl⟩
  exact jb (if_pos hm) (yf _ _ _)
 ·refine (mark_ok b k _ s sv ts w h hn hs hk hg rfl om).mono ?_
  rintro e w' ⟨rfl,sv',hst,hb⟩
  exact jE (if_neg hm) sv' hst hb
theorem uj (b k:Nat) (s:ByteArray) (sv:Value) (ts:List Tok) (w:World) (h:St w b s k sv ts) (hn:ts.length≤100000) (hs:s.size≤8192) (hk:k<s.size) :
 Calls Tryz.prog 48 #[.pointer (some ⟨b,0,none⟩)] w (jr b s w (textF s.toList k ts)):=by
 refine (text_any b k s sv ts w h hn hs hk).mono ?_
 intro e w' hp
 have hlt:=bG h.blk
 unfold jK at hp
 unfold textF
 rcases hx:txt (s.toList.drop (k+1)) with ⟨o,n⟩
 rw [hx] at hp
 cases o with
 | none=>
   obtain ⟨rfl,hb⟩:=hp
   exact jb rfl (hb.mono (Nat.le_of_lt hlt))
 | some m=>
   change (if _ then _ else _) at hp
   show jr b s w (if _ then _ else _) e w'
   by_cases hm:256<m.length
   ·rw [if_pos hm] at hp ⊢
    obtain ⟨rfl,hb⟩:=hp
    exact jb rfl (hb.mono (Nat.le_of_lt hlt))
   ·rw [if_neg hm] at hp ⊢
    obtain ⟨rfl,sv',hst,hb⟩:=hp
    exact jE rfl sv' hst hb
theorem head_ext (s:ByteArray) (a b:Nat) (h0:0<(s.extract a b).size):(sub s.toList a b).head?=some (s.extract a b)[0]:=by
 rw [←fV,List.head?_eq_getElem?]
 exact fJ _ 0 h0
theorem ny (s:ByteArray) (E:Nat) (h:E<s.size):lF s.toList E=isLet s[E]:=by unfold lF;rw [fJ s E h]
theorem letAt_ge (s:ByteArray) (E:Nat) (h:s.size≤E):lF s.toList E=false:=by unfold lF;rw [List.getElem?_eq_none (by rw [yx];exact h)]
theorem oZ (b k:Nat) (s:ByteArray) (sv:Value) (ts:List Tok) (w:World) (h:St w b s k sv ts) (hn:ts.length≤100000) (hs:s.size≤8192) (hk:k<s.size) (hd:aG s[k]=true) :
 Calls Tryz.prog 47 #[.pointer (some ⟨b,0,none⟩)] w (jr b s w (kJ s.toList k ts)):=by
 have h1:k<yL aG s.toList k:=by
  have:=lU aG s k hk hd
  have h2:=re_ge aG s.toList (k+1)
  omega
 have h2:=vK aG s k om
 unfold kJ
 obtain ⟨E,hE⟩:∃ E,yL aG s.toList k=E:=⟨_,rfl⟩
 rw [hE] at h1 h2 ⊢
 have hlen:=sub_len s k E h2
 have h0:0<(s.extract k E).size:=by rw [ext_size s k E h2];omega
 have hh:=head_ext s k E h0
 by_cases c1:18<E-k
 ·refine (number_long b k E s w hs (zv h.blk 0) (zv h.blk 1) hE h1 h2 c1).mono ?_
  rintro e w' ⟨rfl,n,rfl⟩
  exact jb (if_pos (by simp [iM,hlen,c1])) (yf _ _ _)
 ·by_cases c2:1<E-k
  ·by_cases c3:((s.extract k E)[0].toNat:Int)=48
   ·refine (number_zero b k E s w hs (zv h.blk 0) (zv h.blk 1) hE c2 h2 om h0 (beq_iff_eq.2 c3)).mono ?_
    rintro e w' ⟨rfl,n,rfl⟩
    exact jb (if_pos (by rw [byte_of (n:=48) c3] at hh;simp [iM,hlen,c2,hh])) (yf _ _ _)
   ·have nb:¬iM (sub s.toList k E)=true:=by
     have:¬(s.extract k E)[0]=48:=fun e=>c3 (by rw [e];rfl)
     simp [iM,hlen,hh,c1,this]
    by_cases hlt:E<s.size
    ·by_cases hl:isLet s[E]=true
     ·refine (pq b k E s w hs (zv h.blk 0) (zv h.blk 1) hE h2 c2 om h0 (beq_eq_false_iff_ne.2 c3) hlt hl).mono ?_
      rintro e w' ⟨rfl,n,rfl⟩
      exact jb (by rw [if_neg nb,if_pos (by rw [ny s E hlt];exact hl)]) (yf _ _ _)
     ·refine (nD b k E s sv ts w hs h hn hE h2 c2 om h0 (beq_eq_false_iff_ne.2 c3) hlt (by simpa using hl)).mono ?_
      rintro e w' ⟨rfl,sv',hst,hb⟩
      exact jE (by rw [if_neg nb,if_neg (by rw [ny s E hlt];exact hl)]) sv' hst hb
    ·refine (mM b k E s sv ts w hs h hn hE h2 c2 om h0 (beq_eq_false_iff_ne.2 c3) hlt).mono ?_
     rintro e w' ⟨rfl,sv',hst,hb⟩
     exact jE (by rw [if_neg nb,if_neg (by rw [letAt_ge s E om];simp)]) sv' hst hb
  ·have nb:¬iM (sub s.toList k E)=true:=by simp [iM,hlen,c1,c2]
   by_cases hlt:E<s.size
   ·by_cases hl:isLet s[E]=true
    ·refine (qK b k E s w hs (zv h.blk 0) (zv h.blk 1) hE h2 om hlt hl).mono ?_
     rintro e w' ⟨rfl,n,rfl⟩
     exact jb (by rw [if_neg nb,if_pos (by rw [ny s E hlt];exact hl)]) (yf _ _ _)
    ·refine (oM b k E s sv ts w hs h hn hE h2 om h1 hlt (by simpa using hl)).mono ?_
     rintro e w' ⟨rfl,sv',hst,hb⟩
     exact jE (by rw [if_neg nb,if_neg (by rw [ny s E hlt];exact hl)]) sv' hst hb
   ·refine (nG b k E s sv ts w hs h hn hE h2 om h1 hlt).mono ?_
    rintro e w' ⟨rfl,sv',hst,hb⟩
    exact jE (by rw [if_neg nb,if_neg (by rw [letAt_ge s E om];simp)]) sv' hst hb
end Go.Proofs.YtgbjpnnockoomaaGreatDoor
