import Derived.Test.YtgbjpnnockoomaaGreatDoorSteps
import Derived.Test.YtgbjpnnockoomaaGreatDoorParB
import Derived.Laws.OwnMore
import Derived.Maps.AppendAt
set_option linter.unusedVariables false
set_option linter.unusedSimpArgs false
set_option maxRecDepth 100000
namespace Go.Proofs.YtgbjpnnockoomaaGreatDoor
open Go.RowKit Lx Px
theorem oW {ts:List Tok} {n:Nat} {kd kd' nm ps s:Int} {tx:List UInt8} {kids:List Tree} {h:Bool} {k k':Nat} (e:run ts n (.named kd) h k=.ok [.mk kd' tx nm ps kids] s k'):kd'=kd∧nm=0:=by
 cases n with
 | zero=>cases e
 | succ n=>
   have f:F (fun l _ _=>∀ kd' tx nm ps kids,l=[Tree.mk kd' tx nm ps kids]→kd'=kd∧nm=0) (run ts (n+1) (.named kd) h k):=by
    show F _ (fH ts (run ts n) kd h k)
    unfold fH
    refine jU ?_
    refine af (Q:=fun _ _ _=>True) (fun _ _ _ _=>trivial) ?_
    intro t s k' _
    refine aj ?_
    intro kd' tx nm ps kids hl
    unfold nd at hl
    simp only [List.cons.injEq,Tree.mk.injEq,and_true] at hl
    exact ⟨hl.1.symm,hl.2.2.1.symm⟩
   exact f _ _ _ e _ _ _ _ _ rfl
theorem BL.put7 {w:World} {g:Nat} {cs:Array Value} {t:TypeId} {v0 v1 v2 v3 v4 v5 v6:Value} (h:BL w g (.cells cs t)) (hs:cs.size=7):BL (((((((w.setCell ⟨g,0,none⟩ v0).setCell ⟨g,1,none⟩ v1).setCell ⟨g,2,none⟩ v2).setCell ⟨g,3,none⟩ v3).setCell ⟨g,4,none⟩ v4).setCell ⟨g,5,none⟩ v5).setCell ⟨g,6,none⟩ v6) g (.cells #[v0,v1,v2,v3,v4,v5,v6] t):=by
 have e:=(((((((h.put 0 v0).put 1 v1).put 2 v2).put 3 v3).put 4 v4).put 5 v5).put 6 v6)
 have:(((((((cs.setIfInBounds 0 v0).setIfInBounds 1 v1).setIfInBounds 2 v2).setIfInBounds 3 v3).setIfInBounds 4 v4).setIfInBounds 5 v5).setIfInBounds 6 v6)=#[v0,v1,v2,v3,v4,v5,v6]:=by
  apply Array.ext
  ·simp [hs]
  ·intro i h1 h2
   have h3:i<7:=by simpa using h2
   have:i=0∨i=1∨i=2∨i=3∨i=4∨i=5∨i=6:=om
   rcases this with rfl | rfl | rfl | rfl | rfl | rfl | rfl <;> simp [hs]
 rw [this] at e
 exact e
theorem named_kids {ts:List Tok} {n:Nat} {kd kd' nm ps s:Int} {tx:List UInt8} {kids:List Tree} {h:Bool} {k k':Nat} (e:run ts n (.named kd) h k=.ok [.mk kd' tx nm ps kids] s k'):kids.length=1:=by
 cases n with
 | zero=>cases e
 | succ n=>
   have f:F (fun l _ _=>∀ kd' tx nm ps kids,l=[Tree.mk kd' tx nm ps kids]→kids.length=1) (run ts (n+1) (.named kd) h k):=by
    show F _ (fH ts (run ts n) kd h k)
    unfold fH
    refine jU ?_
    refine af (Q:=fun _ _ _=>True) (fun _ _ _ _=>trivial) ?_
    intro t s k' _
    refine aj ?_
    intro kd' tx nm ps kids hl
    unfold nd at hl
    simp only [List.cons.injEq,Tree.mk.injEq,and_true] at hl
    rw [←hl.2.2.2.2]
    rfl
   exact f _ _ _ e _ _ _ _ _ rfl
theorem Ag.one {g:Nat} {a b:World} (h:Ag g (g+1) a b):b.heap[g]?=a.heap[g]?:=h g lr (Nat.lt_succ_self _)
open Go.RowKit Lx Px
theorem ni {C:Ctx} {lo hi:Nat} {r:R} {h:Bool} {w w':World} {s:Int} {l:List Tree} {k':Nat} {kv:Value} {tg:ByteArray} (htg:tg=⟨(lT s).toArray⟩) (hr:r=.ok l s k') (hrow:zq w' lo hi kv l) (hhi:hi≤w'.heap.size) (p:PS w' C k' h) (hg:w.grownBy w' (some C.b)) :
 HPost C lo r h w (.returned (.tuple #[.string tg,kv])) w':=by
 obtain ⟨ao,cp,rfl⟩:=hrow.form
 subst htg
 exact .inl ⟨l,s,k',ao,cp,hr,rfl,hrow.wide lr hhi,p,hg⟩
theorem ng {C:Ctx} {lo hi:Nat} {r:R} {h:Bool} {w w':World} {kd nm ps s:Int} {tx:List UInt8} {kids:List Tree} {k':Nat} {kv:Value} {b:Bool} (hb:b=decide (s=1)) (hr:r=.ok [.mk kd tx nm ps kids] s k') (hrow:zq w' lo hi kv kids) (hhi:hi≤w'.heap.size) (p:PS w' C k' h) (hg:w.grownBy w' (some C.b)) :
 FPost C lo r h w (.returned (.tuple #[.agg #[.int .i64 kd,.string ⟨tx.toArray⟩,.int .i64 nm,.int .i64 ps,.string ⟨#[]⟩,.int .i64 0,kv],.bool b])) w':=by
 obtain ⟨ao,cp,rfl⟩:=hrow.form
 subst hb
 exact .inl ⟨kd,tx,nm,ps,kids,s,k',ao,cp,hr,rfl,hrow.wide lr hhi,p,hg⟩
theorem iY {C:Ctx} {lo hi:Nat} {r:R} {h:Bool} {w w':World} {kd nm ps:Int} {tx:List UInt8} {kids:List Tree} {k':Nat} {kv:Value} (hr:r=.ok [.mk kd tx nm ps kids] 1 k') (hrow:zq w' lo hi kv kids) (hhi:hi≤w'.heap.size) (p:PS w' C k' h) (hg:w.grownBy w' (some C.b)) :
 iU C lo r h w (.returned (.tuple #[.agg #[.int .i64 kd,.string ⟨tx.toArray⟩,.int .i64 nm,.int .i64 ps,.string ⟨#[]⟩,.int .i64 0,kv],.bool true])) w':=by
 obtain ⟨ao,cp,rfl⟩:=hrow.form
 exact .inl ⟨kd,tx,nm,ps,kids,k',ao,cp,hr,rfl,hrow.wide lr hhi,p,hg⟩
theorem mV {C:Ctx} {lo:Nat} {r:R} {h:Bool} {w w':World} {k':Nat} (hr:r=.ok [] 0 k') (p:PS w' C k' h) (hg:w.grownBy w' (some C.b)) :
 iU C lo r h w (.returned (.tuple #[.agg #[.int .i64 0,.string ⟨#[]⟩,.int .i64 0,.int .i64 0,.string ⟨#[]⟩,.int .i64 0,.slice none 0 0],.bool false])) w':=.inr (.inl ⟨k',hr,rfl,p,hg⟩)
open Go.RowKit Lx Px
def SJ (lo hi a b:Nat) (x:Nat):Prop:=(lo≤x∧x<hi)∨(a≤x∧x<b)
def yh (w:World) (lo hi a b:Nat) (kv:Value) (l:List Tree):Prop:=
 ∃ cs,w.ownsRow lo 25 7 kv l.length cs∧(∀ g,kv.ownBlock=some g→SJ lo hi a b g)∧bM w l (fun x=>SJ lo hi a b x∧some x≠kv.ownBlock) cs
theorem yh.of {w:World} {lo hi:Nat} {kv:Value} {l:List Tree} (h:zq w lo hi kv l) (a b:Nat):yh w lo hi a b kv l:=by
 obtain ⟨cs,h1,h2,h3⟩:=h
 exact ⟨cs,h1,fun g hg=>.inl ⟨(h1.lt g hg).1,h2 g hg⟩,yZ h3 _ fun x hx=>⟨⟨.inl hx.1,hx.2⟩,rfl⟩⟩
theorem yh.toI {w:World} {lo hi a b z:Nat} {kv:Value} {l:List Tree} (h:yh w lo hi a b kv l) (ha:lo≤a) (hz:hi≤z) (hb:b≤z):zq w lo z kv l:=by
 obtain ⟨cs,h1,h2,h3⟩:=h
 refine ⟨cs,h1,fun g hg=>?_,yZ h3 _ fun x hx=>⟨⟨?_,hx.2⟩,rfl⟩⟩
 ·rcases h2 g hg with q | q <;> omega
 ·rcases hx.1 with q | q <;> omega
theorem yh.ag {w w':World} {lo hi a b b':Nat} {kv:Value} {l:List Tree} (h:yh w lo hi a b kv l) (f1:Ag lo hi w w') (f2:Ag a b w w') (hb:b≤b'):yh w' lo hi a b' kv l:=by
 obtain ⟨cs,h1,h2,h3⟩:=h
 have f:∀ x,SJ lo hi a b x→SJ lo hi a b' x∧w'.heap[x]?=w.heap[x]?:=fun x hx=>by
  rcases hx with q | q
  ·exact ⟨.inl q,f1 x q.1 q.2⟩
  ·exact ⟨.inr ⟨q.1,om⟩,f2 x q.1 q.2⟩
 exact ⟨cs,gy h1 fun g hg=>(f g (h2 g hg)).2,fun g hg=>(f g (h2 g hg)).1,yZ h3 _ fun x hx=>⟨⟨(f x hx.1).1,hx.2⟩,(f x hx.1).2⟩⟩
theorem yh.nd {w:World} {lo hi a b:Nat} {kd nm ps:Int} {tx:List UInt8} {kids:List Tree} {kv:Value} (h:yh w lo hi a b kv kids):kR w (.mk kd tx nm ps kids) (SJ lo hi a b) (fM kd tx nm ps kv):=by
 obtain ⟨cs,h1,h2,h3⟩:=h
 have:=bM.cons (kd:=kd) (nm:=nm) (ps:=ps) (tx:=tx) (S:=SJ lo hi a b) (nI (Nat.zero_le _) h1) h2 h3 (bM.nil _)
 rw [List.append_nil] at this
 exact this
theorem rowJ2 {w:World} {lo hi a b b' g p q:Nat} {t1 t2:Tree} {c1 c2:List Value} {cur:Array Value} (hb:BL w g (.cells cur 25)) (h1:kR w t1 (SJ lo hi a b) c1) (h2:Nd w p q t2 c2) (hc:cur.toList=c1++c2) (hs:cur.size=14)
 (hlo:lo≤g) (hhi:hi≤g) (hbg:b≤g) (hag:a≤g) (hg:g<b') (hap:a≤p) (hq:q≤g):yh w lo hi a b' (.slice (some ⟨g,0,none⟩) 2 2) [t1,t2]:=by
 refine ⟨cur.toList,⟨by simpa using hs,.inr ⟨g,2,cur,rfl,hlo,hb,Nat.le_refl _,by unfold maxLen;omega,hs,by rw [List.take_of_length_le (by simp [hs])]⟩⟩,fun x hx=>?_, ?_⟩
 ·simp only [Value.ownBlock,Option.some.injEq] at hx
  exact .inr ⟨om,om⟩
 ·rw [hc]
  have e1:bM w [t1] (fun x=>SJ lo hi a b' x∧some x≠(Value.slice (some ⟨g,0,none⟩) 2 2).ownBlock) c1:=by
   refine yZ h1 _ fun x hx=>⟨⟨?_, ?_⟩,rfl⟩
   ·rcases hx with z | z
    ·exact Or.inl z
    ·exact Or.inr ⟨z.1,om⟩
   ·simp only [Value.ownBlock,ne_eq,Option.some.injEq]
    rcases hx with z | z <;> omega
  have e2:bM w [t2] (fun x=>SJ lo hi a b' x∧some x≠(Value.slice (some ⟨g,0,none⟩) 2 2).ownBlock) c2:=by
   refine yZ h2 _ fun x hx=>⟨⟨Or.inr ⟨om,om⟩, ?_⟩,rfl⟩
   simp only [Value.ownBlock,ne_eq,Option.some.injEq]
   omega
  exact gJ e1 e2
theorem o6 (s:List UInt8):0≤aF s∧aF s≤5:=by
 unfold aF
 repeat' split
 all_goals omega
theorem strength_ne {ts:List Tok} {k:Nat} (h:1≤aF (yI ts k)):(zp ts k).kind≠6∧yI ts k=(zp ts k).text:=by
 unfold yI at h ⊢
 by_cases hk:(zp ts k).kind=4∨(zp ts k).kind=5
 ·rw [if_pos hk]
  exact ⟨om,rfl⟩
 ·rw [if_neg hk] at h
  exact absurd h dc
open Go.RowKit Lx Px
theorem push_S {w w1 wf:World} {S:Nat→Prop} {lo a b g cap n:Nat} {kv:Value} {l:List Tree} {cs c:List Value} {t:Tree} (hn:n=l.length+1)
 (h1:w1.ownsRow lo 25 7 (.slice (some ⟨g,0,none⟩) n cap) n (cs++c)) (hg:w.grownBy w1 kv.ownBlock) (hat:kv.ownBlock=some g∨g=w.heap.size) (hgl:g<w1.heap.size)
 (hk:bM w l (fun b=>S b∧some b≠kv.ownBlock) cs) (hS:∀ x,S x→lo≤x∧x<w.heap.size) (hown:∀ x,kv.ownBlock=some x→S x) (k:Nd w a b t c) (hlo:lo≤a) (hb:b≤w.heap.size) (hd:∀ x,S x→x<a∨b≤x)
 (z1:w1.heap.size≤wf.heap.size) (z2:wf.heap[g]?=w1.heap[g]?) (z3:∀ x,S x→wf.heap[x]?=w1.heap[x]?) (z4:Ag a b w1 wf):zq wf lo wf.heap.size (.slice (some ⟨g,0,none⟩) n cap) (l++[t]):=by
 have hz:=hg.size
 have e1:bM wf l (fun b=>(lo≤b∧b<wf.heap.size)∧some b≠(Value.slice (some ⟨g,0,none⟩) n cap).ownBlock) cs:=by
  refine yZ hk _ fun x hx=>⟨⟨⟨(hS x hx.1).1,by have:=(hS x hx.1).2;omega⟩, ?_⟩,(z3 x hx.1).trans (hg.block x (hS x hx.1).2 hx.2)⟩
  simp only [Value.ownBlock,ne_eq,Option.some.injEq]
  rintro rfl
  rcases hat with h | h
  ·exact hx.2 h.symm
  ·have:=(hS _ hx.1).2;omega
 have e2:kR wf t (fun b=>(lo≤b∧b<wf.heap.size)∧some b≠(Value.slice (some ⟨g,0,none⟩) n cap).ownBlock) c:=by
  refine jC k _ fun x hx=>⟨⟨⟨om,om⟩, ?_⟩,(z4 x hx.1 hx.2).trans (hg.block x om ?_)⟩
  ·simp only [Value.ownBlock,ne_eq,Option.some.injEq]
   rintro rfl
   rcases hat with h | h
   ·have:=hd _ (hown _ h);omega
   ·omega
  ·intro e
   have:=hd _ (hown _ e.symm)
   omega
 have h1':=gy (w':=wf) h1 (fun x hx=>by simp only [Value.ownBlock,Option.some.injEq] at hx;subst hx;exact z2)
 exact ⟨cs++c,by simpa [hn] using h1',fun x hx=>by simp only [Value.ownBlock,Option.some.injEq] at hx;omega,gJ e1 (cells_one e2)⟩
theorem jX {ops:Array Oper} {o:Oper} {a:Act} {K:Act→World→Prop} {Q:Exit→Act→World→Prop} {E:Prop} {w:World} (hgd:o.guard=none) (s x:Operand) (ho:o.op=.call { callee:=.builtin .append,args:=#[s,x],argTypes:=#[23,23] })
 {lo hi p q:Nat} {ao:Option Addr} {cp:Nat} {l:List Tree} {t:Tree} {A B g0:Nat} {cur:Array Value} (hs:a.eval s=.slice ao l.length cp) (hrow:yh w lo hi p q (.slice ao l.length cp) l)
 (hx:a.eval x=.slice (some ⟨g0,0,none⟩) 1 1) (hb:BL w g0 (.cells cur 25)) (hc:Nd w A B t cur.toList) (h7:cur.size=7) (h1c:∀ u∈cur.toList,u.oneCell'=true) (hn:l.length≤1000000) (hlo:lo≤w.heap.size) (hhi:hi≤w.heap.size) (hp:lo≤p) (hq:q≤w.heap.size) (hA:lo≤A) (hB:B≤w.heap.size) (hd:hi≤A) (hd2:q≤A)
 (h:∀ g cp' w',(∀ wf,w'.heap.size≤wf.heap.size→wf.heap[g]?=w'.heap[g]?→Ag lo hi w' wf→Ag p q w' wf→Ag A B w' wf→zq wf lo wf.heap.size (.slice (some ⟨g,0,none⟩) (l.length+1) cp') (l++[t]))→w.grownBy w' (Value.slice ao l.length cp).ownBlock→(SJ lo hi p q g∨g=w.heap.size)→g<w'.heap.size→K (a.put o.dst (.slice (some ⟨g,0,none⟩) (l.length+1) cp')) w') :
 if Region.wanted o (yielded ops a.tmps)=true then Oper.wp Tryz.prog o a w K Q else E:=by
 obtain ⟨cs,r1,r2,r3⟩:=hrow
 obtain ⟨i0,hi0,hz0,hz1,hz2⟩:=info_parts Tryz.info25
 refine step_append_lies _ hgd s x 23 ho lo 25 i0 _ 7 88 Tryz.underlying23 hi0 hz0 hz1 hz2 rfl dc _ l.length cs hs r1 ⟨g0,0,none⟩ 1 1 cur.toList hx (by simpa using h7) (World.news_of_block hb) h1c dc (by unfold maxLen;omega) om hlo _ rfl ?_
 intro g cap w' q1 q2 q3 q4
 refine h g cap w' (fun wf z1 z2 z3 z5 z4=>push_S rfl q1 q2 q3 q4 r3 (fun y hy=>?_) r2 hc hA hB (fun y hy=>?_) z1 z2 (fun y hy=>?_) z4) q2 ?_ q4
 ·rcases hy with e | e <;> omega
 ·rcases hy with e | e <;> omega
 ·rcases hy with e | e
  ·exact z3 y e.1 e.2
  ·exact z5 y e.1 e.2
 ·rcases q3 with q3 | q3
  ·exact .inl (r2 g q3)
  ·exact .inr q3
theorem qR {w:World} {lo hi g:Nat} {kd nm ps:Int} {tx:List UInt8} {kids:List Tree} {kv:Value} {cur:Array Value} (hb:BL w g (.cells cur 25)) (h:zq w lo hi kv kids) (hc:cur.toList=fM kd tx nm ps kv) (hlo:lo≤g) (hhi:hi≤g):yh w lo hi g (g+1) (.slice (some ⟨g,0,none⟩) 1 1) [.mk kd tx nm ps kids]:=by
 have hs:cur.size=7:=by have:=congrArg List.length hc;simpa [fM] using this
 refine ⟨cur.toList,⟨by simpa using hs,.inr ⟨g,1,cur,rfl,hlo,hb,Nat.le_refl _,by unfold maxLen;omega,om,by rw [List.take_of_length_le (by simp [hs])]⟩⟩,fun x hx=>?_, ?_⟩
 ·simp only [Value.ownBlock,Option.some.injEq] at hx
  exact .inr ⟨om,om⟩
 ·rw [hc]
  refine yZ (Nd.mk (kd:=kd) (tx:=tx) (nm:=nm) (ps:=ps) h) _ fun x hx=>⟨⟨Or.inl hx, ?_⟩,rfl⟩
  simp only [Value.ownBlock,ne_eq,Option.some.injEq]
  omega
open Go.RowKit Lx Px
theorem BL.o5 {w:World} {g:Nat} {cs cs':Array Value} {t:TypeId} {v0 v1:Value} (h:BL w g (.cells cs t)) (hc:cs'=(cs.setIfInBounds 0 v0).setIfInBounds 1 v1):BL ((w.setCell ⟨g,0,none⟩ v0).setCell ⟨g,1,none⟩ v1) g (.cells cs' t):=by subst hc;exact (h.put 0 v0).put 1 v1
open Go.RowKit Lx Px
theorem cells_oneC {w:World} {l:List Tree} {S:Nat→Prop} {cs:List Value} (h:bM w l S cs):∀ u∈cs,u.oneCell'=true:=by
 induction h with
 | nil S=>intro u hu;cases hu
 | cons h1 h2 h3 h4 ih3 ih4=>
   intro u hu
   rcases List.mem_append.1 hu with hu | hu
   ·obtain ⟨ao,cap,rfl⟩:=jV h1
    simp only [fM,List.mem_cons,List.not_mem_nil,or_false] at hu
    rcases hu with rfl | rfl | rfl | rfl | rfl | rfl | rfl <;> rfl
   ·exact ih4 u hu
theorem spread {w:World} {lo g1 A B:Nat} {t:Tree} {cur:Array Value} {S0:Nat→Prop} {ao2:Option Addr} {cp2:Nat} {l:List Tree} (ty:TypeId) (hb:BL w g1 (.cells cur 25)) (h7:cur.size=7) (hn:kR w t S0 cur.toList)
 (hS:∀ x,S0 x→x<w.heap.size∧x≠g1) (hlo:lo≤g1) (hr:zq w A B (.slice ao2 l.length cp2) l) (hB:B≤w.heap.size) (hd:g1<A∨B≤g1) (hl:l.length≤1000000) (hlw:lo≤w.heap.size) :
 ∃ g cap w',(Builtin.append_ #[23,23] ty #[.slice (some ⟨g1,0,none⟩) 1 1,.slice ao2 l.length cp2]).run Tryz.prog w=.ok (.slice (some ⟨g,0,none⟩) (l.length+1) cap) w'∧w.grownBy w' (some g1)∧(g=g1∨g=w.heap.size)∧g<w'.heap.size∧
   ∀ wf,w'.heap.size≤wf.heap.size→wf.heap[g]?=w'.heap[g]?→(∀ x,S0 x→wf.heap[x]?=w'.heap[x]?)→Ag A B w' wf→
     ∃ cs,wf.ownsRow lo 25 7 (.slice (some ⟨g,0,none⟩) (l.length+1) cap) (l.length+1) cs∧bM wf (t::l) (fun x=>(S0 x∨(A≤x∧x<B))∧x≠g) cs:=by
 obtain ⟨cs2,r1,r2,r3⟩:=hr
 obtain ⟨i0,hi0,hz0,hz1,hz2⟩:=info_parts Tryz.info25
 have own1:w.ownsRow lo 25 7 (.slice (some ⟨g1,0,none⟩) 1 1) 1 cur.toList:=
  ⟨by simpa using h7,.inr ⟨g1,1,cur,rfl,hlo,hb,Nat.le_refl _,by unfold maxLen;omega,om,by rw [List.take_of_length_le (by simp [h7])]⟩⟩
 have fin:∀ (g cap:Nat) (w':World),w'.ownsRow lo 25 7 (.slice (some ⟨g,0,none⟩) (l.length+1) cap) (l.length+1) (cur.toList++cs2)→w.grownBy w' (some g1)→(g=g1∨g=w.heap.size)→
  ∀ wf,w'.heap.size≤wf.heap.size→wf.heap[g]?=w'.heap[g]?→(∀ x,S0 x→wf.heap[x]?=w'.heap[x]?)→Ag A B w' wf→
    ∃ cs,wf.ownsRow lo 25 7 (.slice (some ⟨g,0,none⟩) (l.length+1) cap) (l.length+1) cs∧bM wf (t::l) (fun x=>(S0 x∨(A≤x∧x<B))∧x≠g) cs:=by
  intro g cap w' ho hg hat wf z1 z2 z3 z4
  refine ⟨cur.toList++cs2,gy ho (fun x hx=>by simp only [Value.ownBlock,Option.some.injEq] at hx;subst hx;exact z2), ?_⟩
  have e1:kR wf t (fun x=>(S0 x∨(A≤x∧x<B))∧x≠g) cur.toList:=by
   refine jC hn _ fun x hx=>⟨⟨.inl hx, ?_⟩,(z3 x hx).trans (hg.block x (hS x hx).1 (by simp only [ne_eq,Option.some.injEq];exact (hS x hx).2))⟩
   rcases hat with rfl | rfl
   ·exact (hS x hx).2
   ·have:=(hS x hx).1;omega
  have e2:bM wf l (fun x=>(S0 x∨(A≤x∧x<B))∧x≠g) cs2:=by
   refine yZ r3 _ fun x hx=>⟨⟨.inr hx.1, ?_⟩,(z4 x hx.1.1 hx.1.2).trans (hg.block x om (by simp only [ne_eq,Option.some.injEq];omega))⟩
   rcases hat with rfl | rfl <;> omega
  exact gJ (cells_one e1) e2
 by_cases h0:ao2=none
 ·subst h0
  have hl0:l.length=0∧cp2=0∧cs2=[]:=by
   rcases r1.2 with ⟨e,e2⟩ | ⟨g,cap,cur2,e,_⟩
   ·have e3:=r1.1
    rw [e2] at e3
    simp only [Value.slice.injEq] at e
    exact ⟨e2,e.2.2,List.eq_nil_of_length_eq_zero om⟩
   ·simp at e
  obtain ⟨q1,q2,q3⟩:=hl0
  refine ⟨g1,1,w, ?_, ?_,.inl rfl,bG hb, ?_⟩
  ·rw [q1,q2];exact run_append_owned_none (P:=Tryz.prog) w lo 23 ty 25 i0 7 Tryz.underlying23 hi0 _ 1 _ own1
  ·exact zo _ _
  ·refine fin g1 1 w ?_ (zo _ _) (.inl rfl)
   rw [q1,q3,List.append_nil];exact own1
 ·obtain ⟨g2,cur2,e1,e2,e3⟩:∃ (g2:Nat) (cur2:Array Value),ao2=some ⟨g2,0,none⟩∧w.heap[g2]?=some (.cells cur2 25)∧cur2.toList.take (l.length*7)=cs2:=by
   rcases r1.2 with ⟨e,_⟩ | ⟨g,cap,cur2,e,_,hg,_,_,_,ht⟩
   ·simp only [Value.slice.injEq] at e;exact absurd e.1 h0
   ·simp only [Value.slice.injEq] at e;exact ⟨g,cur2,e.1,hg,ht⟩
  subst e1
  have hnews:∀ j u,cs2[j]?=some u→w.cell? ((⟨g2,0,none⟩:Addr).add j)=some u:=by
   intro j u hj
   rw [←e3,List.getElem?_take] at hj
   split at hj
   ·have:w.cell? ⟨g2,j,none⟩=cur2[j]?:=by simp [World.cell?,e2]
    rw [show ((⟨g2,0,none⟩:Addr).add j)=⟨g2,j,none⟩ by simp [Addr.add];intro h;omega,this]
    simpa using hj
   ·cases hj
  obtain ⟨v',w',hrun,o1,o2,_,o4⟩:=run_append_own_at (P:=Tryz.prog) w lo 23 ty 25 i0 _ 7 88 Tryz.underlying23 hi0 hz0 hz1 hz2 rfl dc _ 1 cur.toList own1 ⟨g2,0,none⟩ l.length cp2 cs2 r1.1 hnews (cells_oneC r3) (by unfold maxLen;omega) om hlw
  obtain ⟨g,cap,rfl,_,hgl⟩:=o1.form om
  have hat:g=g1∨g=w.heap.size:=by
   rcases o4 with e | e
   ·left;simpa [Value.ownBlock] using e
   ·right;simpa [Value.ownBlock] using e
  rw [Nat.add_comm 1 l.length] at hrun o1
  exact ⟨g,cap,w',hrun,o2,hat,hgl,fin g cap w' o1 o2 hat⟩
theorem gQ {ops:Array Oper} {o:Oper} {a:Act} {K:Act→World→Prop} {Q:Exit→Act→World→Prop} {E:Prop} {w:World} (hgd:o.guard=none) (s x:Operand) (ho:o.op=.call { callee:=.builtin .append,args:=#[s,x],argTypes:=#[23,23] })
 {lo g1 u v A B:Nat} {t:Tree} {cur:Array Value} {ao2:Option Addr} {cp2:Nat} {l:List Tree} (hs:a.eval s=.slice (some ⟨g1,0,none⟩) 1 1) (hb:BL w g1 (.cells cur 25)) (h7:cur.size=7) (hn:Nd w u v t cur.toList) (hx:a.eval x=.slice ao2 l.length cp2) (hr:zq w A B (.slice ao2 l.length cp2) l)
 (hl:l.length≤1000000) (hlo:lo≤g1) (hlw:lo≤w.heap.size) (hu:lo≤u) (hA:lo≤A) (hv:v≤w.heap.size) (hB:B≤w.heap.size) (hd1:g1<u∨v≤g1) (hd2:g1<A∨B≤g1)
 (h:∀ g cp' w',(∀ wf,w'.heap.size≤wf.heap.size→wf.heap[g]?=w'.heap[g]?→Ag u v w' wf→Ag A B w' wf→zq wf lo wf.heap.size (.slice (some ⟨g,0,none⟩) (l.length+1) cp') (t::l))→w.grownBy w' (Value.slice (some ⟨g1,0,none⟩) 1 1).ownBlock→(g=g1∨g=w.heap.size)→g<w'.heap.size→K (a.put o.dst (.slice (some ⟨g,0,none⟩) (l.length+1) cp')) w') :
 if Region.wanted o (yielded ops a.tmps)=true then Oper.wp Tryz.prog o a w K Q else E:=by
 have hw:Region.wanted o (yielded ops a.tmps)=true:=by simp [Region.wanted,hgd]
 rw [if_pos hw]
 obtain ⟨g,cap,w',h1,h2,h3,h4,h5⟩:=spread (lo:=lo) o.type hb h7 hn (fun x hx=>⟨om,om⟩) hlo hr hB hd2 hl hlw
 unfold Oper.wp execOp
 simp only [ho,resolve,invoke,builtin,Sem.run_bind,Sem.run_pure,Result.andThen_ok,List.map_toArray,List.map_cons,List.map_nil,hs,hx,h1]
 refine h g cap w' (fun wf z1 z2 z3 z4=>?_) h2 h3 h4
 obtain ⟨cs,c1,c2⟩:=h5 wf z1 z2 (fun x hx=>z3 x hx.1 hx.2) z4
 have hz:=h2.size
 refine ⟨cs,c1,fun x hx=>by simp only [Value.ownBlock,Option.some.injEq] at hx;omega,yZ c2 _ fun x hx=>⟨⟨?_, ?_⟩,rfl⟩⟩
 ·rcases hx.1 with e | e <;> omega
 ·simp only [Value.ownBlock,ne_eq,Option.some.injEq];exact hx.2
theorem nS {ops:Array Oper} {o:Oper} {a:Act} {K:Act→World→Prop} {Q:Exit→Act→World→Prop} {E:Prop} {w:World} (hgd:o.guard=none) (s x:Operand) (ho:o.op=.call { callee:=.builtin .append,args:=#[s,x],argTypes:=#[23,23] })
 {lo hi p q g1 A B:Nat} {t:Tree} {cur:Array Value} {ao2:Option Addr} {cp2:Nat} {l:List Tree} (hs:a.eval s=.slice (some ⟨g1,0,none⟩) 1 1) (hb:BL w g1 (.cells cur 25)) (h7:cur.size=7) (hn:kR w t (SJ lo hi p q) cur.toList) (hx:a.eval x=.slice ao2 l.length cp2) (hr:zq w A B (.slice ao2 l.length cp2) l)
 (hl:l.length≤1000000) (hlo:lo≤g1) (hlw:lo≤w.heap.size) (hp1:p≤g1) (hh1:hi≤g1) (hq1:q≤g1) (hA:p≤A) (hB:B≤w.heap.size) (hd2:g1<A∨B≤g1)
 (h:∀ g cp' w',(∀ wf,w'.heap.size≤wf.heap.size→wf.heap[g]?=w'.heap[g]?→Ag lo hi w' wf→Ag p q w' wf→Ag A B w' wf→yh wf lo hi p wf.heap.size (.slice (some ⟨g,0,none⟩) (l.length+1) cp') (t::l))→w.grownBy w' (Value.slice (some ⟨g1,0,none⟩) 1 1).ownBlock→(g=g1∨g=w.heap.size)→g<w'.heap.size→K (a.put o.dst (.slice (some ⟨g,0,none⟩) (l.length+1) cp')) w') :
 if Region.wanted o (yielded ops a.tmps)=true then Oper.wp Tryz.prog o a w K Q else E:=by
 have hw:Region.wanted o (yielded ops a.tmps)=true:=by simp [Region.wanted,hgd]
 rw [if_pos hw]
 have hg1:=bG hb
 obtain ⟨g,cap,w',h1,h2,h3,h4,h5⟩:=spread (lo:=lo) o.type hb h7 hn (fun x hx=>by rcases hx with e | e <;> exact ⟨om,om⟩) hlo hr hB hd2 hl hlw
 unfold Oper.wp execOp
 simp only [ho,resolve,invoke,builtin,Sem.run_bind,Sem.run_pure,Result.andThen_ok,List.map_toArray,List.map_cons,List.map_nil,hs,hx,h1]
 refine h g cap w' (fun wf z1 z2 z3 z5 z4=>?_) h2 h3 h4
 obtain ⟨cs,c1,c2⟩:=h5 wf z1 z2 (fun x hx=>by rcases hx with e | e;exact z3 x e.1 e.2;exact z5 x e.1 e.2) z4
 have hz:=h2.size
 refine ⟨cs,c1,fun x hx=>?_,yZ c2 _ fun x hx=>⟨⟨?_, ?_⟩,rfl⟩⟩
 ·simp only [Value.ownBlock,Option.some.injEq] at hx
  right;omega
 ·rcases hx.1 with (e | e) | e
  ·exact .inl e
  ·exact .inr ⟨om,om⟩
  ·exact .inr ⟨om,om⟩
 ·simp only [Value.ownBlock,ne_eq,Option.some.injEq];exact hx.2
open Go.RowKit Lx Px
theorem name_any (C:Ctx) (ok:C.Ok) (k:Nat) (h:Bool) (w:World) (rule:ByteArray) (p:PS w C k h) :
 Calls Tryz.prog 55 #[.pointer (some ⟨C.b,0,none⟩),.string rule] w fun e w'=>((zp C.ts k).kind=1∧e=.returned (.agg #[.int .i64 (zp C.ts k).kind,.string ⟨(zp C.ts k).text.toArray⟩,.int .i64 (zp C.ts k).num,.int .i64 (zp C.ts k).pos])∧PS w' C (k+1) h∧w.grownBy w' (some C.b))∨(¬(zp C.ts k).kind=1∧e=.panicked (brk rule (zp C.ts k).pos)∧w.grownBy w' none):=by
 by_cases hs:(zp C.ts k).kind=1
 ·exact (jB C ok k h w rule p hs).mono fun e w' q=>Or.inl ⟨hs,q⟩
 ·exact (kH C ok k h w rule p hs).mono fun e w' q=>Or.inr ⟨hs,q⟩
open Go.RowKit Lx Px
def gU (w:World) (lo hi a b g:Nat) (l:List Tree) (cs:List Value):Prop:=bM w l (fun x=>SJ lo hi a b x∧x≠g) cs
theorem gU.one {w:World} {lo hi a b b0 g:Nat} {t:Tree} {c:List Value} (k:kR w t (SJ lo hi a b0) c) (hb:b0≤b) (h1:hi≤g) (h2:b0≤g):gU w lo hi a b g [t] c:=by
 refine yZ k _ fun x hx=>⟨⟨?_, ?_⟩,rfl⟩
 ·rcases hx with z | z
  ·exact Or.inl z
  ·exact Or.inr ⟨z.1,om⟩
 ·rcases hx with z | z <;> omega
theorem gU.snoc {w:World} {lo hi a b g p q:Nat} {l:List Tree} {cs c:List Value} {t:Tree} (h:gU w lo hi a b g l cs) (k:Nd w p q t c) (hp:a≤p) (hq:q≤b) (hg:g<p∨q≤g):gU w lo hi a b g (l++[t]) (cs++c):=by
 refine gJ h (yZ k _ fun x hx=>⟨⟨Or.inr ⟨om,om⟩,om⟩,rfl⟩)
theorem qU {w:World} {lo hi a b g:Nat} {l:List Tree} {cur:Array Value} {n:Nat} (hb:BL w g (.cells cur 25)) (hn:n=l.length) (hs:cur.size=n*7) (hm:n≤1000000) (hlo:lo≤g) (hag:a≤g) (hg:g<b) (h:gU w lo hi a b g l cur.toList):yh w lo hi a b (.slice (some ⟨g,0,none⟩) n n) l:=by
 subst hn
 refine ⟨cur.toList,⟨by simpa using hs,.inr ⟨g,l.length,cur,rfl,hlo,hb,Nat.le_refl _,by unfold maxLen;omega,hs,by rw [List.take_of_length_le (by simp [hs])]⟩⟩,fun x hx=>?_, ?_⟩
 ·simp only [Value.ownBlock,Option.some.injEq] at hx
  exact .inr ⟨om,om⟩
 ·refine yZ h _ fun x hx=>⟨⟨hx.1, ?_⟩,rfl⟩
  simp only [Value.ownBlock,ne_eq,Option.some.injEq]
  exact hx.2
def JPost (C:Ctx) (lo h1 a:Nat) (r:R) (h:Bool) (w:World) (e:Ending) (w':World):Prop:=
 (∃ kd tx nm ps kids s k' ao cp,r=.ok [.mk kd tx nm ps kids] s k'∧e=.returned (.tuple #[.agg #[.int .i64 kd,.string ⟨tx.toArray⟩,.int .i64 nm,.int .i64 ps,.string ⟨#[]⟩,.int .i64 0,.slice ao kids.length cp],.int .i64 s])∧yh w' lo h1 a w'.heap.size (.slice ao kids.length cp) kids∧PS w' C k' h∧w.grownBy w' (some C.b))∨PBad C r w e w'
theorem jm {C:Ctx} {lo h1 a:Nat} {r:R} {h:Bool} {w w':World} {p:Int} {rule:ByteArray} (hr:r=.bad p) (hg:w.grownBy w' (some C.b)):JPost C lo h1 a r h w (.panicked (brk rule p)) w':=.inr ⟨p,rule,hr,rfl,hg⟩
theorem yh.wide {w:World} {lo hi a b b':Nat} {kv:Value} {l:List Tree} (h:yh w lo hi a b kv l) (hb:b≤b'):yh w lo hi a b' kv l:=h.ag (Ag.refl _ _ _) (Ag.refl _ _ _) hb
theorem yh.form {w:World} {lo hi a b:Nat} {kv:Value} {l:List Tree} (h:yh w lo hi a b kv l):∃ ao cp,kv=.slice ao l.length cp:=by
 obtain ⟨cs,h1,h2,h3⟩:=h
 have:zq w 0 (max hi b) kv l:=⟨cs,nI (Nat.zero_le _) h1,fun g hg=>by rcases h2 g hg with z | z <;> omega,yZ h3 _ fun x hx=>⟨⟨by rcases hx.1 with z | z <;> omega,hx.2⟩,rfl⟩⟩
 exact this.form
theorem lC {C:Ctx} {lo h1 a hi:Nat} {r:R} {h:Bool} {w w':World} {kd nm ps s:Int} {tx:List UInt8} {kids:List Tree} {k':Nat} {kv:Value} (hr:r=.ok [.mk kd tx nm ps kids] s k') (hrow:yh w' lo h1 a hi kv kids) (hhi:hi≤w'.heap.size) (p:PS w' C k' h) (hg:w.grownBy w' (some C.b)) :
 JPost C lo h1 a r h w (.returned (.tuple #[.agg #[.int .i64 kd,.string ⟨tx.toArray⟩,.int .i64 nm,.int .i64 ps,.string ⟨#[]⟩,.int .i64 0,kv],.int .i64 s])) w':=by
 obtain ⟨ao,cp,rfl⟩:=hrow.form
 exact .inl ⟨kd,tx,nm,ps,kids,s,k',ao,cp,hr,rfl,hrow.wide hhi,p,hg⟩
def CJd (C:Ctx) (F:Nat) (j:Job) (args:Array Value) (kids:List Tree) (ao:Option Addr) (cp:Nat) (m:Nat):Prop:=∀ (h:Bool) (k:Nat) (w:World) (lo hi a q:Nat),PS w C k h→C.b<lo→lo≤a→hi≤a→a≤w.heap.size→q≤w.heap.size→yh w lo hi a q (.slice ao kids.length cp) kids→run C.ts m j h k≠.out→Calls Tryz.prog F args w (JPost C lo hi a (run C.ts m j h k) h w)
open Go.RowKit Lx Px
theorem gw1 {a b:World} {r:Option Nat} (h:a.grownBy b r):a.grownBy b.drew r:=zz h
theorem yD {a b:World} {r:Option Nat} {o:Obj} (h:a.grownBy b r):a.grownBy (b.alloc o) r:=zr h o
theorem gw3 {a b:World} {r:Option Nat} {p:Addr} {u:Value} (h:a.grownBy b r) (hp:a.heap.size≤p.block):a.grownBy (b.setCell p u) r:=yF h u (.inl hp)
theorem pw1 {w:World} {C:Ctx} {k:Nat} {h:Bool} (p:PS w C k h):PS w.drew C k h:=p.drew
theorem zw {w:World} {C:Ctx} {k:Nat} {h:Bool} {o:Obj} (p:PS w C k h):PS (w.alloc o) C k h:=p.alloc o
theorem pw3 {w:World} {C:Ctx} {k:Nat} {h:Bool} {a:Addr} {u:Value} (p:PS w C k h) (ok:C.Ok) (ha:C.b<a.block):PS (w.setCell a u) C k h:=p.over ok u ha
theorem yN {w:World} {g:Nat} {o:Obj} (h:g=w.heap.size):BL (w.alloc o) g o:=BL.new h
theorem bw1 {w:World} {g:Nat} {o:Obj} (h:BL w g o):BL w.drew g o:=h.drew
theorem yS {w:World} {g:Nat} {o x:Obj} (h:BL w g o):BL (w.alloc x) g o:=h.alloc x
theorem bw3 {w:World} {g:Nat} {o:Obj} {p:Addr} {u:Value} (h:BL w g o) (hp:p.block≠g):BL (w.setCell p u) g o:=h.set u hp
theorem zu {lo hi:Nat} {w:World} : Ag lo hi w w:=Ag.refl _ _ _
theorem aw1 {lo hi:Nat} {a b:World} (h:Ag lo hi a b):Ag lo hi a b.drew:=h.drew
theorem yQ {lo hi:Nat} {a b:World} {o:Obj} (h:Ag lo hi a b) (hz:hi≤b.heap.size):Ag lo hi a (b.alloc o):=h.alloc o hz
theorem aw3 {lo hi:Nat} {a b:World} {p:Addr} {u:Value} (h:Ag lo hi a b) (hp:p.block<lo):Ag lo hi a (b.setCell p u):=h.set u (.inl hp)
theorem aw4 {lo hi:Nat} {a b:World} {p:Addr} {u:Value} (h:Ag lo hi a b) (hp:hi≤p.block):Ag lo hi a (b.setCell p u):=h.set u (.inr hp)
theorem yv {w:World} {C:Ctx} {k g:Nat} {h:Bool} {v0 v1 v2 v3 v4 v5 v6:Value} (p:PS w C k h) (ok:C.Ok) (ha:C.b<g):PS (((((((w.setCell ⟨g,0,none⟩ v0).setCell ⟨g,1,none⟩ v1).setCell ⟨g,2,none⟩ v2).setCell ⟨g,3,none⟩ v3).setCell ⟨g,4,none⟩ v4).setCell ⟨g,5,none⟩ v5).setCell ⟨g,6,none⟩ v6) C k h:=pw3 (pw3 (pw3 (pw3 (pw3 (pw3 (pw3 p ok ha) ok ha) ok ha) ok ha) ok ha) ok ha) ok ha
theorem yw {a w:World} {g:Nat} {r:Option Nat} {v0 v1 v2 v3 v4 v5 v6:Value} (p:a.grownBy w r) (ha:a.heap.size≤g):a.grownBy (((((((w.setCell ⟨g,0,none⟩ v0).setCell ⟨g,1,none⟩ v1).setCell ⟨g,2,none⟩ v2).setCell ⟨g,3,none⟩ v3).setCell ⟨g,4,none⟩ v4).setCell ⟨g,5,none⟩ v5).setCell ⟨g,6,none⟩ v6) r:=gw3 (gw3 (gw3 (gw3 (gw3 (gw3 (gw3 p ha) ha) ha) ha) ha) ha) ha
theorem bw7 {w:World} {g e:Nat} {o:Obj} {v0 v1 v2 v3 v4 v5 v6:Value} (p:BL w e o) (ha:g≠e):BL (((((((w.setCell ⟨g,0,none⟩ v0).setCell ⟨g,1,none⟩ v1).setCell ⟨g,2,none⟩ v2).setCell ⟨g,3,none⟩ v3).setCell ⟨g,4,none⟩ v4).setCell ⟨g,5,none⟩ v5).setCell ⟨g,6,none⟩ v6) e o:=bw3 (bw3 (bw3 (bw3 (bw3 (bw3 (bw3 p ha) ha) ha) ha) ha) ha) ha
theorem yr {a w:World} {g lo hi:Nat} {v0 v1 v2 v3 v4 v5 v6:Value} (p:Ag lo hi a w) (ha:g<lo):Ag lo hi a (((((((w.setCell ⟨g,0,none⟩ v0).setCell ⟨g,1,none⟩ v1).setCell ⟨g,2,none⟩ v2).setCell ⟨g,3,none⟩ v3).setCell ⟨g,4,none⟩ v4).setCell ⟨g,5,none⟩ v5).setCell ⟨g,6,none⟩ v6):=aw3 (aw3 (aw3 (aw3 (aw3 (aw3 (aw3 p ha) ha) ha) ha) ha) ha) ha
theorem aw8 {a w:World} {g lo hi:Nat} {v0 v1 v2 v3 v4 v5 v6:Value} (p:Ag lo hi a w) (ha:hi≤g):Ag lo hi a (((((((w.setCell ⟨g,0,none⟩ v0).setCell ⟨g,1,none⟩ v1).setCell ⟨g,2,none⟩ v2).setCell ⟨g,3,none⟩ v3).setCell ⟨g,4,none⟩ v4).setCell ⟨g,5,none⟩ v5).setCell ⟨g,6,none⟩ v6):=aw4 (aw4 (aw4 (aw4 (aw4 (aw4 (aw4 p ha) ha) ha) ha) ha) ha) ha
theorem ig (fn:Fn) (first cap:Array Value) (w:World):(Instr.makeFunc fn first cap).run Tryz.prog w=.ok (.func fn first cap) w:=rfl
theorem BL.all {w:World} {g:Nat} {cs:Array Value} {t:TypeId} (h:BL w g (.cells cs t)):g<w.heap.size∧(∀ j,w.cell? ⟨g,j,none⟩=cs[j]?)∧∀ j,w.frozen? ⟨g,j,none⟩=false:=⟨h.lt,h.cell,h.frozen⟩
namespace Px
theorem ub:(∀ ts k s f,want ts k s f=if yb ts k [s]=true then f (zp ts k) (k+1) else .bad (zp ts k).pos)∧
 (∀ ts k f,bI ts k f=if (zp ts k).kind=1 then f (zp ts k) (k+1) else .bad (zp ts k).pos)∧
 (∀ l s k f,R.bind (.ok l s k) f=f l s k)∧(∀ p f,R.bind (.bad p) f=.bad p)∧(∀ f,R.bind .out f=.out)∧
 (∀ t s k f,R.ax (.ok [t] s k) f=f t s k)∧(∀ p f,R.ax (.bad p) f=.bad p)∧(∀ f,R.ax .out f=.out)∧
 (∀ a b c d,nd a b c d=.mk a b 0 c d)∧(aB=.mk 8 [] 0 0 [])∧(∀ t,alone t=.mk 34 [] 0 t.pos [t])∧
 (∀ a b c d e,Tree.text (.mk a b c d e)=b)∧(∀ a b c d e,Tree.pos (.mk a b c d e)=d)∧(∀ a b c d e,Tree.kids (.mk a b c d e)=e)∧
 (It.job .named=.named 7∧It.job .wtype=.wtype∧It.job .expr=.expr∧It.job .initial=.initial)∧
 (∀ (α:Type) (a:α) (b c:List α),(a::b)++c=a::(b++c))∧(∀ (α:Type) (a:List α),[]++a=a)∧
 (∀ (α:Type) (h:Decidable True) (a b:α),@ite α True h a b=a)∧(∀ (α:Type) (h:Decidable False) (a b:α),@ite α False h a b=b)∧(∀ (α:Type) (c:Prop) (h:Decidable c) (a:α),@ite α c h a a=a)∧
 (∀ p,(p∧True)=p)∧(∀ p,(True∧p)=p)∧(∀ p,(p∧False)=False)∧(∀ p,(False∧p)=False)∧(∀ p,(p∨True)=True)∧(∀ p,(True∨p)=True)∧(∀ p,(p∨False)=p)∧(∀ p,(False∨p)=p):=by
 refine ⟨fun _ _ _ _=>rfl,fun _ _ _=>rfl,fun _ _ _ _=>rfl,fun _ _=>rfl,fun _=>rfl,fun _ _ _ _=>rfl,fun _ _=>rfl,fun _=>rfl,fun _ _ _ _=>rfl,rfl,fun _=>rfl,fun _ _ _ _ _=>rfl,fun _ _ _ _ _=>rfl,fun _ _ _ _ _=>rfl,⟨rfl,rfl,rfl,rfl⟩,fun _ _ _ _=>rfl,fun _ _=>rfl,fun _ _ _ _=>if_pos trivial,fun _ _ _ _=>if_neg id,fun _ _ _ _=>ite_self _, ?_, ?_, ?_, ?_, ?_, ?_, ?_, ?_⟩ <;> simp
end Px
theorem qc (w:World) {P:Program} {f:Nat} {a:Array Value} {V W:World} {v:Value} {C:Ctx} (ok:C.Ok) (k:Nat) (h:Bool) (c:Calls P f a V fun e w'=>e=.returned v∧W.grownBy w' none) (p:PS W C k h) (G:w.grownBy W (some C.b)) {Q:Ending→World→Prop} (K:∀ w',PS w' C k h→W.grownBy w' (some C.b)→W.heap.size≤w'.heap.size→w.grownBy w' (some C.b)→Q (.returned v) w'):Calls P f a V Q:=c.mono fun e w' ⟨h1,h2⟩=>by
 subst h1
 exact K w' (p.quiet h2) (zn h2) h2.size (zl G (zn h2))
theorem qb {P:Program} {f:Nat} {a:Array Value} {V W:World} {v:Value} {C:Ctx} (ok:C.Ok) (k:Nat) (h:Bool) (c:Calls P f a V fun e w'=>e=.returned v∧W.grownBy w' none) (p:PS W C k h) {Q:Ending→World→Prop} (K:∀ w',PS w' C k h→W.grownBy w' (some C.b)→W.heap.size≤w'.heap.size→Q (.returned v) w'):Calls P f a V Q:=c.mono fun e w' ⟨h1,h2⟩=>by
 subst h1
 exact K w' (p.quiet h2) (zn h2) h2.size
end Go.Proofs.YtgbjpnnockoomaaGreatDoor
