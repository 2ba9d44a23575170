import Derived.Test.YtgbjpnnockoomaaGreatDoorParP
import Derived.Test.YtgbjpnnockoomaaGreatDoorNum
set_option maxRecDepth 100000
namespace Go.Proofs.YtgbjpnnockoomaaGreatDoor
open Go.RowKit Lx Px
def fM (kd:Int) (tx:List UInt8) (nm ps:Int) (kv:Value):List Value:=[.int .i64 kd,.string ⟨tx.toArray⟩,.int .i64 nm,.int .i64 ps,.string ⟨#[]⟩,.int .i64 0,kv]
inductive bM (w:World):List Tree→(Nat→Prop)→List Value→Prop
 | nil (S:Nat→Prop):bM w [] S []
 | cons {S:Nat→Prop} {kd nm ps:Int} {tx:List UInt8} {kids l:List Tree} {kv:Value} {ks r:List Value} (h1:w.ownsRow 0 25 7 kv kids.length ks) (h2:∀ g,kv.ownBlock=some g→S g) (h3:bM w kids (fun b=>S b∧some b≠kv.ownBlock) ks) (h4:bM w l S r):bM w (.mk kd tx nm ps kids::l) S (fM kd tx nm ps kv++r)
def kR (w:World) (t:Tree) (S:Nat→Prop) (c:List Value):Prop:=bM w [t] S c
theorem gy {w w':World} {base e size n:Nat} {v:Value} {xs:List Value} (h:w.ownsRow base e size v n xs) (hb:∀ g,v.ownBlock=some g→w'.heap[g]?=w.heap[g]?):w'.ownsRow base e size v n xs:=by
 refine ⟨h.1, ?_⟩
 rcases h.2 with h2 | ⟨g,cap,cur,rfl,h3,h4,h5⟩
 ·exact .inl h2
 ·exact .inr ⟨g,cap,cur,rfl,h3,(hb g rfl).trans h4,h5⟩
theorem yZ {w w':World} {l:List Tree} {S:Nat→Prop} {cs:List Value} (h:bM w l S cs):∀ (S':Nat→Prop),(∀ b,S b→S' b∧w'.heap[b]?=w.heap[b]?)→bM w' l S' cs:=by
 induction h with
 | nil S=>exact fun S' _=>.nil S'
 | cons h1 h2 h3 h4 ih3 ih4=>
   intro S' hf
   exact .cons (gy h1 fun g hg=>(hf g (h2 g hg)).2) (fun g hg=>(hf g (h2 g hg)).1) (ih3 _ fun b hb=>⟨⟨(hf b hb.1).1,hb.2⟩,(hf b hb.1).2⟩) (ih4 _ hf)
theorem jC {w w':World} {t:Tree} {S:Nat→Prop} {c:List Value} (h:kR w t S c) (S':Nat→Prop) (hf:∀ b,S b→S' b∧w'.heap[b]?=w.heap[b]?):kR w' t S' c:=yZ h S' hf
def zq (w:World) (lo hi:Nat) (kv:Value) (l:List Tree):Prop:=
 ∃ cs,w.ownsRow lo 25 7 kv l.length cs∧(∀ g,kv.ownBlock=some g→g<hi)∧bM w l (fun b=>(lo≤b∧b<hi)∧some b≠kv.ownBlock) cs
theorem nI {w:World} {base base' e size n:Nat} {v:Value} {xs:List Value} (hb:base'≤base) (h:w.ownsRow base e size v n xs):w.ownsRow base' e size v n xs:=by
 refine ⟨h.1, ?_⟩
 rcases h.2 with h2 | ⟨g,cap,cur,e1,e2,r⟩
 ·exact .inl h2
 ·exact .inr ⟨g,cap,cur,e1,Nat.le_trans hb e2,r⟩
theorem zq.nil (w:World) (lo hi:Nat):zq w lo hi (.slice none 0 0) []:=
 ⟨[],World.ownsRow_nil _ _ _ _,fun g hg=>by simp [Value.ownBlock] at hg,.nil _⟩
theorem zq.frame {w w':World} {lo hi lo' hi':Nat} {kv:Value} {l:List Tree} (h:zq w lo hi kv l) (hf:∀ b,lo≤b→b<hi→w'.heap[b]?=w.heap[b]?) (hlo:lo'≤lo) (hhi:hi≤hi'):zq w' lo' hi' kv l:=by
 obtain ⟨cs,h1,h2,h3⟩:=h
 refine ⟨cs,nI hlo (gy h1 fun g hg=>hf g (h1.lt g hg).1 (h2 g hg)),fun g hg=>Nat.lt_of_lt_of_le (h2 g hg) hhi,yZ h3 _ (fun b hb=>⟨⟨⟨Nat.le_trans hlo hb.1.1,Nat.lt_of_lt_of_le hb.1.2 hhi⟩,hb.2⟩,hf b hb.1.1 hb.1.2⟩)⟩
theorem zq.wide {w:World} {lo hi lo' hi':Nat} {kv:Value} {l:List Tree} (h:zq w lo hi kv l) (hlo:lo'≤lo) (hhi:hi≤hi'):zq w lo' hi' kv l:=h.frame (fun _ _ _=>rfl) hlo hhi
theorem zq.form {w:World} {lo hi:Nat} {kv:Value} {l:List Tree} (h:zq w lo hi kv l):∃ ao cp,kv=.slice ao l.length cp:=by
 obtain ⟨cs,h1,_⟩:=h
 rcases h1.2 with ⟨h2,h3⟩ | ⟨g,cap,cur,h2,_⟩
 ·exact ⟨none,0,by rw [h2,h3]⟩
 ·exact ⟨_,cap,h2⟩
def Nd (w:World) (lo hi:Nat) (t:Tree) (c:List Value):Prop:=kR w t (fun b=>lo≤b∧b<hi) c
theorem Nd.mk {w:World} {lo hi:Nat} {kd nm ps:Int} {tx:List UInt8} {kids:List Tree} {kv:Value} (h:zq w lo hi kv kids):Nd w lo hi (.mk kd tx nm ps kids) (fM kd tx nm ps kv):=by
 obtain ⟨cs,h1,h2,h3⟩:=h
 have:=bM.cons (kd:=kd) (nm:=nm) (ps:=ps) (tx:=tx) (S:=fun b=>lo≤b∧b<hi) (nI (Nat.zero_le _) h1) (fun g hg=>⟨(h1.lt g hg).1,h2 g hg⟩) h3 (bM.nil _)
 rw [List.append_nil] at this
 exact this
theorem Nd.frame {w w':World} {lo hi lo' hi':Nat} {t:Tree} {c:List Value} (h:Nd w lo hi t c) (hf:∀ b,lo≤b→b<hi→w'.heap[b]?=w.heap[b]?) (hlo:lo'≤lo) (hhi:hi≤hi'):Nd w' lo' hi' t c:=
 jC h _ (fun b hb=>⟨⟨Nat.le_trans hlo hb.1,Nat.lt_of_lt_of_le hb.2 hhi⟩,hf b hb.1 hb.2⟩)
theorem gJ {w:World} {S:Nat→Prop} {l:List Tree} {a:List Value} (h:bM w l S a) {m:List Tree} {b:List Value} (k:bM w m S b):bM w (l++m) S (a++b):=by
 induction h with
 | nil S=>exact k
 | cons h1 h2 h3 h4 ih3 ih4=>rw [List.cons_append,List.append_assoc];exact .cons h1 h2 h3 (ih4 k)
theorem cells_one {w:World} {S:Nat→Prop} {t:Tree} {c:List Value} (h:kR w t S c):bM w [t] S c:=h
def Kids (w:World) (lo hi g:Nat) (l:List Tree) (cs:List Value):Prop:=bM w l (fun b=>(lo≤b∧b<hi)∧b≠g) cs
theorem Kids.nil {w:World} {lo hi g:Nat} : Kids w lo hi g [] []:=bM.nil _
theorem Kids.snoc {w:World} {lo hi g a b:Nat} {l:List Tree} {cs c:List Value} {t:Tree} (h:Kids w lo hi g l cs) (k:Nd w a b t c) (hlo:lo≤a) (hhi:b≤hi) (hg:g<a∨b≤g):Kids w lo hi g (l++[t]) (cs++c):=
 gJ h (cells_one (jC k _ (fun x hx=>⟨⟨⟨om,om⟩,om⟩,rfl⟩)))
theorem Kids.one {w:World} {lo hi g a b:Nat} {c:List Value} {t:Tree} (k:Nd w a b t c) (hlo:lo≤a) (hhi:b≤hi) (hg:g<a∨b≤g):Kids w lo hi g [t] c:=by
 have:=Kids.nil.snoc (w:=w) (g:=g) k hlo hhi hg;simpa using this
theorem zq.lit {w:World} {lo hi g:Nat} {l:List Tree} {cur:Array Value} {n:Nat} (hb:w.heap[g]?=some (.cells cur 25 (0,0))) (hn:n=l.length) (hs:cur.size=n*7) (hm:n≤1000000) (hlo:lo≤g) (hhi:g<hi) (h:Kids w lo hi g l cur.toList):zq w lo hi (.slice (some ⟨g,0,none⟩) n n) l:=by
 subst hn
 refine ⟨cur.toList,⟨by simpa using hs,.inr ⟨g,l.length,cur,rfl,hlo,hb,Nat.le_refl _,by unfold maxLen;omega,hs, ?_⟩⟩,fun x hx=>?_,yZ h _ (fun b hb=>⟨⟨hb.1, ?_⟩,rfl⟩)⟩
 ·rw [List.take_of_length_le (by simp [hs])]
 ·simp only [Value.ownBlock,Option.some.injEq] at hx;omega
 ·simp only [Value.ownBlock,ne_eq,Option.some.injEq];exact hb.2
structure Ctx where
 b:Nat
 tb:Nat
 cur:Array Value
 cap:Nat
 ts:List Tok
structure Ctx.Ok (C:Ctx):Prop where
 lt:C.tb<C.b
 row:C.cur.toList.take (C.ts.length*4)=yi C.ts
 size:C.cur.size=C.cap*4
 le:C.ts.length≤C.cap
 cap:C.cap≤maxLen
 last:∀ k,k<C.ts.length→(zp C.ts k).kind≠6→k+1<C.ts.length
 few:C.ts.length≤100000
def Ctx.p (C:Ctx):Value:=.pointer (some ⟨C.b,0,none⟩)
structure PS (w:World) (C:Ctx) (k:Nat) (h:Bool):Prop where
 blk:w.heap[C.b]?=some (.cells #[.slice (some ⟨C.tb,0,none⟩) C.ts.length C.cap,.int .i64 k,.bool h] 65)
 tk:w.heap[C.tb]?=some (.cells C.cur 85)
 kl:k<C.ts.length
theorem PS.lt {w:World} {C:Ctx} {k:Nat} {h:Bool} (p:PS w C k h):C.b<w.heap.size:=bG p.blk
theorem PS.alloc {w:World} {C:Ctx} {k:Nat} {h:Bool} (p:PS w C k h) (o:Obj):PS (w.alloc o) C k h:=⟨fF p.blk o,fF p.tk o,p.kl⟩
theorem PS.same {w w':World} {C:Ctx} {k:Nat} {h:Bool} (p:PS w C k h) (h1:w'.heap[C.b]?=w.heap[C.b]?) (h2:w'.heap[C.tb]?=w.heap[C.tb]?):PS w' C k h:=⟨h1.trans p.blk,h2.trans p.tk,p.kl⟩
theorem PS.cells {w:World} {C:Ctx} {k:Nat} {h:Bool} (p:PS w C k h) (ok:C.Ok) (j:Nat) (hj:j<C.ts.length) :
 w.cell? ⟨C.tb,j*4,none⟩=some (.int .i64 (zp C.ts j).kind)∧w.cell? ⟨C.tb,j*4+1,none⟩=some (.string ⟨(zp C.ts j).text.toArray⟩)∧w.cell? ⟨C.tb,j*4+2,none⟩=some (.int .i64 (zp C.ts j).num)∧w.cell? ⟨C.tb,j*4+3,none⟩=some (.int .i64 (zp C.ts j).pos):=by
 have hx:∀ i,i<4→w.cell? ⟨C.tb,j*4+i,none⟩=(fP (zp C.ts j))[i]?:=fun i hi=>by
  rw [zv p.tk]
  have e:yi C.ts=yi (C.ts.take j)++(fP (zp C.ts j)++yi (C.ts.drop (j+1))):=by
   have e0:zp C.ts j=C.ts[j]:=by simp [zp,List.getD,List.getElem?_eq_getElem hj]
   have e1:C.ts=C.ts.take j++C.ts[j]::C.ts.drop (j+1):=by rw [←List.drop_eq_getElem_cons hj,List.take_append_drop]
   rw [e0]
   unfold yi
   conv=>lhs;rw [e1]
   rw [List.flatMap_append,List.flatMap_cons]
  have e2:(yi (C.ts.take j)).length=j*4:=by rw [iR,List.length_take];congr 1;omega
  have e3:(fP (zp C.ts j)).length=4:=rfl
  have e4:C.cur[j*4+i]?=(C.cur.toList.take (C.ts.length*4))[j*4+i]?:=by
   rw [List.getElem?_take,if_pos om];simp
  rw [e4,ok.row,e,List.getElem?_append_right om,e2,Nat.add_sub_cancel_left,List.getElem?_append_left om]
 exact ⟨hx 0 om,hx 1 om,hx 2 om,hx 3 om⟩
def PBad (C:Ctx) (r:R) (w:World) (e:Ending) (w':World):Prop:=
 ∃ p rule,r=.bad p∧e=.panicked [{ v:=.iface 62 (.agg #[.string rule,.iface 42 (.agg #[.int .i64 p])]),recovered:=false }]∧w.grownBy w' (some C.b)
def iV (C:Ctx) (lo:Nat) (r:R) (h:Bool) (w:World) (e:Ending) (w':World):Prop:=
 (∃ kd tx nm ps kids s k' ao cp,r=.ok [.mk kd tx nm ps kids] s k'∧e=.returned (.agg #[.int .i64 kd,.string ⟨tx.toArray⟩,.int .i64 nm,.int .i64 ps,.string ⟨#[]⟩,.int .i64 0,.slice ao kids.length cp])∧zq w' lo w'.heap.size (.slice ao kids.length cp) kids∧PS w' C k' h∧w.grownBy w' (some C.b))∨PBad C r w e w'
def sQ (C:Ctx) (lo:Nat) (r:R) (h:Bool) (w:World) (e:Ending) (w':World):Prop:=
 (∃ kd tx nm ps kids s k' ao cp,r=.ok [.mk kd tx nm ps kids] s k'∧e=.returned (.tuple #[.agg #[.int .i64 kd,.string ⟨tx.toArray⟩,.int .i64 nm,.int .i64 ps,.string ⟨#[]⟩,.int .i64 0,.slice ao kids.length cp],.int .i64 s])∧zq w' lo w'.heap.size (.slice ao kids.length cp) kids∧PS w' C k' h∧w.grownBy w' (some C.b))∨PBad C r w e w'
def sH (C:Ctx) (lo:Nat) (r:R) (h:Bool) (w:World) (e:Ending) (w':World):Prop:=
 (∃ l s k' ao cp,r=.ok l s k'∧e=.returned (.slice ao l.length cp)∧zq w' lo w'.heap.size (.slice ao l.length cp) l∧PS w' C k' h∧w.grownBy w' (some C.b))∨PBad C r w e w'
theorem zo (w:World) (r:Option Nat):w.grownBy w r:=⟨rfl,rfl,rfl,Nat.le_refl _,fun _ _ _=>rfl⟩
theorem zl {a b c:World} {r:Option Nat} (h:a.grownBy b r) (k:b.grownBy c r):a.grownBy c r:=
 ⟨k.os.trans h.os,k.tape.trans h.tape,k.output.trans h.output,Nat.le_trans h.size k.size,fun i hi hr=>(k.block i (Nat.lt_of_lt_of_le hi h.size) hr).trans (h.block i hi hr)⟩
theorem zr {a b:World} {r:Option Nat} (h:a.grownBy b r) (o:Obj):a.grownBy (b.alloc o) r:=
 ⟨h.os,h.tape,h.output,by have:=h.size;simp;omega,fun i hi hr=>by have:=h.size;rw [Below.heap_alloc _ _ _ om];exact h.block i hi hr⟩
theorem zz {a b:World} {r:Option Nat} (h:a.grownBy b r):a.grownBy b.drew r:=⟨h.os,h.tape,h.output,h.size,h.block⟩
theorem yF {a b:World} {r:Option Nat} (h:a.grownBy b r) {p:Addr} (u:Value) (hp:a.heap.size≤p.block∨some p.block=r):a.grownBy (b.setCell p u) r:=
 ⟨h.os,h.tape,h.output,by have:=h.size;simp [World.setCell];omega,fun i hi hr=>by
  rw [Below.heap_setCell _ _ _ _ ?_];exact h.block i hi hr
  rintro rfl
  rcases hp with hp | hp
  ·omega
  ·exact hr hp⟩
theorem yP {a b c:World} {r:Option Nat} {v:Value} (h:a.grownBy b r) (k:b.grownBy c v.ownBlock) (hv:∀ x,v.ownBlock=some x→a.heap.size≤x):a.grownBy c r:=
 ⟨k.os.trans h.os,k.tape.trans h.tape,k.output.trans h.output,Nat.le_trans h.size k.size,fun i hi hr=>(k.block i (Nat.lt_of_lt_of_le hi h.size) (fun e=>by have:=hv i e.symm;omega)).trans (h.block i hi hr)⟩
def BL (w:World) (g:Nat) (o:Obj):Prop:=w.heap[g]?=some o
theorem BL.alloc {w:World} {g:Nat} {o:Obj} (h:BL w g o) (x:Obj):BL (w.alloc x) g o:=fF h x
theorem BL.drew {w:World} {g:Nat} {o:Obj} (h:BL w g o):BL w.drew g o:=h
theorem BL.set {w:World} {g:Nat} {o:Obj} {p:Addr} (h:BL w g o) (u:Value) (hp:p.block≠g):BL (w.setCell p u) g o:=(Below.heap_setCell _ _ _ _ om).trans h
theorem BL.new {w:World} {g:Nat} {o:Obj} (h:g=w.heap.size):BL (w.alloc o) g o:=yW w o h
theorem BL.grown {w w':World} {g r:Nat} {o:Obj} (h:BL w g o) (k:w.grownBy w' (some r)) (hr:g≠r):BL w' g o:=(k.block g (bG h) (by simpa using hr)).trans h
theorem BL.quiet {w w':World} {g:Nat} {o:Obj} (h:BL w g o) (k:w.grownBy w' none):BL w' g o:=(k.block g (bG h) zK).trans h
theorem BL.own {w w':World} {g:Nat} {o:Obj} {v:Value} (h:BL w g o) (k:w.grownBy w' v.ownBlock) (hr:some g≠v.ownBlock):BL w' g o:=(k.block g (bG h) hr).trans h
theorem BL.put {w:World} {g:Nat} {cs:Array Value} {t:TypeId} (h:BL w g (.cells cs t)) (j:Nat) (v:Value):BL (w.setCell ⟨g,j,none⟩ v) g (.cells (cs.setIfInBounds j v) t):=iE h j v
theorem BL.mF {w:World} {g j:Nat} {cs cs':Array Value} {t:TypeId} {v:Value} (h:BL w g (.cells cs t)) (hc:cs'=cs.setIfInBounds j v):BL (w.setCell ⟨g,j,none⟩ v) g (.cells cs' t):=by subst hc;exact h.put j v
theorem zq.named {w:World} {lo hi:Nat} {kv:Value} {l:List Tree} (h:zq w lo hi kv l):∃ lo',lo'=lo∧zq w lo' hi kv l:=⟨lo,rfl,h⟩
theorem isF {b:Bool} (h:b=false):(b=true)=False:=by simp [h]
theorem BL.lt {w:World} {g:Nat} {o:Obj} (h:BL w g o):g<w.heap.size:=bG h
theorem BL.cell {w:World} {g:Nat} {cs:Array Value} {t:TypeId} (h:BL w g (.cells cs t)) (j:Nat):w.cell? ⟨g,j,none⟩=cs[j]?:=zv h j
theorem BL.frozen {w:World} {g:Nat} {cs:Array Value} {t:TypeId} (h:BL w g (.cells cs t)) (j:Nat):w.frozen? ⟨g,j,none⟩=false:=yT h j
def Ag (lo hi:Nat) (w w':World):Prop:=∀ b,lo≤b→b<hi→w'.heap[b]?=w.heap[b]?
theorem Ag.refl (lo hi:Nat) (w:World):Ag lo hi w w:=fun _ _ _=>rfl
theorem Ag.trans {lo hi:Nat} {a b c:World} (h:Ag lo hi a b) (k:Ag lo hi b c):Ag lo hi a c:=fun x h1 h2=>(k x h1 h2).trans (h x h1 h2)
theorem Ag.drew {lo hi:Nat} {a b:World} (h:Ag lo hi a b):Ag lo hi a b.drew:=h
theorem Ag.alloc {lo hi:Nat} {a b:World} (h:Ag lo hi a b) (o:Obj) (hz:hi≤b.heap.size):Ag lo hi a (b.alloc o):=fun x h1 h2=>(Below.heap_alloc _ _ _ om).trans (h x h1 h2)
theorem Ag.set {lo hi:Nat} {a b:World} {p:Addr} (h:Ag lo hi a b) (u:Value) (hp:p.block<lo∨hi≤p.block):Ag lo hi a (b.setCell p u):=fun x h1 h2=>(Below.heap_setCell _ _ _ _ om).trans (h x h1 h2)
theorem Ag.grown {lo hi:Nat} {a b c:World} {r:Nat} (h:Ag lo hi a b) (k:b.grownBy c (some r)) (hz:hi≤b.heap.size) (hr:r<lo):Ag lo hi a c:=fun x h1 h2=>(k.block x om sp).trans (h x h1 h2)
theorem Ag.own {lo hi:Nat} {a b c:World} {v:Value} (h:Ag lo hi a b) (k:b.grownBy c v.ownBlock) (hz:hi≤b.heap.size) (hr:∀ x,v.ownBlock=some x→x<lo∨hi≤x):Ag lo hi a c:=fun x h1 h2=>(k.block x om (fun e=>by have:=hr x e.symm;omega)).trans (h x h1 h2)
theorem zq.ag {w w':World} {lo hi lo' hi':Nat} {kv:Value} {l:List Tree} (h:zq w lo hi kv l) (hf:Ag lo hi w w') (hlo:lo'≤lo) (hhi:hi≤hi'):zq w' lo' hi' kv l:=h.frame hf hlo hhi
theorem Nd.ag {w w':World} {lo hi:Nat} {t:Tree} {c:List Value} (h:Nd w lo hi t c) (hf:Ag lo hi w w'):Nd w' lo hi t c:=h.frame hf lr lr
theorem dU {w:World} {lo hi a b g:Nat} {t:Tree} {cur:Array Value} (hb:w.heap[g]?=some (.cells cur 25)) (hc:Nd w a b t cur.toList) (hs:cur.size=7) (hlo:lo≤g) (hla:lo≤a) (hhi:g<hi) (hbi:b≤hi) (hd:g<a∨b≤g):zq w lo hi (.slice (some ⟨g,0,none⟩) 1 1) [t]:=
 zq.lit hb rfl om om hlo hhi (Kids.one hc hla hbi hd)
end Go.Proofs.YtgbjpnnockoomaaGreatDoor
