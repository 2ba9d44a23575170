import Derived.Test.YtgbjpnnockoomaaGreatDoorPar2
import Derived.Deep.RegionHeld2
import Derived.Deep.LoopGhost
set_option maxRecDepth 100000
set_option maxHeartbeats 800000
namespace Go.Proofs.YtgbjpnnockoomaaGreatDoor
open Go.RowKit Lx Px
def iU (C:Ctx) (lo:Nat) (r:R) (h:Bool) (w:World) (e:Ending) (w':World):Prop:=
 (∃ kd tx nm ps kids k' ao cp,r=.ok [.mk kd tx nm ps kids] 1 k'∧e=.returned (.tuple #[.agg #[.int .i64 kd,.string ⟨tx.toArray⟩,.int .i64 nm,.int .i64 ps,.string ⟨#[]⟩,.int .i64 0,.slice ao kids.length cp],.bool true])∧zq w' lo w'.heap.size (.slice ao kids.length cp) kids∧PS w' C k' h∧w.grownBy w' (some C.b))∨
 (∃ k',r=.ok [] 0 k'∧e=.returned (.tuple #[.agg #[.int .i64 0,.string ⟨#[]⟩,.int .i64 0,.int .i64 0,.string ⟨#[]⟩,.int .i64 0,.slice none 0 0],.bool false])∧PS w' C k' h∧w.grownBy w' (some C.b))∨PBad C r w e w'
def FPost (C:Ctx) (lo:Nat) (r:R) (h:Bool) (w:World) (e:Ending) (w':World):Prop:=
 (∃ kd tx nm ps kids s k' ao cp,r=.ok [.mk kd tx nm ps kids] s k'∧e=.returned (.tuple #[.agg #[.int .i64 kd,.string ⟨tx.toArray⟩,.int .i64 nm,.int .i64 ps,.string ⟨#[]⟩,.int .i64 0,.slice ao kids.length cp],.bool (decide (s=1))])∧zq w' lo w'.heap.size (.slice ao kids.length cp) kids∧PS w' C k' h∧w.grownBy w' (some C.b))∨PBad C r w e w'
def lT (s:Int):List UInt8:=if s=1 then [114,101,99,118] else [115,101,110,100]
def HPost (C:Ctx) (lo:Nat) (r:R) (h:Bool) (w:World) (e:Ending) (w':World):Prop:=
 (∃ l s k' ao cp,r=.ok l s k'∧e=.returned (.tuple #[.string ⟨(lT s).toArray⟩,.slice ao l.length cp])∧zq w' lo w'.heap.size (.slice ao l.length cp) l∧PS w' C k' h∧w.grownBy w' (some C.b))∨PBad C r w e w'
def CN (C:Ctx) (F:Nat) (j:Job) (args:Array Value) (m:Nat):Prop:=∀ (h:Bool) (k:Nat) (w:World),PS w C k h→run C.ts m j h k≠.out→Calls Tryz.prog F args w (iV C w.heap.size (run C.ts m j h k) h w)
def CNt (C:Ctx) (F:Nat) (j:Job) (args:Array Value) (m:Nat):Prop:=∀ (h:Bool) (k:Nat) (w:World),PS w C k h→(zp C.ts k).kind≠6→run C.ts m j h k≠.out→Calls Tryz.prog F args w (iV C w.heap.size (run C.ts m j h k) h w)
def CS (C:Ctx) (F:Nat) (j:Job) (args:Array Value) (m:Nat):Prop:=∀ (h:Bool) (k:Nat) (w:World),PS w C k h→run C.ts m j h k≠.out→Calls Tryz.prog F args w (sQ C w.heap.size (run C.ts m j h k) h w)
def CSt (C:Ctx) (F:Nat) (j:Job) (args:Array Value) (m:Nat):Prop:=∀ (h:Bool) (k:Nat) (w:World),PS w C k h→(zp C.ts k).kind≠6→run C.ts m j h k≠.out→Calls Tryz.prog F args w (sQ C w.heap.size (run C.ts m j h k) h w)
def CL (C:Ctx) (F:Nat) (j:Job) (args:Array Value) (m:Nat):Prop:=∀ (h:Bool) (k:Nat) (w:World),PS w C k h→run C.ts m j h k≠.out→Calls Tryz.prog F args w (sH C w.heap.size (run C.ts m j h k) h w)
def CLI (C:Ctx) (F:Nat) (j:Job) (args:Array Value) (m:Nat) (I:World→Prop):Prop:=∀ (h:Bool) (k:Nat) (w:World),PS w C k h→I w→run C.ts m j h k≠.out→Calls Tryz.prog F args w (sH C w.heap.size (run C.ts m j h k) h w)
def CLd (C:Ctx) (F:Nat) (j:Job) (args:Array Value) (kids:List Tree) (ao:Option Addr) (cp:Nat) (Post:Ctx→Nat→R→Bool→World→Ending→World→Prop) (m:Nat):Prop:=∀ (h:Bool) (k:Nat) (w:World) (lo hi:Nat),PS w C k h→C.b<lo→hi≤w.heap.size→lo≤w.heap.size→zq w lo hi (.slice ao kids.length cp) kids→run C.ts m j h k≠.out→Calls Tryz.prog F args w (Post C lo (run C.ts m j h k) h w)
abbrev yA:Obj:=.cells #[.int .i64 0,.string ⟨#[]⟩,.int .i64 0,.int .i64 0,.string ⟨#[]⟩,.int .i64 0,.slice none 0 0] 25
abbrev NN (a b:Nat):Prop:=¬a=b∧¬b=a
abbrev yE (a:Int) (b:ByteArray) (c d:Int) (e:Option Addr) (n m:Nat):Obj:=.cells #[.int .i64 a,.string b,.int .i64 c,.int .i64 d,.string ⟨#[]⟩,.int .i64 0,.slice e n m] 25
abbrev tkO (t:Tok):Obj:=.cells #[.int .i64 t.kind,.string ⟨t.text.toArray⟩,.int .i64 t.num,.int .i64 t.pos] 85
structure Con (C:Ctx) (m:Nat):Prop where
 wtype:CN C 74 .wtype #[.pointer (some ⟨C.b,0,none⟩)] m
 result:CN C 77 .result #[.pointer (some ⟨C.b,0,none⟩)] m
 named:∀ kd,CN C 54 (.named kd) #[.pointer (some ⟨C.b,0,none⟩),.int .i64 kd] m
 listedT:CL C 75 (.listed .wtype) #[.pointer (some ⟨C.b,0,none⟩),.func (.func 74) #[.pointer (some ⟨C.b,0,none⟩)] #[]] m
 listedE:CL C 75 (.listed .expr) #[.pointer (some ⟨C.b,0,none⟩),.func (.func 126) #[.pointer (some ⟨C.b,0,none⟩)] #[]] m
 listedN:∀ bx,CLI C 75 (.listed .named) #[.pointer (some ⟨C.b,0,none⟩),.func (.func 76) #[] #[.pointer (some ⟨bx,0,none⟩)]] m (fun w=>BL w bx (.cells #[.pointer (some ⟨C.b,0,none⟩)] 86)∧bx≠C.b)
 function:CL C 56 .function #[.pointer (some ⟨C.b,0,none⟩)] m
 block:CN C 79 .block #[.pointer (some ⟨C.b,0,none⟩)] m
 stmts:CL C 89 (.stmts []) #[.pointer (some ⟨C.b,0,none⟩)] m
 stmt:CN C 99 .stmt #[.pointer (some ⟨C.b,0,none⟩)] m
 varStmt:CNt C 112 .varStmt #[.pointer (some ⟨C.b,0,none⟩)] m
 returnStmt:CNt C 116 .returnStmt #[.pointer (some ⟨C.b,0,none⟩)] m
 callStmt:∀ kd,CNt C 117 (.callStmt kd) #[.pointer (some ⟨C.b,0,none⟩),.int .i64 kd] m
 labelled:CNt C 119 .labelled #[.pointer (some ⟨C.b,0,none⟩)] m
 simple:CN C 120 .simple #[.pointer (some ⟨C.b,0,none⟩)] m
 acting:∀ kd tx nm ps kids s ao cp,CLd C 132 (.acting (.mk kd tx nm ps kids) s) #[.pointer (some ⟨C.b,0,none⟩),.agg #[.int .i64 kd,.string ⟨tx.toArray⟩,.int .i64 nm,.int .i64 ps,.string ⟨#[]⟩,.int .i64 0,.slice ao kids.length cp],.int .i64 s] kids ao cp iU m
 ifStmt:CNt C 113 .ifStmt #[.pointer (some ⟨C.b,0,none⟩)] m
 breakable:CN C 114 .breakable #[.pointer (some ⟨C.b,0,none⟩)] m
 forStmt:CNt C 127 .forStmt #[.pointer (some ⟨C.b,0,none⟩)] m
 forHead:CL C 138 .forHead #[.pointer (some ⟨C.b,0,none⟩)] m
 forLead:∀ (h:Bool) (k:Nat) (w:World),PS w C k h→run C.ts m .forLead h k≠.out→Calls Tryz.prog 151 #[.pointer (some ⟨C.b,0,none⟩)] w (FPost C w.heap.size (run C.ts m .forLead h k) h w)
 switchStmt:CNt C 128 .switchStmt #[.pointer (some ⟨C.b,0,none⟩)] m
 selectStmt:CNt C 129 .selectStmt #[.pointer (some ⟨C.b,0,none⟩)] m
 clausesF:CL C 139 (.clauses false) #[.pointer (some ⟨C.b,0,none⟩),.func (.func 140) #[.pointer (some ⟨C.b,0,none⟩)] #[]] m
 clausesT:CL C 139 (.clauses true) #[.pointer (some ⟨C.b,0,none⟩),.func (.func 141) #[.pointer (some ⟨C.b,0,none⟩)] #[]] m
 clause:CN C 140 .clause #[.pointer (some ⟨C.b,0,none⟩)] m
 clauseBlock:CN C 152 .clauseBlock #[.pointer (some ⟨C.b,0,none⟩)] m
 comm:CN C 141 .comm #[.pointer (some ⟨C.b,0,none⟩)] m
 commHead:∀ (h:Bool) (k:Nat) (w:World),PS w C k h→run C.ts m .commHead h k≠.out→Calls Tryz.prog 153 #[.pointer (some ⟨C.b,0,none⟩)] w (HPost C w.heap.size (run C.ts m .commHead h k) h w)
 expr:CN C 126 .expr #[.pointer (some ⟨C.b,0,none⟩)] m
 op:∀ least,1≤least→CN C 136 (.op least) #[.pointer (some ⟨C.b,0,none⟩),.int .i64 least] m
 opOf:∀ kd tx nm ps kids least ao cp,1≤least→CLd C 150 (.opOf (.mk kd tx nm ps kids) least) #[.pointer (some ⟨C.b,0,none⟩),.agg #[.int .i64 kd,.string ⟨tx.toArray⟩,.int .i64 nm,.int .i64 ps,.string ⟨#[]⟩,.int .i64 0,.slice ao kids.length cp],.int .i64 least] kids ao cp iV m
 unary:CN C 145 .unary #[.pointer (some ⟨C.b,0,none⟩)] m
 shaped:CS C 131 .shaped #[.pointer (some ⟨C.b,0,none⟩)] m
 primary:CS C 130 .primary #[.pointer (some ⟨C.b,0,none⟩)] m
 args:CL C 143 .args #[.pointer (some ⟨C.b,0,none⟩)] m
 bracketed:∀ kd tx nm ps kids pos ao cp,CLd C 144 (.bracketed (.mk kd tx nm ps kids) pos) #[.pointer (some ⟨C.b,0,none⟩),.agg #[.int .i64 kd,.string ⟨tx.toArray⟩,.int .i64 nm,.int .i64 ps,.string ⟨#[]⟩,.int .i64 0,.slice ao kids.length cp],.int .i64 pos] kids ao cp sQ m
 operand:CS C 142 .operand #[.pointer (some ⟨C.b,0,none⟩)] m
 wordOperand:CSt C 154 .wordOperand #[.pointer (some ⟨C.b,0,none⟩)] m
 builtinM:CNt C 162 (.builtin .makeArgs) #[.pointer (some ⟨C.b,0,none⟩),.func (.func 163) #[.pointer (some ⟨C.b,0,none⟩)] #[]] m
 builtinN:CNt C 162 (.builtin .newArgs) #[.pointer (some ⟨C.b,0,none⟩),.func (.func 164) #[.pointer (some ⟨C.b,0,none⟩)] #[]] m
 builtinA:CNt C 162 (.builtin .args) #[.pointer (some ⟨C.b,0,none⟩),.func (.func 143) #[.pointer (some ⟨C.b,0,none⟩)] #[]] m
 makeArgs:CL C 163 .makeArgs #[.pointer (some ⟨C.b,0,none⟩)] m
 newArgs:CL C 164 .newArgs #[.pointer (some ⟨C.b,0,none⟩)] m
 markOperand:CN C 155 .markOperand #[.pointer (some ⟨C.b,0,none⟩)] m
 bracedI:CL C 165 (.braced .initial) #[.pointer (some ⟨C.b,0,none⟩),.func (.func 166) #[.pointer (some ⟨C.b,0,none⟩)] #[]] m
 bracedE:CL C 165 (.braced .expr) #[.pointer (some ⟨C.b,0,none⟩),.func (.func 126) #[.pointer (some ⟨C.b,0,none⟩)] #[]] m
 initial:CN C 166 .initial #[.pointer (some ⟨C.b,0,none⟩)] m
 decl:CN C 29 .decl #[.pointer (some ⟨C.b,0,none⟩)] m
 typeDecl:CNt C 52 .typeDecl #[.pointer (some ⟨C.b,0,none⟩)] m
def All (C:Ctx) (n:Nat):Prop:=∀ m,m≤n→Con C m
theorem All.at {C:Ctx} {n:Nat} (h:All C n):Con C n:=h n (Nat.le_refl n)
theorem dH {ts:List Tok} {k:Nat} {a:UInt8} {l:List UInt8} (h:yI ts k=a::l):(zp ts k).kind≠6:=by
 intro h6
 unfold yI at h
 rw [if_neg om] at h
 cases h
theorem h3a {s a b c:List UInt8} (h:s=a):([a,b,c].contains s=true)=True:=by simp [h]
theorem h3b {s a b c:List UInt8} (h:s=b):([a,b,c].contains s=true)=True:=by simp [h]
theorem h3c {s a b c:List UInt8} (h:s=c):([a,b,c].contains s=true)=True:=by simp [h]
theorem h3n {s a b c:List UInt8} (h1:¬s=a) (h2:¬s=b) (h3:¬s=c):([a,b,c].contains s=true)=False:=by simp [h1,h2,h3]
theorem h2a {s a b:List UInt8} (h:s=a):([a,b].contains s=true)=True:=by simp [h]
theorem h2b {s a b:List UInt8} (h:s=b):([a,b].contains s=true)=True:=by simp [h]
theorem h2n {s a b:List UInt8} (h1:¬s=a) (h2:¬s=b):([a,b].contains s=true)=False:=by simp [h1,h2]
theorem zs {C:Ctx} {lo:Nat} {r:R} {h:Bool} {w w':World} {p:Int} {rule:ByteArray} (hr:r=.bad p) (hg:w.grownBy w' (some C.b)):iV C lo r h w (.panicked (brk rule p)) w':=.inr ⟨p,rule,hr,rfl,hg⟩
theorem yj {C:Ctx} {lo:Nat} {r:R} {h:Bool} {w w':World} {p:Int} {rule:ByteArray} (hr:r=.bad p) (hg:w.grownBy w' (some C.b)):sQ C lo r h w (.panicked (brk rule p)) w':=.inr ⟨p,rule,hr,rfl,hg⟩
theorem yK {C:Ctx} {lo:Nat} {r:R} {h:Bool} {w w':World} {p:Int} {rule:ByteArray} (hr:r=.bad p) (hg:w.grownBy w' (some C.b)):sH C lo r h w (.panicked (brk rule p)) w':=.inr ⟨p,rule,hr,rfl,hg⟩
theorem jl {C:Ctx} {lo:Nat} {r:R} {h:Bool} {w w':World} {p:Int} {rule:ByteArray} (hr:r=.bad p) (hg:w.grownBy w' (some C.b)):iU C lo r h w (.panicked (brk rule p)) w':=.inr (.inr ⟨p,rule,hr,rfl,hg⟩)
theorem lZ {C:Ctx} {lo:Nat} {r:R} {h:Bool} {w w':World} {p:Int} {rule:ByteArray} (hr:r=.bad p) (hg:w.grownBy w' (some C.b)):FPost C lo r h w (.panicked (brk rule p)) w':=.inr ⟨p,rule,hr,rfl,hg⟩
theorem iC {C:Ctx} {lo:Nat} {r:R} {h:Bool} {w w':World} {p:Int} {rule:ByteArray} (hr:r=.bad p) (hg:w.grownBy w' (some C.b)):HPost C lo r h w (.panicked (brk rule p)) w':=.inr ⟨p,rule,hr,rfl,hg⟩
theorem yB {C:Ctx} {lo hi:Nat} {r:R} {h:Bool} {w w':World} {kd nm ps s:Int} {tx:List UInt8} {kids:List Tree} {k':Nat} {kv:Value} (hr:r=.ok [.mk kd tx nm ps kids] s k') (hrow:zq w' lo hi kv kids) (hhi:hi≤w'.heap.size) (p:PS w' C k' h) (hg:w.grownBy w' (some C.b)) :
 iV C lo r h w (.returned (.agg #[.int .i64 kd,.string ⟨tx.toArray⟩,.int .i64 nm,.int .i64 ps,.string ⟨#[]⟩,.int .i64 0,kv])) w':=by
 obtain ⟨ao,cp,rfl⟩:=hrow.form
 exact .inl ⟨kd,tx,nm,ps,kids,s,k',ao,cp,hr,rfl,hrow.wide lr hhi,p,hg⟩
theorem yd {C:Ctx} {lo hi:Nat} {r:R} {h:Bool} {w w':World} {kd nm ps s:Int} {tx:List UInt8} {kids:List Tree} {k':Nat} {kv:Value} (hr:r=.ok [.mk kd tx nm ps kids] s k') (hrow:zq w' lo hi kv kids) (hhi:hi≤w'.heap.size) (p:PS w' C k' h) (hg:w.grownBy w' (some C.b)) :
 sQ C lo r h w (.returned (.tuple #[.agg #[.int .i64 kd,.string ⟨tx.toArray⟩,.int .i64 nm,.int .i64 ps,.string ⟨#[]⟩,.int .i64 0,kv],.int .i64 s])) w':=by
 obtain ⟨ao,cp,rfl⟩:=hrow.form
 exact .inl ⟨kd,tx,nm,ps,kids,s,k',ao,cp,hr,rfl,hrow.wide lr hhi,p,hg⟩
theorem yg {C:Ctx} {lo hi:Nat} {r:R} {h:Bool} {w w':World} {s:Int} {l:List Tree} {k':Nat} {kv:Value} (hr:r=.ok l s k') (hrow:zq w' lo hi kv l) (hhi:hi≤w'.heap.size) (p:PS w' C k' h) (hg:w.grownBy w' (some C.b)) :
 sH C lo r h w (.returned kv) w':=by
 obtain ⟨ao,cp,rfl⟩:=hrow.form
 exact .inl ⟨l,s,k',ao,cp,hr,rfl,hrow.wide lr hhi,p,hg⟩
open Go.RowKit Lx Px
set_option linter.unusedSimpArgs false in
theorem iT (C:Ctx) (ok:C.Ok) (F:Nat) (first cap:Array Value) (hen:∀ (args:Array Value) (w:World),(callFunc F args).run Tryz.prog w=.ok (.enter F args) w) (r:R) (hd h:Bool) (k:Nat) (w:World) (p:PS w C k h)
 (hc:∀ w0,w.grownBy w0 (some C.b)→PS w0 C k hd→Calls Tryz.prog F (first++cap) w0 (iV C w0.heap.size r hd w0)) :
 Calls Tryz.prog 78 #[.pointer (some ⟨C.b,0,none⟩),.bool hd,.func (.func F) first cap] w (iV C w.heap.size r h w):=by
 obtain ⟨c0,c1,c2,f1,f2,hk,hfew,hcap,hlt,htl,htb⟩:=p.facts ok
 have HC:=zm (hc ((w.setCell ⟨C.b,2,none⟩ (.bool hd)).alloc yA) zC (((p.set2 ok)).alloc yA))
 clear hc
 go_enter Tryz.func78,Tryz.ntmps78
 go_wp2_with fail
 refine (zk HC).mono ?_
 rintro e w1 hp
 rcases hp with ⟨kd,tx,nm,ps,kids,s,k2,ao,cp,hq,rfl,hrow,p1,hg⟩ | ⟨p',rule,hq,rfl,hg⟩
 ·have G1:w.grownBy w1 (some C.b):=zl zC hg
  have hz1:=hg.size
  simp at hz1
  have b1:BL w1 w.heap.size yA:=(BL.new (by simp [World.setCell])).grown hg om
  obtain ⟨c0',c1',c2',f1',f2',hk',_,_,hlt',htl',_⟩:=p1.facts ok
  have hl1:=b1.lt
  have zc:=b1.cell
  have fz:=b1.frozen
  obtain ⟨lo1,hlo1,dU⟩:=hrow.named
  simp at hlo1
  have HQ:=zm hq
  have n1:¬C.b=w.heap.size:=om
  have n2:¬w.heap.size=C.b:=om
  have n3:¬C.b=w1.heap.size:=om
  have n4:¬w1.heap.size=C.b:=om
  have n5:¬w.heap.size=w1.heap.size:=om
  have n6:¬w1.heap.size=w.heap.size:=om
  clear hg hrow hq c0 c1 c2 f1 f2 hk b1
  go_wp2
  refine bodyPost_ret (v:=.agg #[.int .i64 kd,.string ⟨tx.toArray⟩,.int .i64 nm,.int .i64 ps,.string ⟨#[]⟩,.int .i64 0,.slice ao kids.length cp]) (by simp [results,Tryz.results78,go_sem, *]) rfl (yB (hi:=w1.heap.size) (s:=s) (k':=k2) (tx:=tx) (kids:=kids) (zk HQ) (dU.ag zL oz lr) oz ?_ ?_)
  ·(repeat (first | with_reducible assumption | with_reducible refine PS.drew ?_ | with_reducible refine PS.alloc ?_ _ | with_reducible refine PS.over ?_ ok _ zI | with_reducible exact PS.set2 za ok))
  ·(repeat (first | with_reducible assumption | with_reducible exact zo _ _ | with_reducible refine zz ?_ | with_reducible refine zr ?_ _ | (with_reducible refine yF ?_ _ zD)))
 ·exact ⟨rfl,zs hq (zl zC hg)⟩
set_option linter.unusedSimpArgs false in
theorem ou (C:Ctx) (ok:C.Ok) (F:Nat) (first cap:Array Value) (hen:∀ (args:Array Value) (w:World),(callFunc F args).run Tryz.prog w=.ok (.enter F args) w) (r:R) (hd h:Bool) (k:Nat) (w:World) (p:PS w C k h)
 (hc:∀ w0,w.grownBy w0 (some C.b)→PS w0 C k hd→Calls Tryz.prog F (first++cap) w0 (sH C w0.heap.size r hd w0)) :
 Calls Tryz.prog 137 #[.pointer (some ⟨C.b,0,none⟩),.bool hd,.func (.func F) first cap] w (sH C w.heap.size r h w):=by
 obtain ⟨c0,c1,c2,f1,f2,hk,hfew,hcap,hlt,htl,htb⟩:=p.facts ok
 have HC:=zm (hc (w.setCell ⟨C.b,2,none⟩ (.bool hd)) zC (p.set2 ok))
 clear hc
 go_enter Tryz.func137,Tryz.ntmps137
 go_wp2_with fail
 refine (zk HC).mono ?_
 rintro e w1 hp
 rcases hp with ⟨l,s,k2,ao,cp,hq,rfl,hrow,p1,hg⟩ | ⟨p',rule,hq,rfl,hg⟩
 ·have G1:w.grownBy w1 (some C.b):=zl zC hg
  have hz1:=hg.size
  simp at hz1
  obtain ⟨c0',c1',c2',f1',f2',hk',_,_,hlt',htl',_⟩:=p1.facts ok
  obtain ⟨lo1,hlo1,dU⟩:=hrow.named
  simp at hlo1
  have HQ:=zm hq
  clear hg hrow hq c0 c1 c2 f1 f2 hk
  go_wp2
  go_ret
  refine yg (hi:=w1.heap.size) (s:=s) (k':=k2) (l:=l) (zk HQ) (dU.ag zL oz lr) oz ?_ ?_
  ·(repeat (first | with_reducible assumption | with_reducible refine PS.drew ?_ | with_reducible refine PS.alloc ?_ _ | with_reducible refine PS.over ?_ ok _ zI | with_reducible exact PS.set2 za ok))
  ·(repeat (first | with_reducible assumption | with_reducible exact zo _ _ | with_reducible refine zz ?_ | with_reducible refine zr ?_ _ | (with_reducible refine yF ?_ _ zD)))
 ·exact ⟨rfl,yK hq (zl zC hg)⟩
theorem jq {f:FuncId} {fn:Func} (hf:Tryz.prog.funcs[f]?=some fn) (hname:(fn.name== "runtime.NumGoroutine")=false) (hb:fn.body.isSome=true) (args:Array Value) (w:World) :
 (callFunc f args).run Tryz.prog w=.ok (.enter f args) w:=by
 obtain ⟨c,hc⟩:=Option.isSome_iff_exists.1 hb
 have h1:fn.name≠ "runtime.NumGoroutine":=by simpa using hname
 simp [callFunc,hf,h1,hc]
theorem en75:∀ (args:Array Value) (w:World),(callFunc 79 args).run Tryz.prog w=.ok (.enter 79 args) w:=jq Tryz.func79 zG zG
theorem uI:∀ (args:Array Value) (w:World),(callFunc 126 args).run Tryz.prog w=.ok (.enter 126 args) w:=jq Tryz.func126 zG zG
theorem en103:∀ (args:Array Value) (w:World),(callFunc 138 args).run Tryz.prog w=.ok (.enter 138 args) w:=jq Tryz.func138 zG zG
theorem en108:∀ (args:Array Value) (w:World),(callFunc 143 args).run Tryz.prog w=.ok (.enter 143 args) w:=jq Tryz.func143 zG zG
theorem en119:∀ (args:Array Value) (w:World),(callFunc 163 args).run Tryz.prog w=.ok (.enter 163 args) w:=jq Tryz.func163 zG zG
theorem en120:∀ (args:Array Value) (w:World),(callFunc 164 args).run Tryz.prog w=.ok (.enter 164 args) w:=jq Tryz.func164 zG zG
open Go.RowKit Lx Px
set_option linter.unusedSimpArgs false in
theorem ku (C:Ctx) (ok:C.Ok) (k:Nat) (h:Bool) (w:World) (p:PS w C k h) :
 Calls Tryz.prog 98 #[.pointer (some ⟨C.b,0,none⟩)] w fun e w'=>e=.returned (.bool (behind C.ts k))∧w.grownBy w' none:=by
 have HT:=zm (isL C ok k h w w.heap.size [[59],[125],[99,97,115,101],[100,101,102,97,117,108,116]] dc p rfl)
 go_enter Tryz.func98,Tryz.ntmps98
 go_wp2_with fail
 refine (zk HT).mono ?_
 rintro e w1 ⟨rfl,hgr⟩
 go_wp2
 go_ret
 exact ⟨rfl,hgr⟩
theorem oD {a b:List UInt8} (h:¬a=b):(a==b)=false:=beq_eq_false_iff_ne.2 h
set_option linter.unusedSimpArgs false in
theorem nV (s:List UInt8) (w:World):Calls Tryz.prog 161 #[.string ⟨s.toArray⟩] w fun e w'=>e=.returned (.int .i64 (aF s))∧w.grownBy w' none:=by
 have Z:=zo w none
 by_cases h0:s=[124,124]
 ·subst h0
  go_enter Tryz.func161,Tryz.ntmps161
  go_wp2
  go_ret
  exact ⟨rfl,Z⟩
 by_cases h1:s=[38,38]
 ·subst h1
  go_enter Tryz.func161,Tryz.ntmps161
  go_wp2
  go_ret
  exact ⟨rfl,Z⟩
 by_cases h2:s=[61,61]
 ·subst h2
  go_enter Tryz.func161,Tryz.ntmps161
  go_wp2
  go_ret
  exact ⟨rfl,Z⟩
 by_cases h3:s=[33,61]
 ·subst h3
  go_enter Tryz.func161,Tryz.ntmps161
  go_wp2
  go_ret
  exact ⟨rfl,Z⟩
 by_cases h4:s=[60]
 ·subst h4
  go_enter Tryz.func161,Tryz.ntmps161
  go_wp2
  go_ret
  exact ⟨rfl,Z⟩
 by_cases h5:s=[60,61]
 ·subst h5
  go_enter Tryz.func161,Tryz.ntmps161
  go_wp2
  go_ret
  exact ⟨rfl,Z⟩
 by_cases h6:s=[62]
 ·subst h6
  go_enter Tryz.func161,Tryz.ntmps161
  go_wp2
  go_ret
  exact ⟨rfl,Z⟩
 by_cases h7:s=[62,61]
 ·subst h7
  go_enter Tryz.func161,Tryz.ntmps161
  go_wp2
  go_ret
  exact ⟨rfl,Z⟩
 by_cases h8:s=[43]
 ·subst h8
  go_enter Tryz.func161,Tryz.ntmps161
  go_wp2
  go_ret
  exact ⟨rfl,Z⟩
 by_cases h9:s=[45]
 ·subst h9
  go_enter Tryz.func161,Tryz.ntmps161
  go_wp2
  go_ret
  exact ⟨rfl,Z⟩
 by_cases h10:s=[42]
 ·subst h10
  go_enter Tryz.func161,Tryz.ntmps161
  go_wp2
  go_ret
  exact ⟨rfl,Z⟩
 by_cases h11:s=[47]
 ·subst h11
  go_enter Tryz.func161,Tryz.ntmps161
  go_wp2
  go_ret
  exact ⟨rfl,Z⟩
 by_cases h12:s=[37]
 ·subst h12
  go_enter Tryz.func161,Tryz.ntmps161
  go_wp2
  go_ret
  exact ⟨rfl,Z⟩
 have hs:aF s=0:=by
  unfold aF
  simp [h0,h1,h2,h3,h4,h5,h6,h7,h8,h9,h10,h11,h12]
 rw [hs]
 clear hs
 have b0:=oD h0
 have b1:=oD h1
 have b2:=oD h2
 have b3:=oD h3
 have b4:=oD h4
 have b5:=oD h5
 have b6:=oD h6
 have b7:=oD h7
 have b8:=oD h8
 have b9:=oD h9
 have b10:=oD h10
 have b11:=oD h11
 have b12:=oD h12
 clear h0 h1 h2 h3 h4 h5 h6 h7 h8 h9 h10 h11 h12
 go_enter Tryz.func161,Tryz.ntmps161
 go_wp2
 go_ret
 exact ⟨rfl,Z⟩
set_option linter.unusedSimpArgs false in
theorem kN (s:Int) (w:World):Calls Tryz.prog 133 #[.int .i64 s] w fun e w'=>e=.returned (.bool (stands s))∧w.grownBy w' none:=by
 have Z:=zo w none
 have hs:Hid (stands s=(s==5||s==1)):=by unfold stands;rfl
 rw [zk hs]
 by_cases h5:s=5
 ·subst h5
  go_enter Tryz.func133,Tryz.ntmps133
  go_wp2
  go_ret
  exact ⟨rfl,Z⟩
 ·have b5:(s==5)=false:=by simp [h5]
  go_enter Tryz.func133,Tryz.ntmps133
  go_wp2
  go_ret
  exact ⟨by simp [b5],Z⟩
set_option linter.unusedSimpArgs false in
theorem sU (kd nm ps:Int) (tx:List UInt8) (kids:List Tree) (ao:Option Addr) (cp lo hi:Nat) (w:World) (hlo:lo≤w.heap.size) (hhi:hi≤w.heap.size) (row:zq w lo hi (.slice ao kids.length cp) kids) :
 Calls Tryz.prog 134 #[.agg #[.int .i64 kd,.string ⟨tx.toArray⟩,.int .i64 nm,.int .i64 ps,.string ⟨#[]⟩,.int .i64 0,.slice ao kids.length cp]] w fun e w'=>∃ g,e=.returned (.agg #[.int .i64 34,.string ⟨#[]⟩,.int .i64 0,.int .i64 ps,.string ⟨#[]⟩,.int .i64 0,.slice (some ⟨g,0,none⟩) 1 1])∧zq w' lo w'.heap.size (.slice (some ⟨g,0,none⟩) 1 1) [.mk kd tx nm ps kids]∧w.grownBy w' none:=by
 go_enter Tryz.func134,Tryz.ntmps134
 go_wp2
 refine bodyPost_ret (v:=.agg #[.int .i64 34,.string ⟨#[]⟩,.int .i64 0,.int .i64 ps,.string ⟨#[]⟩,.int .i64 0,.slice (some ⟨w.heap.size+1+1,0,none⟩) 1 1]) (by simp [results,Tryz.results134,go_sem, *]) rfl ⟨w.heap.size+1+1,rfl, ?_, ?_⟩
 ·exact dU (cur:=#[.int .i64 kd,.string ⟨tx.toArray⟩,.int .i64 nm,.int .i64 ps,.string ⟨#[]⟩,.int .i64 0,.slice ao kids.length cp]) (BL.new oz) ((Nd.mk (kd:=kd) (tx:=tx) (nm:=nm) (ps:=ps) row).ag zL) rfl oz lr oz oz (.inr oz)
 ·(repeat (first | with_reducible assumption | with_reducible exact zo _ _ | with_reducible refine zz ?_ | with_reducible refine zr ?_ _ | (with_reducible refine yF ?_ _ zD)))
set_option linter.unusedSimpArgs false in
theorem qF (C:Ctx) (ok:C.Ok) (k:Nat) (h:Bool) (w:World) (p:PS w C k h) :
 Calls Tryz.prog 118 #[.pointer (some ⟨C.b,0,none⟩)] w fun e w'=>e=.returned (.bool (labels C.ts k))∧w.grownBy w' none:=by
 have htf0:=dw
 have HT:=zm (zy C ok k h w p)
 by_cases h1:(zp C.ts k).kind=1
 ·have hk1:k+1<C.ts.length:=ok.last k p.kl om
  by_cases h5:(zp C.ts (k+1)).kind=5
  ·by_cases h58:(zp C.ts (k+1)).text=[58]
   ·skip
    have HL:labels C.ts k=true:=by unfold labels;simp [h1,h5,h58]
    rw [HL]
    clear HL
    have b1:((zp C.ts k).kind==1)=true:=by simp [h1]
    have b5:((zp C.ts (k+1)).kind==5)=true:=by simp [h5]
    have b58:((zp C.ts (k+1)).text==[58])=true:=by simp [h58]
    clear h1 h5 h58
    go_enter Tryz.func118,Tryz.ntmps118
    go_wp2_with fail
    refine (zk HT).mono ?_
    rintro e w1 ⟨rfl,hg⟩
    have p1:=p.quiet hg
    obtain ⟨d0,d1,d2,d3⟩:=p1.cells ok (k+1) hk1
    obtain ⟨c0,c1,c2,f1,f2,hk,hfew,hcap,hlt,htl,htb⟩:=p1.facts ok
    go_wp2
    go_region
    all_goals
     go_wp2
     go_ret
     refine ⟨rfl, ?_⟩
     (repeat (first | with_reducible assumption | with_reducible exact zo _ _ | with_reducible refine zz ?_ | with_reducible refine zr ?_ _ | (with_reducible refine yF ?_ _ zD)))
   ·skip
    have HL:labels C.ts k=false:=by unfold labels;simp [h1,h5,h58]
    rw [HL]
    clear HL
    have b1:((zp C.ts k).kind==1)=true:=by simp [h1]
    have b5:((zp C.ts (k+1)).kind==5)=true:=by simp [h5]
    have b58:((zp C.ts (k+1)).text==[58])=false:=by simp [h58]
    clear h1 h5 h58
    go_enter Tryz.func118,Tryz.ntmps118
    go_wp2_with fail
    refine (zk HT).mono ?_
    rintro e w1 ⟨rfl,hg⟩
    have p1:=p.quiet hg
    obtain ⟨d0,d1,d2,d3⟩:=p1.cells ok (k+1) hk1
    obtain ⟨c0,c1,c2,f1,f2,hk,hfew,hcap,hlt,htl,htb⟩:=p1.facts ok
    go_wp2
    go_region
    all_goals
     go_wp2
     go_ret
     refine ⟨rfl, ?_⟩
     (repeat (first | with_reducible assumption | with_reducible exact zo _ _ | with_reducible refine zz ?_ | with_reducible refine zr ?_ _ | (with_reducible refine yF ?_ _ zD)))
  ·skip
   have HL:labels C.ts k=false:=by unfold labels;simp [h1,h5]
   rw [HL]
   clear HL
   have b1:((zp C.ts k).kind==1)=true:=by simp [h1]
   have b5:((zp C.ts (k+1)).kind==5)=false:=by simp [h5]
   clear h1 h5
   go_enter Tryz.func118,Tryz.ntmps118
   go_wp2_with fail
   refine (zk HT).mono ?_
   rintro e w1 ⟨rfl,hg⟩
   have p1:=p.quiet hg
   obtain ⟨d0,d1,d2,d3⟩:=p1.cells ok (k+1) hk1
   obtain ⟨c0,c1,c2,f1,f2,hk,hfew,hcap,hlt,htl,htb⟩:=p1.facts ok
   go_wp2
   go_region
   all_goals
    go_wp2
    go_ret
    refine ⟨rfl, ?_⟩
    (repeat (first | with_reducible assumption | with_reducible exact zo _ _ | with_reducible refine zz ?_ | with_reducible refine zr ?_ _ | (with_reducible refine yF ?_ _ zD)))
 ·have HL:labels C.ts k=false:=by unfold labels;simp [h1]
  rw [HL]
  clear HL
  have b1:((zp C.ts k).kind==1)=false:=by simp [h1]
  clear h1
  go_enter Tryz.func118,Tryz.ntmps118
  go_wp2_with fail
  refine (zk HT).mono ?_
  rintro e w1 ⟨rfl,hg⟩
  go_wp2
  go_ret
  exact ⟨rfl,hg⟩
end Go.Proofs.YtgbjpnnockoomaaGreatDoor
