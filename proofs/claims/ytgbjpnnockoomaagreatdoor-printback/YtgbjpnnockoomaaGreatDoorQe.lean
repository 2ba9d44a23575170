import Derived.Test.YtgbjpnnockoomaaGreatDoorSteps
import Derived.Test.YtgbjpnnockoomaaGreatDoorQg
import Derived.Test.YtgbjpnnockoomaaGreatDoorQr4
import Derived.Test.YtgbjpnnockoomaaGreatDoorQr3
import Derived.Test.YtgbjpnnockoomaaGreatDoorQr7
import Derived.Test.YtgbjpnnockoomaaGreatDoorQr8
import Derived.Test.YtgbjpnnockoomaaGreatDoorQr6
import Derived.Test.YtgbjpnnockoomaaGreatDoorQr1
import Derived.Test.YtgbjpnnockoomaaGreatDoorQr2
import Derived.Test.YtgbjpnnockoomaaGreatDoorQrb
import Derived.Test.YtgbjpnnockoomaaGreatDoorQr5
import Derived.Test.YtgbjpnnockoomaaGreatDoorQrc
import Derived.Test.YtgbjpnnockoomaaGreatDoorQr0
import Derived.Test.YtgbjpnnockoomaaGreatDoorQr9
import Derived.Defers
import Derived.Recover
import Derived.Test.YtgbjpnnockoomaaGreatDoorScanX
import Derived.LaidEql
import Derived.Stop.Asserts
import Derived.RowKitTokens
set_option linter.unusedVariables false
set_option linter.unusedSimpArgs false
set_option maxHeartbeats 4000000
set_option maxRecDepth 100000
namespace Go.Proofs.YtgbjpnnockoomaaGreatDoor.Px
open Lx
def one:Job→Bool
 | .listed _=>false | .listMore _ _=>false | .function=>false | .stmts _=>false | .acting _ _=>false | .forHead=>false | .clauses _=>false | .clausesMore _ _=>false | .caseMore _=>false | .commHead=>false | .args=>false | .makeArgs=>false | .newArgs=>false | .braced _=>false | .bracedMore _ _=>false | .fieldsMore _=>false
 | _=>true
def rank:Job→Nat
 | .wtype=>1 | .result=>2 | .named _=>2 | .primMore _ _=>1 | .opOf _ _=>1 | .listMore _ _=>1 | .acting _ _=>1 | .caseMore _=>1
 | .builtin _=>2 | .wordOperand=>3 | .markOperand=>3 | .operand=>4 | .primary=>5 | .shaped=>6 | .unary=>7 | .op _=>8 | .expr=>9 | .initial=>1
 | .listed _=>10 | .args=>11 | .bracketed _ _=>10 | .makeArgs=>2 | .newArgs=>1 | .bracedMore _ _=>10 | .braced _=>1
 | .function=>1 | .block=>1 | .clauseBlock=>1 | .simple=>8 | .forLead=>8 | .forHead=>10
 | .ifStmt=>10 | .varStmt=>10 | .returnStmt=>10 | .callStmt _=>10 | .labelled=>10 | .forStmt=>11 | .switchStmt=>11 | .selectStmt=>11 | .breakable=>12 | .stmt=>13 | .stmts _=>14
 | .clauses _=>1 | .clause=>2 | .comm=>2 | .clausesMore _ _=>3 | .commHead=>10 | .typeDecl=>1 | .decl=>2 | .fieldsMore _=>3 | .fileMore _=>3
def Good:Job→Prop
 | .op least=>1≤least
 | .opOf _ least=>1≤least
 | .builtin r=>r=.makeArgs∨r=.newArgs∨r=.args
 | _=>True
def need:Job→Prop
 | .clause=>True | .comm=>True | _=>False
def act:Job→Prop
 | .acting _ _=>True | _=>False
def PJ (N:Nat) (j:Job) (k:Nat) (l:List Tree) (s:Int) (k':Nat):Prop:=k+st j≤k'∧(one j=true→l.length=1)∧(act j→s=1→l.length=1)∧(need j→k<N)
def G (P:List Tree→Int→Nat→Prop) (r:R):Prop:=r≠.out∧∀ l s k',r=.ok l s k'→P l s k'
section
variable {P Q : List Tree → Int → Nat → Prop} {ts : List Tok}
theorem live_ok {l:List Tree} {s:Int} {k:Nat} (h:P l s k):G P (.ok l s k):=⟨by simp,fun _ _ _ e=>by cases e;exact h⟩
theorem lG {p:Int} : G P (.bad p):=⟨by simp,fun _ _ _ e=>by cases e⟩
theorem iq {c:Prop} [Decidable c] {a b:R} (h1:c→G P a) (h2:¬c→G P b):G P (if c then a else b):=by
 by_cases h:c
 ·rw [if_pos h];exact h1 h
 ·rw [if_neg h];exact h2 h
theorem uU {k:Nat} (h:(zp ts k).kind≠6):k<ts.length:=by
 apply Decidable.byContradiction
 intro hn
 apply h
 unfold zp
 rw [List.getD_eq_getElem?_getD,List.getElem?_eq_none om]
 rfl
theorem lt_text {k:Nat} (h:(zp ts k).text≠[]):k<ts.length:=by
 apply Decidable.byContradiction
 intro hn
 apply h
 unfold zp
 rw [List.getD_eq_getElem?_getD,List.getElem?_eq_none om]
 rfl
theorem uV {k:Nat} (h:yI ts k≠[]):k<ts.length:=by
 unfold yI at h
 split at h
 ·exact lt_text h
 ·exact absurd rfl h
theorem lt_is {k:Nat} {l:List (List UInt8)} (h:yb ts k l=true):k<ts.length:=by
 unfold yb at h
 simp only [Bool.and_eq_true,Bool.not_eq_true',List.isEmpty_eq_false_iff] at h
 exact uV h.1
theorem live_is {k:Nat} {l:List (List UInt8)} {a b:R} (h1:k<ts.length→G P a) (h2:G P b):G P (if yb ts k l=true then a else b):=iq (fun h=>h1 (lt_is h)) (fun _=>h2)
theorem live_sign {k:Nat} {c:UInt8} {l:List UInt8} {a b:R} (h1:k<ts.length→G P a) (h2:G P b):G P (if yI ts k=c::l then a else b):=iq (fun h=>h1 (uV (by rw [h];simp))) (fun _=>h2)
theorem live_text {k:Nat} {c:UInt8} {l:List UInt8} {a b:R} (h1:k<ts.length→G P a) (h2:G P b):G P (if (zp ts k).text=c::l then a else b):=iq (fun h=>h1 (lt_text (by rw [h];simp))) (fun _=>h2)
theorem live_and {c:Prop} [Decidable c] {k:Nat} {l:List (List UInt8)} {a b:R} (h1:k<ts.length→G P a) (h2:G P b):G P (if c∧yb ts k l=true then a else b):=iq (fun h=>h1 (lt_is h.2)) (fun _=>h2)
theorem live_want {k:Nat} {s:List UInt8} {f:Tok→Nat→R} (h:k<ts.length→G P (f (zp ts k) (k+1))):G P (want ts k s f):=iq (fun q=>h (lt_is q)) (fun _=>lG)
theorem live_name {k:Nat} {f:Tok→Nat→R} (h:k<ts.length→G P (f (zp ts k) (k+1))):G P (bI ts k f):=iq (fun q=>h (uU om)) (fun _=>lG)
theorem live_bind {r:R} {f:List Tree→Int→Nat→R} (h:G Q r) (k:∀ l s k',Q l s k'→G P (f l s k')):G P (r.bind f):=by
 cases r with
 | ok l s k'=>exact k l s k' (h.2 l s k' rfl)
 | bad p=>exact lG
 | out=>exact absurd rfl h.1
theorem live_bind1 {r:R} {N k:Nat} {j:Job} {f:Tree→Int→Nat→R} (h:G (PJ N j k) r) (hj:one j=true) (g:∀ t s k',PJ N j k [t] s k'→G P (f t s k')):G P (r.ax f):=by
 cases r with
 | ok l s k'=>
   have q:=h.2 l s k' rfl
   have ql:=q.2.1 hj
   match l,q,ql with
   | [t],q,_=>exact g t s k' q
 | bad p=>exact lG
 | out=>exact absurd rfl h.1
theorem live_tail {r:R} (h:G Q r) (k:∀ l s k',Q l s k'→P l s k'):G P r:=⟨h.1,fun l s k' e=>k l s k' (h.2 l s k' e)⟩
end
open Lx
theorem strength_ge (s:List UInt8):0≤aF s:=by
 unfold aF
 repeat' split
 all_goals decide
section
variable {P : List Tree → Int → Nat → Prop} {ts : List Tok}
theorem live_end {k:Nat} {a b:R} (h1:G P a) (h2:k<ts.length→G P b):G P (if (zp ts k).kind=6 then a else b):=iq (fun _=>h1) (fun h=>h2 (uU h))
theorem live_one {k:Nat} {a b:R} (h1:k<ts.length→G P a) (h2:G P b):G P (if (zp ts k).kind=1 then a else b):=iq (fun h=>h1 (uU om)) (fun _=>h2)
theorem live_str {k:Nat} {least:Int} {a b:R} (hl:1≤least) (h1:k<ts.length→G P a) (h2:G P b):G P (if least≤aF (yI ts k) then a else b):=by
 refine iq (fun h=>h1 (uV fun e=>?_)) (fun _=>h2)
 rw [e] at h
 have:aF []=0:=by decide
 omega
end
theorem step_live (ts:List Tok) (rec:Job→Bool→Nat→R) (j:Job) (h:Bool) (k:Nat) (hg:Good j) (ih:∀ j' h' k',Good j'→64*(ts.length-k')+rank j'<64*(ts.length-k)+rank j→G (PJ ts.length j' k') (rec j' h' k')):G (PJ ts.length j k) (step ts rec j h k):=by
 have q1:∀ it:It,st it.job=0:=by intro it;cases it <;> rfl
 have q2:∀ it:It,one it.job=true:=by intro it;cases it <;> rfl
 have q3:∀ it:It,Good it.job:=by intro it;cases it <;> trivial
 have q4:∀ it:It,rank it.job≤9:=by intro it;cases it <;> decide
 cases j
 all_goals
  simp only [step,bK,fB,fH,bF,yo,bJ,gW,gm,aP,dn,bC,dB,dD,dN,yO,cu,aN,dQ,yY,aZ,yt,bP,dJ,yu,dS,bY,aX,gZ,yl,fOp,jy,iw,bW,dK,aQ,yH,bf,yC,aV,bD,eU,yG,eP,yk,dR,fZ,dF,bn,bU,yn,ya,fA,fG,jump,jump]
  (try (rename_i it acc;(have hit:It:=it);clear hit;cases it <;> simp only [It.job]))
  (try (rename_i it;(have hit:It:=it);clear hit;cases it <;> simp only [It.job]))
  (try (rcases (show _∨_∨_ from hg) with rfl | rfl | rfl))
  (try (rename_i c acc;cases c <;> simp only [Bool.false_eq_true,if_false,if_true]))
  repeat' (first
   | exact lG
   | refine live_want (fun hk=>?_)
   | refine live_name (fun hk=>?_)
   | refine live_is (fun hk=>?_) ?_
   | refine live_sign (fun hk=>?_) ?_
   | refine live_text (fun hk=>?_) ?_
   | refine live_and (fun hk=>?_) ?_
   | refine live_end ?_ (fun hk=>?_)
   | refine live_one (fun hk=>?_) ?_
   | refine live_str hg (fun hk=>?_) ?_
   | refine iq (fun hc=>?_) (fun hc=>?_)
   | (refine live_bind1 (ih _ _ _ zR zh) (by first | rfl | exact q2 _) (fun _ _ _ hp=>?_);obtain ⟨hp1,hp2,hp3,hp4⟩:=hp;(try replace hp4:=hp4 trivial);simp only [st,q1] at hp1)
   | (refine live_bind (ih _ _ _ zR zh) (fun _ _ _ hp=>?_);obtain ⟨hp1,hp2,hp3,hp4⟩:=hp;(try replace hp3:=hp3 trivial);simp only [st,q1] at hp1)
   | (refine live_tail (ih _ _ _ zR zh) (fun _ _ _ hp=>?_);obtain ⟨hp1,hp2,hp3,hp4⟩:=hp;simp only [st,q1] at hp1;refine ⟨by simp only [st];omega, ?_,fun hx=>hx.elim,fun hx=>hx.elim⟩;first | exact fun _=>hp2 rfl | (intro hx;cases hx))
   | (refine live_ok ⟨by simp only [st];omega, ?_, ?_, ?_⟩
      ·first | exact fun _=>rfl | (intro hx;cases hx;done) | exact fun _=>hp3 hc
      ·first | exact fun hx=>hx.elim | exact fun _ _=>rfl | exact fun _ hx=>absurd hx dc
      ·first | exact fun hx=>hx.elim | exact fun _=>by omega))
theorem run_live (ts:List Tok):∀ (n:Nat) (j:Job) (h:Bool) (k:Nat),Good j→64*(ts.length-k)+rank j<n→G (PJ ts.length j k) (run ts n j h k)
 | 0,_,_,_,_,hn=>absurd hn om
 | n+1,j,h,k,hg,hn=>step_live ts (run ts n) j h k hg (fun j' h' k' g' m'=>run_live ts n j' h' k' g' om)
theorem tu (ts:List Tok) (h:Bool):run ts (64*ts.length+64+1) (.fileMore []) h 0≠.out:=(run_live ts _ (.fileMore []) h 0 trivial (by simp only [rank];omega)).1
end Go.Proofs.YtgbjpnnockoomaaGreatDoor.Px
namespace Go.Proofs.YtgbjpnnockoomaaGreatDoor
open Go.RowKit Lx Px
theorem acting_w (C:Ctx) (ok:C.Ok) (n:Nat) (ih:All C n) (kd:Int) (tx:List UInt8) (nm ps:Int) (kids:List Tree) (s:Int) (ao:Option Addr) (cp:Nat):CLd C 132 (.acting (.mk kd tx nm ps kids) s) #[.pointer (some ⟨C.b,0,none⟩),.agg #[.int .i64 kd,.string ⟨tx.toArray⟩,.int .i64 nm,.int .i64 ps,.string ⟨#[]⟩,.int .i64 0,.slice ao kids.length cp],.int .i64 s] kids ao cp iU (n+1):=by
 intro h k w lo hi p hblo hhi hlow rowa hout
 by_cases h3:s=3
 ·by_cases c0:yb C.ts k [[58,61]]=true
  ·exact acting_3D_w C ok n ih kd tx nm ps kids s ao cp h k w lo hi p hblo hhi hlow rowa h3 c0 hout
  by_cases c4:yb C.ts k [[61],[43,61],[45,61],[42,61]]=true
  ·exact acting_3A_w C ok n ih kd tx nm ps kids s ao cp h k w lo hi p hblo hhi hlow rowa h3 c0 c4 hout
  by_cases c2:yb C.ts k [[43,43],[45,45]]=true
  ·exact acting_3T_w C ok n ih kd tx nm ps kids s ao cp h k w lo hi p hblo hhi hlow rowa h3 c0 c4 c2 hout
  by_cases csend:yb C.ts k [[60,45]]=true
  ·exact acting_3S_w C ok n ih kd tx nm ps kids s ao cp h k w lo hi p hblo hhi hlow rowa h3 c0 c4 c2 csend hout
  exact acting_3N_w C ok n ih kd tx nm ps kids s ao cp h k w lo hi p hblo hhi hlow rowa h3 c0 c4 c2 csend hout
 by_cases h4:s=4
 ·by_cases c4:yb C.ts k [[61],[43,61],[45,61],[42,61]]=true
  ·exact acting_4A_w C ok n ih kd tx nm ps kids s ao cp h k w lo hi p hblo hhi hlow rowa h3 h4 c4 hout
  by_cases c2:yb C.ts k [[43,43],[45,45]]=true
  ·exact acting_4T_w C ok n ih kd tx nm ps kids s ao cp h k w lo hi p hblo hhi hlow rowa h3 h4 c4 c2 hout
  by_cases csend:yb C.ts k [[60,45]]=true
  ·exact acting_4S_w C ok n ih kd tx nm ps kids s ao cp h k w lo hi p hblo hhi hlow rowa h3 h4 c4 c2 csend hout
  exact acting_4N_w C ok n ih kd tx nm ps kids s ao cp h k w lo hi p hblo hhi hlow rowa h3 h4 c4 c2 csend hout
 by_cases hs2:2≤s
 ·by_cases csend:yb C.ts k [[60,45]]=true
  ·exact acting_pS_w C ok n ih kd tx nm ps kids s ao cp h k w lo hi p hblo hhi hlow rowa h3 h4 hs2 csend hout
  exact acting_pN_w C ok n ih kd tx nm ps kids s ao cp h k w lo hi p hblo hhi hlow rowa h3 h4 hs2 csend hout
 exact acting_nN_w C ok n ih kd tx nm ps kids s ao cp h k w lo hi p hblo hhi hlow rowa h3 h4 hs2 hout
open Go.RowKit Lx Px
theorem rY (C:Ctx) (ok:C.Ok) (n:Nat) (ih:All C n):CN C 155 .markOperand #[.pointer (some ⟨C.b,0,none⟩)] (n+1):=by
 intro h k w p hout
 by_cases c40:yb C.ts k [[40]]=true
 ·exact mark_P_w C ok n ih h k w p c40 hout
 cases h with
 | true=>exact mark_H_w C ok n ih true k w p c40 rfl hout
 | false=>
   by_cases c38:yb C.ts k [[38]]=true
   ·exact mark_A_w C ok n ih false k w p c40 rfl c38 hout
   by_cases c91:yb C.ts k [[91]]=true
   ·exact mark_L_w C ok n ih false k w p c40 rfl c38 c91 hout
   exact mark_N_w C ok n ih false k w p c40 rfl c38 c91 hout
open Go.RowKit Lx Px
theorem rG (C:Ctx) (ok:C.Ok) (n:Nat) (ih:All C n) (m:Nat) (hm:m≤n) (kd:Int) (tx:List UInt8) (nm ps:Int) (kids:List Tree) (pos:Int) (ao:Option Addr) (cp:Nat):CJd C 144 (.bracketed (.mk kd tx nm ps kids) pos) #[.pointer (some ⟨C.b,0,none⟩),.agg #[.int .i64 kd,.string ⟨tx.toArray⟩,.int .i64 nm,.int .i64 ps,.string ⟨#[]⟩,.int .i64 0,.slice ao kids.length cp],.int .i64 pos] kids ao cp m:=by
 cases m with
 | zero=>exact fun h k w lo hi a q _ _ _ _ _ _ _ ho=>absurd rfl ho
 | succ m=>exact uz C ok m (fun i hi=>ih i om) kd tx nm ps kids pos ao cp
theorem primary_w (C:Ctx) (ok:C.Ok) (n:Nat) (ih:All C n):CS C 130 .primary #[.pointer (some ⟨C.b,0,none⟩)] (n+1):=by
 intro h k w p hout
 have hr:run C.ts (n+1) .primary h k=dK (run C.ts n) h k:=rfl
 rw [hr] at hout ⊢
 clear hr
 generalize hR:dK (run C.ts n) h k=r0 at hout ⊢
 have hbl:=p.lt
 have htb:=ok.lt
 have htf0:=dw
 have htf1:=dL
 have htf3:=bT
 have hmf:=ig
 have G0:=zo w (some C.b)
 have HR:=zm hR
 clear hR
 have HO:=zm hout
 clear hout
 have hkl:=p.kl
 have hfew:=ok.few
 go_enter Tryz.func130,Tryz.ntmps130
 go_wp2_with fail
 refine (ih.at.operand h k _ (zw wg) (fun hx=>zk HO ((zk HR).symm.trans (by simp only [dK,ub,hx])))).mono ?_
 rintro e w1 hp
 rcases hp with ⟨kd1,tx1,nm1,ps1,kids1,s1,k1,ao1,cp1,hq,rfl,hrow,p1,hg⟩ | ⟨pb,rule,hq,rfl,hg⟩
 rotate_left
 (exact ⟨rfl,yj (by rw [←zk HR];simp only [dK,ub,hq]) (zl (yD wg) hg)⟩)
 have hz1:=hg.size
 (try simp at hz1)
 have G1:w.grownBy w1 (some C.b):=zl (yD wg) hg
 have bl0_1:BL w1 (w.heap.size) (yA):=BL.grown (yN om) hg om
 have hl0_1:=bl0_1.lt
 obtain ⟨lo1,hlo1,dU⟩:=hrow.named
 (try simp at hlo1)
 have HQ1:=zm hq
 clear hrow hq hg
 have ⟨⟨ne1,nf1⟩,⟨ne2,nf2⟩,⟨ne3,nf3⟩⟩:NN C.b w.heap.size∧NN C.b w1.heap.size∧NN w.heap.size w1.heap.size:=om
 have HR0:Hid (run C.ts n (.primMore (.mk kd1 tx1 nm1 ps1 kids1) s1) h k1=r0):=zm (by rw [←zk HR];simp only [dK,ub,zk HQ1])
 go_wp2
 go_loopg [5] n (fun gk sv wr=>∃ (kdx:Int) (txx:List UInt8) (nmx psx:Int) (kidsx:List Tree) (sx:Int) (k':Nat) (aox:Option Addr) (cpx:Nat),sv=.int .i64 sx∧PS wr C k' h∧BL wr w.heap.size yA∧BL wr w1.heap.size (.cells #[.int .i64 kdx,.string ⟨txx.toArray⟩,.int .i64 nmx,.int .i64 psx,.string ⟨#[]⟩,.int .i64 0,.slice aox kidsx.length cpx] 25)∧yh wr lo1 w1.heap.size (w1.heap.size+1) wr.heap.size (.slice aox kidsx.length cpx) kidsx∧w.grownBy wr (some C.b)∧Hid (run C.ts gk (.primMore (.mk kdx txx nmx psx kidsx) sx) h k'=r0)∧gk≤n∧w1.heap.size+1≤wr.heap.size)
 case atStart=>exact ⟨kd1,tx1,nm1,ps1,kids1,s1,k1,ao1,cp1,rfl,(zw wg),(yS wg),(yN om),yh.of (dU.ag (yQ zu sq) lr lr) _ _,(yD wg),HR0,Nat.le_refl _,by simp⟩
 case round=>
  obtain ⟨kdx,txx,nmx,psx,kidsx,sx,k0,aox,cpx,rfl,p0,bl0_0,bl1_0,rowl,Gr,HRr,hle,hzw⟩:=hrel
  obtain ⟨m,rfl⟩:∃ m,gk=m+1:=zJ
  clear HR HR0 dU HQ1 bl0_1 p1
  have HR:Hid (aQ C.ts (run C.ts m) (.mk kdx txx nmx psx kidsx) sx h k0=r0):=zk HRr
  have hkl0:=p0.kl
  have hzr:=Gr.size
  have ihm:=ih m om
  clear HRr p
  have hl0_0:=bl0_0.lt
  have hl1_0:=bl1_0.lt
  have p1:=p0
  clear p0
  go_wp2_with fail
  refine qb ok k0 h (zy C ok k0 h _ wg) wg fun w2 p2 hg _=>?_
  replace rowl:=yh.ag rowl (Ag.grown zu hg om om) (Ag.grown zu hg om om) lr
  have hz2:=hg.size
  (try simp at hz2)
  have G2:w.grownBy w2 (some C.b):=zl wg hg
  have bl0_2:BL w2 (w.heap.size) (yA):=BL.grown wg hg om
  have hl0_2:=bl0_2.lt
  have bl1_2:BL w2 (w1.heap.size) (yE kdx ⟨txx.toArray⟩ nmx psx aox kidsx.length cpx):=BL.grown wg hg om
  have hl1_2:=bl1_2.lt
  clear bl0_0 bl1_0 p1 hg
  have ⟨⟨ne1,nf1⟩,⟨ne2,nf2⟩,⟨ne3,nf3⟩,⟨ne4,nf4⟩,⟨ne5,nf5⟩,⟨ne6,nf6⟩⟩:NN C.b w.heap.size∧NN C.b w1.heap.size∧NN C.b w2.heap.size∧NN w.heap.size w1.heap.size∧NN w.heap.size w2.heap.size∧NN w1.heap.size w2.heap.size:=om
  by_cases c40:yb C.ts k0 [[40]]=true
  ·skip
   go_wp2_with fail
   refine (yU C ok k0 h _ [40] wg c40).mono ?_
   rintro e w3 ⟨rfl,p3,hg⟩
   replace rowl:=yh.ag rowl (Ag.grown zu hg om om) (Ag.grown zu hg om om) lr
   have hz3:=hg.size
   (try simp at hz3)
   have G3:w.grownBy w3 (some C.b):=zl wg hg
   have bl0_3:BL w3 (w.heap.size) (yA):=BL.grown wg hg om
   have hl0_3:=bl0_3.lt
   have bl1_3:BL w3 (w1.heap.size) (yE kdx ⟨txx.toArray⟩ nmx psx aox kidsx.length cpx):=BL.grown wg hg om
   have hl1_3:=bl1_3.lt
   have zc1_3:=bl1_3.cell
   clear bl0_2 bl1_2 p2 hg
   have ⟨⟨ne7,nf7⟩,⟨ne8,nf8⟩,⟨ne9,nf9⟩⟩:NN C.b w3.heap.size∧NN w.heap.size w3.heap.size∧NN w1.heap.size w3.heap.size:=om
   go_wp2
   go_region_law (first | (have hbx:=bx;have hlenj:l4.length≤1000000:=(by have h1:=yq C.ts m .args false (k0+1) l4 s4 k4 (zk HQ4);have h2:=ok.few;have h3:=p4.kl;simp only [st,bnd] at h1;omega);refine nS rfl (.tmp 22) (.tmp 26) rfl (lo:=lo1) (hi:=w1.heap.size) (p:=w1.heap.size+1) (q:=wr.heap.size) (g1:=w3.heap.size) (A:=lo4) (B:=w4.heap.size) (t:=.mk kdx txx nmx psx kidsx) (cur:=#[.int .i64 kdx,.string ⟨txx.toArray⟩,.int .i64 nmx,.int .i64 psx,.string ⟨#[]⟩,.int .i64 0,.slice aox kidsx.length cpx]) (l:=l4) zH wg rfl (yh.nd (kd:=kdx) (tx:=txx) (nm:=nmx) (ps:=psx) (yh.ag rowl zu zu lr)) zH (zq.ag row4 zu lr lr) hlenj om om om om om om om om ?_;intro g5 cp5 w5 hrw5 hgA hat5 hgl5;have hob:∀ x,(Value.slice (some ⟨w3.heap.size,0,none⟩) 1 1).ownBlock=some x→x=w3.heap.size:=(fun x hx=>by simp only [Value.ownBlock,Option.some.injEq] at hx;omega);have hz5:=hgA.size;(try simp at hz5);(try simp at hat5);have G5:w.grownBy w5 (some C.b):=yP wg hgA (fun x hx=>by have:=hob x hx;omega);have p5:=PS.own (C:=C) (k:=k4) (h:=h) wg ok hgA (fun x hx=>by have:=hob x hx;omega);have bl0_5:BL w5 (w.heap.size) (yA):=BL.own wg hgA (fun e=>by have:=hob _ e.symm;omega);have hl0_5:=bl0_5.lt;have zc0_5:=bl0_5.cell;have fz0_5:=bl0_5.frozen;have bl1_5:BL w5 (w1.heap.size) (.cells #[.int .i64 kdx,.string ⟨txx.toArray⟩,.int .i64 nmx,.int .i64 psx,.string ⟨#[]⟩,.int .i64 0,.slice aox kidsx.length cpx] 25):=BL.own wg hgA (fun e=>by have:=hob _ e.symm;omega);have hl1_5:=bl1_5.lt;have zc1_5:=bl1_5.cell;have fz1_5:=bl1_5.frozen;clear p4 hgA hob;have nz0:¬w.heap.size=w5.heap.size:=om;have ny0:¬w5.heap.size=w.heap.size:=om;have nz1:¬w1.heap.size=w5.heap.size:=om;have ny1:¬w5.heap.size=w1.heap.size:=om) | (have hlenj:l4.length≤1000000:=(by have h1:=yq C.ts m .args false (k0+1) l4 s4 k4 (zk HQ4);have h2:=ok.few;have h3:=p4.kl;simp only [st,bnd] at h1;omega);refine nS rfl (.tmp 22) (.tmp 26) rfl (lo:=lo1) (hi:=w1.heap.size) (p:=w1.heap.size+1) (q:=wr.heap.size) (g1:=w4.heap.size) (A:=lo4) (B:=w4.heap.size) (t:=.mk kdx txx nmx psx kidsx) (cur:=#[.int .i64 kdx,.string ⟨txx.toArray⟩,.int .i64 nmx,.int .i64 psx,.string ⟨#[]⟩,.int .i64 0,.slice aox kidsx.length cpx]) (l:=l4) zH (yN om) rfl (yh.nd (kd:=kdx) (tx:=txx) (nm:=nmx) (ps:=psx) (yh.ag rowl (yQ zu om) (yQ zu om) lr)) zH (zq.ag row4 (yQ zu sq) lr lr) hlenj om sq om om om om sq om ?_;intro g5 cp5 w5 hrw5 hgA hat5 hgl5;have hob:∀ x,(Value.slice (some ⟨w4.heap.size,0,none⟩) 1 1).ownBlock=some x→x=w4.heap.size:=(fun x hx=>by simp only [Value.ownBlock,Option.some.injEq] at hx;omega);have hz5:=hgA.size;(try simp at hz5);(try simp at hat5);have G5:w.grownBy w5 (some C.b):=yP (yD wg) hgA (fun x hx=>by have:=hob x hx;omega);have p5:=PS.own (C:=C) (k:=k4) (h:=h) (zw wg) ok hgA (fun x hx=>by have:=hob x hx;omega);have bl0_5:BL w5 (w.heap.size) (yA):=BL.own (yS wg) hgA (fun e=>by have:=hob _ e.symm;omega);have hl0_5:=bl0_5.lt;have zc0_5:=bl0_5.cell;have fz0_5:=bl0_5.frozen;have bl1_5:BL w5 (w1.heap.size) (.cells #[.int .i64 kdx,.string ⟨txx.toArray⟩,.int .i64 nmx,.int .i64 psx,.string ⟨#[]⟩,.int .i64 0,.slice aox kidsx.length cpx] 25):=BL.own (yS wg) hgA (fun e=>by have:=hob _ e.symm;omega);have hl1_5:=bl1_5.lt;have zc1_5:=bl1_5.cell;have fz1_5:=bl1_5.frozen;clear p4 hgA hob;have nz0:¬w.heap.size=w5.heap.size:=om;have ny0:¬w5.heap.size=w.heap.size:=om;have nz1:¬w1.heap.size=w5.heap.size:=om;have ny1:¬w5.heap.size=w1.heap.size:=om) | (go_simp;go_at_call 137;refine (ou C ok 143 #[.pointer (some ⟨C.b,0,none⟩)] #[] en108 (run C.ts m .args false (k0+1)) false h (k0+1) _ (by first | with_reducible exact pw1 (zw wg) | with_reducible exact pw1 wg) (fun w0 _ q0=>ihm.args false (k0+1) w0 q0 (fun hx=>zk HO ((zk HR).symm.trans (by simp only [aQ,ub,et c40,hx]))))).mono ?_;rintro e w4 hp;rcases hp with ⟨l4,s4,k4,ao4,cp4,hq,rfl,hrow,p4,hg⟩ | ⟨pb,rule,hq,rfl,hg⟩;rotate_left;(exact ⟨rfl,yj (by rw [←zk HR];simp only [aQ,ub,et c40,hq]) (zl (by first | with_reducible exact gw1 (yD wg) | with_reducible exact gw1 wg) hg)⟩);replace rowl:=yh.ag rowl (Ag.grown (by first | with_reducible exact aw1 (yQ zu om) | with_reducible exact aw1 zu) hg sq om) (Ag.grown (by first | with_reducible exact aw1 (yQ zu om) | with_reducible exact aw1 zu) hg sq om) lr;(try ((refine_lift have bx:BL w4 (w3.heap.size) (.cells #[.int .i64 kdx,.string ⟨txx.toArray⟩,.int .i64 nmx,.int .i64 psx,.string ⟨#[]⟩,.int .i64 0,.slice aox kidsx.length cpx] 25):=?_;?_);rotate_left;(focus ((refine BL.grown ?_ hg ?_);(focus ((exact bw1 (yN om));done));(focus ((first | omega | (simp <;> omega));done))));have hlx:=bx.lt;have zcx:=bx.cell));have hz4:=hg.size;(try simp at hz4);have G4:w.grownBy w4 (some C.b):=zl (by first | with_reducible exact gw1 (yD wg) | with_reducible exact gw1 wg) hg;have bl0_4:BL w4 (w.heap.size) (yA):=BL.grown (by first | with_reducible exact bw1 (yS wg) | with_reducible exact bw1 wg) hg om;have hl0_4:=bl0_4.lt;have zc0_4:=bl0_4.cell;have fz0_4:=bl0_4.frozen;have bl1_4:BL w4 (w1.heap.size) (.cells #[.int .i64 kdx,.string ⟨txx.toArray⟩,.int .i64 nmx,.int .i64 psx,.string ⟨#[]⟩,.int .i64 0,.slice aox kidsx.length cpx] 25):=BL.grown (by first | with_reducible exact bw1 (yS wg) | with_reducible exact bw1 wg) hg om;have hl1_4:=bl1_4.lt;have zc1_4:=bl1_4.cell;have fz1_4:=bl1_4.frozen;clear bl0_3;clear bl1_3 zc1_3;clear p3;obtain ⟨lo4,hlo4,row4⟩:=hrow.named;(try simp at hlo4);have HQ4:=zm hq;clear hrow hq;clear hg;have ne10:¬C.b=w4.heap.size:=om;have nf10:¬w4.heap.size=C.b:=om;have ne11:¬w.heap.size=w4.heap.size:=om;have nf11:¬w4.heap.size=w.heap.size:=om;have ne12:¬w1.heap.size=w4.heap.size:=om;have nf12:¬w4.heap.size=w1.heap.size:=om))
   all_goals
    go_wp2
    go_roundg m
    case measure=>omega
    case rel=>exact ⟨43,[],0,(zp C.ts k0).pos,(.mk kdx txx nmx psx kidsx)::l4,5,k4,some ⟨g5,0,none⟩,cp5,rfl,(yv wg ok oz),(bw7 wg oz),by show BL _ w1.heap.size (.cells #[.int .i64 43,.string ⟨#[]⟩,.int .i64 0,.int .i64 (zp C.ts k0).pos,.string ⟨#[]⟩,.int .i64 0,.slice (some ⟨g5,0,none⟩) (l4.length+1) cp5] 25);exact zT,hrw5 _ sq (Ag.one (yr zu oz)) (aw8 zu oz) (yr zu oz) (yr zu oz),(yw wg oz),zm (by rw [←zk HR];simp only [aQ,ub,et c40,zk HQ4]),om,sq⟩
  go_wp2_with fail
  refine qb ok k0 h (yV C ok k0 h _ [40] wg (Bool.eq_false_iff.2 c40)) wg fun w3 p3 hg _=>?_
  replace rowl:=yh.ag rowl (Ag.grown zu hg om om) (Ag.grown zu hg om om) lr
  have hz3:=hg.size
  (try simp at hz3)
  have G3:w.grownBy w3 (some C.b):=zl wg hg
  have bl0_3:BL w3 (w.heap.size) (yA):=BL.grown wg hg om
  have hl0_3:=bl0_3.lt
  have bl1_3:BL w3 (w1.heap.size) (yE kdx ⟨txx.toArray⟩ nmx psx aox kidsx.length cpx):=BL.grown wg hg om
  have hl1_3:=bl1_3.lt
  clear bl0_2 bl1_2 p2 hg
  have ⟨⟨ne7,nf7⟩,⟨ne8,nf8⟩,⟨ne9,nf9⟩⟩:NN C.b w3.heap.size∧NN w.heap.size w3.heap.size∧NN w1.heap.size w3.heap.size:=om
  by_cases c91:yb C.ts k0 [[91]]=true
  ·skip
   go_wp2_with fail
   refine (yU C ok k0 h _ [91] wg c91).mono ?_
   rintro e w4 ⟨rfl,p4,hg⟩
   replace rowl:=yh.ag rowl (Ag.grown zu hg om om) (Ag.grown zu hg om om) lr
   have hz4:=hg.size
   (try simp at hz4)
   have G4:w.grownBy w4 (some C.b):=zl wg hg
   have bl0_4:BL w4 (w.heap.size) (yA):=BL.grown wg hg om
   have hl0_4:=bl0_4.lt
   have bl1_4:BL w4 (w1.heap.size) (yE kdx ⟨txx.toArray⟩ nmx psx aox kidsx.length cpx):=BL.grown wg hg om
   have hl1_4:=bl1_4.lt
   have zc1_4:=bl1_4.cell
   clear bl0_3 bl1_3 p3 hg
   have ⟨⟨ne10,nf10⟩,⟨ne11,nf11⟩,⟨ne12,nf12⟩⟩:NN C.b w4.heap.size∧NN w.heap.size w4.heap.size∧NN w1.heap.size w4.heap.size:=om
   go_wp2_with fail
   refine (rG C ok n ih m om kdx txx nmx psx kidsx (zp C.ts k0).pos aox cpx h (k0+1) _ lo1 w1.heap.size (w1.heap.size+1) wr.heap.size wg om om om om om (yh.ag rowl zu zu lr) (fun hx=>zk HO ((zk HR).symm.trans (by simp only [aQ,ub,ef c40,et c91,hx])))).mono ?_
   rintro e w5 hp
   rcases hp with ⟨kd5,tx5,nm5,ps5,kids5,s5,k5,ao5,cp5,hq,rfl,hrow,p5,hg⟩ | ⟨pb,rule,hq,rfl,hg⟩
   rotate_left
   (exact ⟨rfl,yj (by rw [←zk HR];simp only [aQ,ub,ef c40,et c91,hq]) (zl wg hg)⟩)
   have hz5:=hg.size
   (try simp at hz5)
   have G5:w.grownBy w5 (some C.b):=zl wg hg
   have bl0_5:BL w5 (w.heap.size) (yA):=BL.grown wg hg om
   have hl0_5:=bl0_5.lt
   have bl1_5:BL w5 (w1.heap.size) (yE kdx ⟨txx.toArray⟩ nmx psx aox kidsx.length cpx):=BL.grown wg hg om
   have hl1_5:=bl1_5.lt
   have zc1_5:=bl1_5.cell
   have fz1_5:=bl1_5.frozen
   clear bl0_4 bl1_4 zc1_4 p4 hg
   have ⟨⟨ne13,nf13⟩,⟨ne14,nf14⟩,⟨ne15,nf15⟩⟩:NN C.b w5.heap.size∧NN w.heap.size w5.heap.size∧NN w1.heap.size w5.heap.size:=om
   have HQ5:=zm hq
   clear hq rowl
   go_wp2
   go_roundg m
   case measure=>omega
   case rel=>exact ⟨kd5,tx5,nm5,ps5,kids5,s5,k5,ao5,cp5,rfl,(yv wg ok oz),(bw7 wg oz),by show BL _ w1.heap.size (.cells #[.int .i64 kd5,.string ⟨tx5.toArray⟩,.int .i64 nm5,.int .i64 ps5,.string ⟨#[]⟩,.int .i64 0,.slice ao5 kids5.length cp5] 25);exact zT,yh.ag hrow (aw8 zu oz) (yr zu oz) sq,(yw wg oz),zm (by rw [←zk HR];simp only [aQ,ub,ef c40,et c91,zk HQ5]),om,sq⟩
  go_wp2_with fail
  refine qb ok k0 h (yV C ok k0 h _ [91] wg (Bool.eq_false_iff.2 c91)) wg fun w4 p4 hg _=>?_
  replace rowl:=yh.ag rowl (Ag.grown zu hg om om) (Ag.grown zu hg om om) lr
  have hz4:=hg.size
  (try simp at hz4)
  have G4:w.grownBy w4 (some C.b):=zl wg hg
  have bl0_4:BL w4 (w.heap.size) (yA):=BL.grown wg hg om
  have hl0_4:=bl0_4.lt
  have bl1_4:BL w4 (w1.heap.size) (yE kdx ⟨txx.toArray⟩ nmx psx aox kidsx.length cpx):=BL.grown wg hg om
  have hl1_4:=bl1_4.lt
  clear bl0_3 bl1_3 p3 hg
  have ⟨⟨ne10,nf10⟩,⟨ne11,nf11⟩,⟨ne12,nf12⟩⟩:NN C.b w4.heap.size∧NN w.heap.size w4.heap.size∧NN w1.heap.size w4.heap.size:=om
  by_cases c46:yb C.ts k0 [[46]]=true
  ·skip
   go_wp2_with fail
   refine (yU C ok k0 h _ [46] wg c46).mono ?_
   rintro e w5 ⟨rfl,p5,hg⟩
   replace rowl:=yh.ag rowl (Ag.grown zu hg om om) (Ag.grown zu hg om om) lr
   have hz5:=hg.size
   (try simp at hz5)
   have G5:w.grownBy w5 (some C.b):=zl wg hg
   have bl0_5:BL w5 (w.heap.size) (yA):=BL.grown wg hg om
   have hl0_5:=bl0_5.lt
   have bl1_5:BL w5 (w1.heap.size) (yE kdx ⟨txx.toArray⟩ nmx psx aox kidsx.length cpx):=BL.grown wg hg om
   have hl1_5:=bl1_5.lt
   have zc1_5:=bl1_5.cell
   clear bl0_4 bl1_4 p4 hg
   have ⟨⟨ne13,nf13⟩,⟨ne14,nf14⟩,⟨ne15,nf15⟩⟩:NN C.b w5.heap.size∧NN w.heap.size w5.heap.size∧NN w1.heap.size w5.heap.size:=om
   go_wp2
   go_region_law (first | (go_simp;go_at_call 55;refine (name_any C ok (k0+1) h _ ⟨#[112,114,105,109,97,114,121]⟩ (by first | with_reducible exact pw1 wg | with_reducible exact pw1 (zw wg))).mono ?_;rintro e w6 hp;rcases hp with ⟨hcn,rfl,p6,hg⟩ | ⟨hcn,rfl,hgq⟩;rotate_left;(exact ⟨rfl,yj (by rw [←zk HR];simp only [aQ,ub,ef c40,ef c91,et c46,ef hcn]) (zl zX (zn hgq))⟩);have Hcn:=zm hcn;clear hcn;replace rowl:=yh.ag rowl (Ag.grown (by first | with_reducible exact aw1 zu | with_reducible exact aw1 (yQ zu om)) hg sq om) (Ag.grown (by first | with_reducible exact aw1 zu | with_reducible exact aw1 (yQ zu om)) hg sq om) lr;(try ((refine_lift have bx:BL w6 (w5.heap.size) (.cells #[.int .i64 kdx,.string ⟨txx.toArray⟩,.int .i64 nmx,.int .i64 psx,.string ⟨#[]⟩,.int .i64 0,.slice aox kidsx.length cpx] 25):=?_;?_);rotate_left;(focus ((refine BL.grown ?_ hg ?_);(focus ((exact bw1 (yN om));done));(focus ((first | omega | (simp <;> omega));done))));have hlx:=bx.lt;have zcx:=bx.cell;have fzx:=bx.frozen));have hz6:=hg.size;(try simp at hz6);have G6:w.grownBy w6 (some C.b):=zl zX hg;have bl0_6:BL w6 (w.heap.size) (yA):=BL.grown zY hg om;have hl0_6:=bl0_6.lt;have zc0_6:=bl0_6.cell;have fz0_6:=bl0_6.frozen;have bl1_6:BL w6 (w1.heap.size) (.cells #[.int .i64 kdx,.string ⟨txx.toArray⟩,.int .i64 nmx,.int .i64 psx,.string ⟨#[]⟩,.int .i64 0,.slice aox kidsx.length cpx] 25):=BL.grown zY hg om;have hl1_6:=bl1_6.lt;have zc1_6:=bl1_6.cell;have fz1_6:=bl1_6.frozen;clear bl0_5;clear bl1_5 zc1_5;clear p5;clear hg;have ne16:¬C.b=w6.heap.size:=om;have nf16:¬w6.heap.size=C.b:=om;have ne17:¬w.heap.size=w6.heap.size:=om;have nf17:¬w6.heap.size=w.heap.size:=om;have ne18:¬w1.heap.size=w6.heap.size:=om;have nf18:¬w6.heap.size=w1.heap.size:=om))
   all_goals
    go_wp2
    go_roundg m
    case measure=>omega
    case rel=>first | (have hbx:=bx;exact ⟨47,(zp C.ts (k0+1)).text,0,(zp C.ts k0).pos,[.mk kdx txx nmx psx kidsx],4,k0+1+1,some ⟨w5.heap.size,0,none⟩,1,rfl,(yv wg ok oz),(bw7 wg oz),by show BL _ w1.heap.size (.cells #[.int .i64 47,.string ⟨(zp C.ts (k0+1)).text.toArray⟩,.int .i64 0,.int .i64 (zp C.ts k0).pos,.string ⟨#[]⟩,.int .i64 0,.slice (some ⟨w5.heap.size,0,none⟩) 1 1] 25);exact zT,qU (n:=1) (cur:=#[.int .i64 kdx,.string ⟨txx.toArray⟩,.int .i64 nmx,.int .i64 psx,.string ⟨#[]⟩,.int .i64 0,.slice aox kidsx.length cpx]) (bw7 wg oz) rfl rfl dc om om sq (gU.one (b0:=wr.heap.size) (yh.nd (kd:=kdx) (tx:=txx) (nm:=nmx) (ps:=psx) (yh.ag rowl (aw8 zu oz) (yr zu oz) lr)) sq om om),(yw wg oz),zm (by rw [←zk HR];simp only [aQ,ub,ef c40,ef c91,et c46,et (zk Hcn)]),om,sq⟩) | (exact ⟨47,(zp C.ts (k0+1)).text,0,(zp C.ts k0).pos,[.mk kdx txx nmx psx kidsx],4,k0+1+1,some ⟨w6.heap.size,0,none⟩,1,rfl,(zw (yv wg ok oz)),(yS (bw7 wg oz)),by show BL _ w1.heap.size (.cells #[.int .i64 47,.string ⟨(zp C.ts (k0+1)).text.toArray⟩,.int .i64 0,.int .i64 (zp C.ts k0).pos,.string ⟨#[]⟩,.int .i64 0,.slice (some ⟨w6.heap.size,0,none⟩) 1 1] 25);exact yS zT,qU (n:=1) (cur:=#[.int .i64 kdx,.string ⟨txx.toArray⟩,.int .i64 nmx,.int .i64 psx,.string ⟨#[]⟩,.int .i64 0,.slice aox kidsx.length cpx]) (yN sq) rfl rfl dc om om sq (gU.one (b0:=wr.heap.size) (yh.nd (kd:=kdx) (tx:=txx) (nm:=nmx) (ps:=psx) (yh.ag rowl (yQ (aw8 zu oz) sq) (yQ (yr zu oz) sq) lr)) sq om om),(yD (yw wg oz)),zm (by rw [←zk HR];simp only [aQ,ub,ef c40,ef c91,et c46,et (zk Hcn)]),om,sq⟩)
  go_wp2_with fail
  refine qb ok k0 h (yV C ok k0 h _ [46] wg (Bool.eq_false_iff.2 c46)) wg fun w5 p5 hg _=>?_
  replace rowl:=yh.ag rowl (Ag.grown zu hg om om) (Ag.grown zu hg om om) lr
  have hz5:=hg.size
  (try simp at hz5)
  have G5:w.grownBy w5 (some C.b):=zl wg hg
  have bl0_5:BL w5 (w.heap.size) (yA):=BL.grown wg hg om
  have hl0_5:=bl0_5.lt
  have zc0_5:=bl0_5.cell
  have fz0_5:=bl0_5.frozen
  have bl1_5:BL w5 (w1.heap.size) (yE kdx ⟨txx.toArray⟩ nmx psx aox kidsx.length cpx):=BL.grown wg hg om
  have hl1_5:=bl1_5.lt
  have zc1_5:=bl1_5.cell
  clear bl0_4 bl1_4 p4 hg
  have ⟨⟨ne13,nf13⟩,⟨ne14,nf14⟩,⟨ne15,nf15⟩⟩:NN C.b w5.heap.size∧NN w.heap.size w5.heap.size∧NN w1.heap.size w5.heap.size:=om
  go_wp2
  refine bodyPost_ret (v:=.tuple #[.agg #[.int .i64 kdx,.string ⟨txx.toArray⟩,.int .i64 nmx,.int .i64 psx,.string ⟨#[]⟩,.int .i64 0,.slice aox kidsx.length cpx],.int .i64 sx]) (by simp [results,Tryz.results130,go_sem, *]) rfl (yd (hi:=w5.heap.size) (s:=sx) (k':=k0) (tx:=txx) (kids:=kidsx)  (by rw [←zk HR];simp only [aQ,ub,ef c40,ef c91,ef c46]) (zq.ag (yh.toI (z:=w5.heap.size) (yh.ag rowl (yr zu oz) (yr zu oz) lr) om om om) (Ag.refl _ _ _) om lr) sq ?_ ?_)
  ·exact yv wg ok oz
  ·exact yw wg oz
open Go.RowKit Lx Px
theorem con0 (C:Ctx):Con C 0:=by
 constructor
 all_goals (first | exact fun _ _ _ _ ho=>absurd rfl ho | exact fun _ _ _ _ _ ho=>absurd rfl ho | exact fun _ _ _ _ _ _ ho=>absurd rfl ho | exact fun _ _ _ _ _ _ _ ho=>absurd rfl ho | exact fun _ _ _ _ _ _ _ _ ho=>absurd rfl ho | exact fun _ _ _ _ _ _ _ _ _ ho=>absurd rfl ho | exact fun _ _ _ _ _ _ _ _ _ _ ho=>absurd rfl ho | exact fun _ _ _ _ _ _ _ _ _ _ _ ho=>absurd rfl ho | exact fun _ _ _ _ _ _ _ _ _ _ _ _ ho=>absurd rfl ho | exact fun _ _ _ _ _ _ _ _ _ _ _ _ _ ho=>absurd rfl ho | exact fun _ _ _ _ _ _ _ _ _ _ _ _ _ _ ho=>absurd rfl ho | exact fun _ _ _ _ _ _ _ _ _ _ _ _ _ _ _ ho=>absurd rfl ho | exact fun _ _ _ _ _ _ _ _ _ _ _ _ _ _ _ _ ho=>absurd rfl ho | exact fun _ _ _ _ _ _ _ _ _ _ _ _ _ _ _ _ _ ho=>absurd rfl ho | exact fun _ _ _ _ _ _ _ _ _ _ _ _ _ _ _ _ _ _ ho=>absurd rfl ho | exact fun _ _ _ _ _ _ _ _ _ _ _ _ _ _ _ _ _ _ _ ho=>absurd rfl ho | exact fun _ _ _ _ ho _=>absurd rfl ho | exact fun _ _ _ _ _ ho _=>absurd rfl ho | exact fun _ _ _ _ _ _ ho _=>absurd rfl ho | exact fun _ _ _ _ _ _ _ ho _=>absurd rfl ho)
theorem conS (C:Ctx) (ok:C.Ok) (n:Nat) (ih:All C n):Con C (n+1) where
 wtype:=wtype_w C ok n ih
 result:=result_w C ok n ih
 named:=named_w C ok n ih
 listedT:=listedT_w C ok n ih
 listedE:=listedE_w C ok n ih
 listedN:=listedN_w C ok n ih
 function:=function_w C ok n ih
 block:=block_w C ok n ih
 stmts:=stmts_w C ok n ih
 stmt:=stmt_w C ok n ih
 varStmt:=varStmt_w C ok n ih
 returnStmt:=vJ C ok n ih
 callStmt:=callStmt_w C ok n ih
 labelled:=labelled_w C ok n ih
 simple:=simple_w C ok n ih
 acting:=acting_w C ok n ih
 ifStmt:=ifStmt_w C ok n ih
 breakable:=breakable_w C ok n ih
 forStmt:=forStmt_w C ok n ih
 forHead:=forHead_w C ok n ih
 forLead:=forLead_w C ok n ih
 switchStmt:=vP C ok n ih
 selectStmt:=vM C ok n ih
 clausesF:=clausesF_w C ok n ih
 clausesT:=clausesT_w C ok n ih
 clause:=clause_w C ok n ih
 clauseBlock:=rH C ok n ih
 comm:=comm_w C ok n ih
 commHead:=commHead_w C ok n ih
 expr:=expr_w C ok n ih
 op:=op_w C ok n ih
 opOf:=fun kd tx nm ps kids least ao cp h1=>opOf_w C ok n ih kd tx nm ps kids least ao cp h1
 unary:=unary_w C ok n ih
 shaped:=shaped_w C ok n ih
 primary:=primary_w C ok n ih
 args:=args_w C ok n ih
 bracketed:=bracketed_w C ok n ih
 operand:=operand_w C ok n ih
 wordOperand:=sG C ok n ih
 builtinM:=builtinM_w C ok n ih
 builtinN:=builtinN_w C ok n ih
 builtinA:=builtinA_w C ok n ih
 makeArgs:=makeArgs_w C ok n ih
 newArgs:=newArgs_w C ok n ih
 markOperand:=rY C ok n ih
 bracedI:=bracedI_w C ok n ih
 bracedE:=bracedE_w C ok n ih
 initial:=initial_w C ok n ih
 decl:=decl_w C ok n ih
 typeDecl:=typeDecl_w C ok n ih
theorem allC (C:Ctx) (ok:C.Ok):∀ n,All C n:=by
 intro n
 induction n with
 | zero=>intro m hm;obtain rfl:m=0:=om
         exact con0 C
 | succ n ih=>
   intro m hm
   by_cases h:m≤n
   ·exact ih m h
   ·obtain rfl:m=n+1:=om
    exact conS C ok n ih
theorem file_all (C:Ctx) (ok:C.Ok) (n:Nat):CN C 17 (.fileMore []) #[.pointer (some ⟨C.b,0,none⟩)] (n+1):=file_w C ok n (allC C ok n)
open Go.RowKit Lx Px
theorem Tryz.toRule (v:Value) (w:World):(Instr.typeAssert (.iface 62 v) 20 62 true).run Tryz.prog w=.ok (.tuple #[v,.bool true]) w:=by kernel_rfl
theorem Tryz.toRuleNil (w:World):(Instr.typeAssert .nilIface 20 62 true).run Tryz.prog w=.ok (.tuple #[.agg #[.string ⟨#[]⟩,.nilIface],.bool false]) w:=by kernel_rfl
theorem catch_panicking (g:Nat) (old:Value) (rule:ByteArray) (ps:Int) (w:World) (hb:BL w g (.cells #[old] 38)) :
 CallsD Tryz.prog 16 #[.pointer (some ⟨g,0,none⟩)] (.panicking (brk rule ps)) w fun e u' w'=>
  e=.returned (.tuple #[])∧u'=.panicking [{ v:=.iface 62 (.agg #[.string rule,.iface 42 (.agg #[.int .i64 ps])]),recovered:=true }]∧w'=(w.alloc (.cells #[.string rule,.iface 42 (.agg #[.int .i64 ps])] 62)).setCell ⟨g,0,none⟩ (.iface 62 (.agg #[.string rule,.iface 42 (.agg #[.int .i64 ps])])):=by
 unfold brk
 refine callsD_of_wpS Tryz.func16 rfl fun c₀ cs hu=>?_
 apply wpS_seq
 apply wpS_region
 simp [wpOpsS,go_sem,recoverD,hu,Tryz.ntmps16,Exit.thenS,Tryz.toRule]
 apply wpS_seq
 apply wpS_region
 simp [wpOpsS,go_sem,Exit.thenS]
 refine wpS_cond (t:=true) (by simp [Act.eval,Array.replicate]) ?_
 simp only [if_true]
 apply wpS_region
 have hb':=hb.alloc (.cells #[.string rule,.iface 42 (.agg #[.int .i64 ps])] 62)
 have hc:(w.alloc (.cells #[.string rule,.iface 42 (.agg #[.int .i64 ps])] 62)).cell? ⟨g,0,none⟩=some old:=by simpa using hb'.cell 0
 have hz:=hb'.frozen
 simp [wpOpsS,go_sem,hc,hz,bodyPostS,results,Tryz.results16]
theorem catch_idle (p:Addr) (w:World) :
 CallsD Tryz.prog 16 #[.pointer (some p)] .returning w fun e u' w'=>e=.returned (.tuple #[])∧u'=.returning∧w'=w.alloc (.cells #[.string ⟨#[]⟩,.nilIface] 62):=by
 refine callsD_of_wpS Tryz.func16 rfl fun c₀ cs hu=>?_
 apply wpS_seq
 apply wpS_region
 simp [wpOpsS,go_sem,recoverD,hu,Tryz.ntmps16,Exit.thenS,Tryz.toRuleNil]
 apply wpS_seq
 apply wpS_region
 simp [wpOpsS,go_sem,Exit.thenS]
 refine wpS_cond (t:=false) (by simp [Act.eval,Array.replicate]) ?_
 simp only [Bool.false_eq_true,if_false]
 refine wpS_of_wp (wp_skip ?_)
 cases c₀
 simp_all [bodyPostS,results,Tryz.results16]
open Go.RowKit Lx Px
theorem res16 (g:Nat) (wf:World) (a b c d u:Value) (kd nm ps:Int) (tx:ByteArray) (kv:Value) (ev:Value) (bt:BL wf g (.cells #[.int .i64 kd,.string tx,.int .i64 nm,.int .i64 ps,.string ⟨#[]⟩,.int .i64 0,kv] 25)) (be:BL wf (g+1) (.cells #[ev] 38)) (x y:Value) :
 (results Tryz.f10 #[a,b,.pointer (some ⟨g,0,none⟩),.pointer (some ⟨g+1,0,none⟩),c,d,u,x,y]).run Tryz.prog wf=.ok (.tuple #[.agg #[.int .i64 kd,.string tx,.int .i64 nm,.int .i64 ps,.string ⟨#[]⟩,.int .i64 0,kv],ev]) wf:=by
 have zt:=bt.cell
 have ze:=be.cell
 simp [results,Tryz.results10,go_sem,ze,zt]
theorem treeOf_w (tb:Nat) (cur:Array Value) (cap:Nat) (ts:List Tok) (n:Nat) (w:World) (ok:Ctx.Ok ⟨w.heap.size+2,tb,cur,cap,ts⟩) (htk:w.heap[tb]?=some (.cells cur 85)) (h0:0<ts.length) (hout:run ts (n+1) (.fileMore []) false 0≠.out) :
 Calls Tryz.prog 10 #[.slice (some ⟨tb,0,none⟩) ts.length cap] w fun e w'=>w.grownBy w' none∧
  ((∃ kd tx nm ps kids s k' ao cp,run ts (n+1) (.fileMore []) false 0=.ok [.mk kd tx nm ps kids] s k'∧e=.returned (.tuple #[.agg #[.int .i64 kd,.string ⟨tx.toArray⟩,.int .i64 nm,.int .i64 ps,.string ⟨#[]⟩,.int .i64 0,.slice ao kids.length cp],.nilIface])∧zq w' w.heap.size w'.heap.size (.slice ao kids.length cp) kids)
  ∨(∃ p rule,run ts (n+1) (.fileMore []) false 0=.bad p∧e=.returned (.tuple #[.agg #[.int .i64 0,.string ⟨#[]⟩,.int .i64 0,.int .i64 0,.string ⟨#[]⟩,.int .i64 0,.slice none 0 0],.iface 62 (.agg #[.string rule,.iface 42 (.agg #[.int .i64 p])])]))):=by
 have hmf:∀ (fn:Fn) (first cap:Array Value) (w:World),(Instr.makeFunc fn first cap).run Tryz.prog w=.ok (.func fn first cap) w:=fun _ _ _ _=>rfl
 generalize hR:run ts (n+1) (.fileMore []) false 0=r0 at hout ⊢
 have HR:=zm hR
 clear hR
 have hlt:tb<w.heap.size:=bG htk
 go_enter_defers Tryz.func10,Tryz.ntmps10
 go_wp2_with fail
 refine (file_all ⟨w.heap.size+2,tb,cur,cap,ts⟩ ok n false 0 _ ⟨BL.new zK,BL.alloc (BL.alloc (BL.alloc htk _) _) _,h0⟩ (by rw [zk HR];exact hout)).mono ?_
 rintro e w1 hp
 have hbt:BL ((w.alloc yA).alloc (.cells #[.nilIface] 38)) w.heap.size yA:=BL.alloc (BL.new rfl) _
 have hbe:BL ((w.alloc yA).alloc (.cells #[.nilIface] 38)) (w.heap.size+1) (.cells #[.nilIface] 38):=BL.new zK
 rcases hp with ⟨kd,tx,nm,ps,kids,s,k',ao,cp,hq,rfl,hrow,p1,hg⟩ | ⟨pb,rule,hq,rfl,hg⟩
 ·have hz:=hg.size
  simp at hz
  have bt:=BL.grown (BL.alloc hbt _) hg zK
  have be:=BL.grown (BL.alloc hbe _) hg zK
  have G1:w.grownBy w1 none:=yP (v:=.slice (some ⟨w.heap.size+2,0,none⟩) 1 1) (zr (zr (zr (zo w none) _) _) _) hg (fun x hx=>by simp only [Value.ownBlock,Option.some.injEq] at hx;omega)
  have zt:=bt.cell
  have ft:=bt.frozen
  have ze:=be.cell
  have fe:=be.frozen
  rw [zk HR] at hq
  have HQ:=zm hq
  have HW:=zm hrow
  clear hq hrow hg hbt hbe htk
  go_wp2
  refine leaves_cons (f:=16) (args:=#[.pointer (some ⟨w.heap.size+1,0,none⟩)]) zK (by simp [go_sem]) ?_
  refine (catch_idle _ _).mono ?_
  rintro e u' w'' ⟨rfl,rfl,rfl⟩
  refine ⟨.tuple #[.agg #[.int .i64 kd,.string ⟨tx.toArray⟩,.int .i64 nm,.int .i64 ps,.string ⟨#[]⟩,.int .i64 0,.slice ao kids.length cp],.nilIface], ?_,zC,Or.inl ⟨kd,tx,nm,ps,kids,s,k',ao,cp,zk HQ,rfl,zq.ag (zk HW) zB oz oz⟩⟩
  exact res16 w.heap.size _ _ _ _ _ _ kd nm ps ⟨tx.toArray⟩ (.slice ao kids.length cp) .nilIface (by refine BL.alloc ?_ _;(repeat (first | with_reducible assumption | ((with_reducible apply BL.put7);(with_reducible assumption);rfl) | ((with_reducible apply BL.o5);(with_reducible assumption);rfl) | with_reducible refine BL.drew ?_ | (with_reducible refine BL.new ?_;(first | omega | (simp <;> omega))) | with_reducible refine BL.alloc ?_ _ | (with_reducible refine BL.set ?_ _ ?_;rotate_left;(first | omega | (simp <;> omega))) | ((with_reducible apply BL.mF);(with_reducible assumption);(first | rfl | simp))))) (by refine BL.alloc ?_ _;exact (BL.put (cs:=#[.nilIface]) (t:=38) zA 0 .nilIface)) _ _
 ·have hz:=hg.size
  simp at hz
  have bt:=BL.grown (BL.alloc hbt _) hg zK
  have be:=BL.grown (BL.alloc hbe _) hg zK
  refine leaves_cons (f:=16) (args:=#[.pointer (some ⟨w.heap.size+1,0,none⟩)]) zK (by simp [go_sem]) ?_
  refine (catch_panicking _ _ _ _ _ be).mono ?_
  rintro e u' w'' ⟨rfl,rfl,rfl⟩
  have be2:BL ((w1.alloc (.cells #[.string rule,.iface 42 (.agg #[.int .i64 pb])] 62)).setCell ⟨w.heap.size+1,0,none⟩ (.iface 62 (.agg #[.string rule,.iface 42 (.agg #[.int .i64 pb])]))) (w.heap.size+1) (.cells #[.iface 62 (.agg #[.string rule,.iface 42 (.agg #[.int .i64 pb])])] 38):=BL.put (BL.alloc be _) 0 _
  have bt2:BL ((w1.alloc (.cells #[.string rule,.iface 42 (.agg #[.int .i64 pb])] 62)).setCell ⟨w.heap.size+1,0,none⟩ (.iface 62 (.agg #[.string rule,.iface 42 (.agg #[.int .i64 pb])]))) w.heap.size yA:=BL.set (BL.alloc bt _) _ zK
  have G1:w.grownBy w1 none:=yP (v:=.slice (some ⟨w.heap.size+2,0,none⟩) 1 1) (zr (zr (zr (zo w none) _) _) _) hg (fun x hx=>by simp only [Value.ownBlock,Option.some.injEq] at hx;omega)
  have G2:=yF (zr G1 (.cells #[.string rule,.iface 42 (.agg #[.int .i64 pb])] 62)) (p:=⟨w.heap.size+1,0,none⟩) (.iface 62 (.agg #[.string rule,.iface 42 (.agg #[.int .i64 pb])])) (Or.inl zK)
  have ze:=be2.cell
  have zt:=bt2.cell
  rw [zk HR] at hq
  show Leaves Tryz.prog Tryz.f10 _ _ [] .returning _
  refine ⟨.tuple #[.agg #[.int .i64 0,.string ⟨#[]⟩,.int .i64 0,.int .i64 0,.string ⟨#[]⟩,.int .i64 0,.slice none 0 0],.iface 62 (.agg #[.string rule,.iface 42 (.agg #[.int .i64 pb])])], ?_,G2,Or.inr ⟨pb,rule,hq,rfl⟩⟩
  generalize ((w1.alloc (.cells #[.string rule,.iface 42 (.agg #[.int .i64 pb])] 62)).setCell ⟨w.heap.size+1,0,none⟩ (.iface 62 (.agg #[.string rule,.iface 42 (.agg #[.int .i64 pb])])))=wf at ze zt
  simp [results,Tryz.results10,go_sem,ze,zt]
open Go.RowKit Go.Extern.Stop Go.Stop Go.Extern Lx
theorem Tryz.valueOfP52 (t:Addr) (w:World):(ReflectliteValue.unpack (.iface 44 (.pointer (some t)))).run Tryz.prog w
 = .ok (.agg #[.pointer (some ⟨5,44,none⟩),.pointer (some ⟨w.heap.size,0,none⟩),.int .u64 150]) (w.alloc (.cells #[.pointer (some t)] 44)):=by kernel_rfl
theorem Tryz.typeP52 (a:Addr) (w:World):(ReflectliteValue.methodAny (ReflectliteValue.valueError "reflectlite.Value.Type" 0) (fun t _ _ _=>ReflectliteType.toType t) #[.agg #[.pointer (some ⟨5,44,none⟩),.pointer (some a),.int .u64 150]]).run Tryz.prog w
 = .ok (.iface 90 (.agg #[.pointer (some ⟨5,44,none⟩)])) w:=by kernel_rfl
theorem Tryz.kindP52 (w:World):((ReflectliteType.abiMethod fun t=>(fun a:Nat=>Value.int IntKind.u8 (a:Int)) <$> Rtype.kind t) #[.pointer (some ⟨5,44,none⟩)]).run Tryz.prog w=.ok (.int .u8 22) w:=by kernel_rfl
theorem Tryz.kindP50 (w:World):((ReflectliteType.abiMethod fun t=>(fun a:Nat=>Value.int IntKind.u8 (a:Int)) <$> Rtype.kind t) #[.pointer (some ⟨5,42,none⟩)]).run Tryz.prog w=.ok (.int .u8 25) w:=by kernel_rfl
theorem Tryz.partsP52 (a:Addr) (w:World):(ReflectliteValue.parts (.agg #[.pointer (some ⟨5,44,none⟩),.pointer (some a),.int .u64 150])).run Tryz.prog w=.ok (some (44,a,150)) w:=by kernel_rfl
theorem Tryz.isNilP52 (a p:Addr) (W:World) (ha:W.cell? a=some (.pointer (some p))) :
 (ReflectliteValue.method (ReflectliteValue.valueError "reflectlite.Value.IsNil" 0) ReflectliteValue.isNil #[.agg #[.pointer (some ⟨5,44,none⟩),.pointer (some a),.int .u64 150]]).run Tryz.prog W=.ok (.bool false) W:=by
 rw [rlm]
 simp only [Sem.run_bind,Tryz.partsP52,Result.andThen]
 simp [ReflectliteValue.isNil,loadVar,isAgg,underlying,Tryz.underlying44,ha,Result.andThen]
theorem Tryz.rZ (h:Value) (w:World):(Go.method 294 62 h "Unwrap").run Tryz.prog w=.ok (190,h) w:=by kernel_rfl
theorem Tryz.elemP52 (w:World):(ReflectliteType.method ReflectliteType.elem #[.agg #[.pointer (some ⟨5,44,none⟩)]]).run Tryz.prog w=.ok (.iface 90 (.agg #[.pointer (some ⟨5,42,none⟩)])) w:=by kernel_rfl
theorem Tryz.rU (w:World):(ReflectliteType.relation "Implements" ReflectliteType.implements_ #[.agg #[.pointer (some ⟨5,42,none⟩)],.iface 90 (.agg #[.pointer (some ⟨5,38,none⟩)])]).run Tryz.prog w=.ok (.bool true) w:=by kernel_rfl
theorem Tryz.typeOfP50 (v:Value) (w:World):(ReflectliteType.typeOf #[.iface 42 v]).run Tryz.prog w=.ok (.iface 90 (.agg #[.pointer (some ⟨5,42,none⟩)])) w:=by kernel_rfl
theorem Tryz.typeOfP65 (v:Value) (w:World):(ReflectliteType.typeOf #[.iface 62 v]).run Tryz.prog w=.ok (.iface 90 (.agg #[.pointer (some ⟨5,62,none⟩)])) w:=by kernel_rfl
theorem Tryz.rC (w:World):(ReflectliteType.relation "AssignableTo" ReflectliteType.assignableTo #[.agg #[.pointer (some ⟨5,42,none⟩)],.iface 90 (.agg #[.pointer (some ⟨5,42,none⟩)])]).run Tryz.prog w=.ok (.bool true) w:=by kernel_rfl
theorem Tryz.rD (w:World):(ReflectliteType.relation "AssignableTo" ReflectliteType.assignableTo #[.agg #[.pointer (some ⟨5,62,none⟩)],.iface 90 (.agg #[.pointer (some ⟨5,42,none⟩)])]).run Tryz.prog w=.ok (.bool false) w:=by kernel_rfl
theorem Tryz.valueOfP50 (e:Value) (w:World):(ReflectliteValue.unpack (.iface 42 (.agg #[e]))).run Tryz.prog w
 = .ok (.agg #[.pointer (some ⟨5,42,none⟩),.pointer (some ⟨w.heap.size,0,none⟩),.int .u64 153]) (w.alloc (.cells #[e] 42)):=by kernel_rfl
theorem Tryz.elemOfP52 (w:World):(Rtype.elem? 44).run Tryz.prog w=.ok (some 42) w:=by kernel_rfl
theorem Tryz.mkP50 (p:Addr) (w:World):(ReflectliteValue.mk 42 p ReflectliteValue.flagAddr).run Tryz.prog w=.ok (.agg #[.pointer (some ⟨5,42,none⟩),.pointer (some p),.int .u64 409]) w:=by kernel_rfl
theorem Tryz.elemVP52 (a p:Addr) (W:World) (ha:W.cell? a=some (.pointer (some p))) :
 (ReflectliteValue.method (ReflectliteValue.valueError "reflectlite.Value.Elem" 0) ReflectliteValue.elem #[.agg #[.pointer (some ⟨5,44,none⟩),.pointer (some a),.int .u64 150]]).run Tryz.prog W
  = .ok (.agg #[.pointer (some ⟨5,42,none⟩),.pointer (some p),.int .u64 409]) W:=by
 rw [rlm]
 simp only [Sem.run_bind,Tryz.partsP52,Result.andThen]
 simp [ReflectliteValue.elem,loadVar,isAgg,underlying,Tryz.underlying44,ha,Result.andThen,Tryz.elemOfP52,Tryz.mkP50]
theorem Tryz.partsP50a (a:Addr) (w:World):(ReflectliteValue.parts (.agg #[.pointer (some ⟨5,42,none⟩),.pointer (some a),.int .u64 409])).run Tryz.prog w=.ok (some (42,a,409)) w:=by kernel_rfl
theorem Tryz.partsP50 (a:Addr) (w:World):(ReflectliteValue.parts (.agg #[.pointer (some ⟨5,42,none⟩),.pointer (some a),.int .u64 153])).run Tryz.prog w=.ok (some (42,a,153)) w:=by kernel_rfl
theorem Tryz.directP50 (w:World):(Rtype.directlyAssignable 42 42).run Tryz.prog w=.ok true w:=by kernel_rfl
open Go.RowKit Go.Extern.Stop Go.Stop Go.Extern Lx
theorem Tryz.setP50 (tb bb:Nat) (e old:Value) (W:World) (he:e.oneCell'=true) (hb:W.cell? ⟨bb,0,none⟩=some e) (ht:W.cell? ⟨tb,0,none⟩=some old) (hf:W.frozen? ⟨tb,0,none⟩=false) :
 (ReflectliteValue.set #[.agg #[.pointer (some ⟨5,42,none⟩),.pointer (some ⟨tb,0,none⟩),.int .u64 409],.agg #[.pointer (some ⟨5,42,none⟩),.pointer (some ⟨bb,0,none⟩),.int .u64 153]]).run Tryz.prog W
  = .ok (.tuple #[]) (W.setCell ⟨tb,0,none⟩ e):=by
 rw [rls]
 simp only [Sem.run_bind,Tryz.partsP50a,Tryz.partsP50,Result.andThen]
 simp [ReflectliteValue.flagAddr,loadVar,isAgg,underlying,Tryz.underlying42,Result.andThen,Tryz.directP50,storeVar,Value.cells,storeCells,Addr.add]
 have hl:=run_loadCells_list (P:=Tryz.prog) W ⟨bb,0,none⟩ [e] (fun j v hj=>by
  match j,hj with
  | 0,hj=>simp at hj;subst hj;exact hb)
 simp at hl
 rw [hl]
 simp [storeCells,Addr.add]
 rw [run_store Tryz.prog W ⟨tb,0,none⟩ _ _ he]
 simp [ht,hf]
theorem Tryz.noAsP65 (v:Value) (w:World):(Instr.typeAssert (.iface 62 v) 38 95 true).run Tryz.prog w=.ok (.tuple #[.nilIface,.bool false]) w:=run_typeAssert_lacksB Tryz.underlying95 zG zG v 38 w
theorem Tryz.uO (v:Value) (w:World):(Instr.typeAssert (.iface 62 v) 38 98 true).run Tryz.prog w=.ok (.tuple #[.iface 62 v,.bool true]) w:=run_typeAssert_hasB Tryz.underlying98 zG v 38 w
theorem as_innerP (nm:ByteArray) (p:Int) (tb vb:Nat) (old:Value) (w:World) (ht0:w.cell? ⟨tb,0,none⟩=some old) (hf0:w.frozen? ⟨tb,0,none⟩=false) (hv:w.cell? ⟨vb,0,none⟩=some (.pointer (some ⟨tb,0,none⟩))) :
 Calls Tryz.prog 21 #[.iface 62 (.agg #[.string nm,.iface 42 (.agg #[.int .i64 p])]),.iface 44 (.pointer (some ⟨tb,0,none⟩)),.agg #[.pointer (some ⟨5,44,none⟩),.pointer (some ⟨vb,0,none⟩),.int .u64 150],.iface 90 (.agg #[.pointer (some ⟨5,42,none⟩)])] w
  fun ev w'=>ev=.returned (.bool true)∧w'.cell? ⟨tb,0,none⟩=some (.int .i64 p)∧w.grownBy w' (some tb):=by
 have h20:=@run_callFunc_extern Tryz.prog 18 _ (fun args=>ReflectliteValue.unpack (args.getD 0 (.tuple #[]))) Tryz.func18 zG zG zG zG
 have h35:=@run_callFunc_extern Tryz.prog 31 _ ReflectliteType.typeOf Tryz.func31 zG zG zG zG
 have h67:=@run_callFunc_extern Tryz.prog 195 _ (ReflectliteType.relation "AssignableTo" ReflectliteType.assignableTo) Tryz.func195 zG zG zG zG
 have h36:=@run_callFunc_extern Tryz.prog 32 _ (ReflectliteValue.method (ReflectliteValue.valueError "reflectlite.Value.Elem" 0) ReflectliteValue.elem) Tryz.func32 zG zG zG zG
 have h37:=@run_callFunc_extern Tryz.prog 33 _ ReflectliteValue.set Tryz.func33 zG zG zG zG
 have tO:=Tryz.typeOfP50
 have tP:=Tryz.typeOfP65
 have mA:=Tryz.methodAssignableTo
 have mU:=Tryz.rZ
 have a45:=Tryz.rC
 have a81:=Tryz.rD
 have v45:=Tryz.valueOfP50
 have nA:=Tryz.noAsP65
 have hU:=Tryz.uO
 have htl:tb<w.heap.size:=World.block_lt_of_cell? w ⟨tb,0,none⟩ ht0
 have hvl:vb<w.heap.size:=World.block_lt_of_cell? w ⟨vb,0,none⟩ hv
 have el:=Tryz.elemVP52 ⟨vb,0,none⟩ ⟨tb,0,none⟩ ((w.alloc (.cells #[.pointer (some ⟨5,44,none⟩),.pointer (some ⟨vb,0,none⟩),.int .u64 150] 70)).alloc (.cells #[.string nm,.iface 42 (.agg #[.int .i64 p])] 62)) (by rw [World.cell?_alloc_lt _ _ ⟨vb,0,none⟩ sp,World.cell?_alloc_lt _ _ ⟨vb,0,none⟩ hvl];exact hv)
 have st:=Tryz.setP50 tb (w.heap.size+1+1) (.int .i64 p) old (((w.alloc (.cells #[.pointer (some ⟨5,44,none⟩),.pointer (some ⟨vb,0,none⟩),.int .u64 150] 70)).alloc (.cells #[.string nm,.iface 42 (.agg #[.int .i64 p])] 62)).alloc (.cells #[.int .i64 p] 42)) rfl (by rw [World.cell?_alloc_at _ _ _ _ zK];rfl)
  (by rw [World.cell?_alloc_lt _ _ ⟨tb,0,none⟩ sp,World.cell?_alloc_lt _ _ ⟨tb,0,none⟩ sp,World.cell?_alloc_lt _ _ ⟨tb,0,none⟩ htl];exact ht0)
  (by rw [World.frozen?_alloc_old _ _ ⟨tb,0,none⟩ sp,World.frozen?_alloc_old _ _ ⟨tb,0,none⟩ sp,World.frozen?_alloc_old _ _ ⟨tb,0,none⟩ (Nat.ne_of_lt htl)];exact hf0)
 go_enter Tryz.func21,Tryz.ntmps21
 go_wp2
 refine wp_loop_rounds 2 ?_
 rw [rounds_succ]
 go_wp2
 rw [rounds_succ]
 go_wp2
 go_ret
 refine ⟨rfl, ?_,rfl,rfl,rfl, ?_, ?_⟩
 ·refine World.cell?_setCell_same' _ _ _ ?_
  rw [World.cell?_alloc_lt _ _ ⟨tb,0,none⟩ sp,World.cell?_alloc_lt _ _ ⟨tb,0,none⟩ sp,World.cell?_alloc_lt _ _ ⟨tb,0,none⟩ htl,ht0];rfl
 ·simp [World.setCell];omega
 ·intro k hk hne
  have hne':k≠tb:=fun e=>hne (by rw [e])
  rw [Below.heap_setCell _ _ _ _ hne',Below.heap_alloc _ _ _ sp,Below.heap_alloc _ _ _ sp,Below.heap_alloc _ _ _ hk]
theorem as_hitP (nm:ByteArray) (p:Int) (tb:Nat) (old:Value) (w:World) (hg:w.cell? ⟨0,0,none⟩=some (.iface 90 (.agg #[.pointer (some ⟨5,38,none⟩)]))) (ht0:w.cell? ⟨tb,0,none⟩=some old) (hf0:w.frozen? ⟨tb,0,none⟩=false) :
 Calls Tryz.prog 11 #[.iface 62 (.agg #[.string nm,.iface 42 (.agg #[.int .i64 p])]),.iface 44 (.pointer (some ⟨tb,0,none⟩))] w
  fun ev w'=>ev=.returned (.bool true)∧w'.cell? ⟨tb,0,none⟩=some (.int .i64 p)∧w.grownBy w' (some tb):=by
 have htl:tb<w.heap.size:=World.block_lt_of_cell? w ⟨tb,0,none⟩ ht0
 have h0l:0<w.heap.size:=World.block_lt_of_cell? w ⟨0,0,none⟩ hg
 have h20:=@run_callFunc_extern Tryz.prog 18 _ (fun args=>ReflectliteValue.unpack (args.getD 0 (.tuple #[]))) Tryz.func18 zG zG zG zG
 have h21:=@run_callFunc_extern Tryz.prog 19 _ (ReflectliteValue.methodAny (ReflectliteValue.valueError "reflectlite.Value.Type" 0) (fun t _ _ _=>ReflectliteType.toType t)) Tryz.func19 zG zG zG zG
 have h22:=@run_callFunc_extern Tryz.prog 20 _ (ReflectliteValue.method (ReflectliteValue.valueError "reflectlite.Value.IsNil" 0) ReflectliteValue.isNil) Tryz.func20 zG zG zG zG
 have h59:=@run_callFunc_extern Tryz.prog 183 _ (ReflectliteType.abiMethod fun t=>do pure (.int .u8 (←Rtype.kind t))) Tryz.func183 zG zG zG zG
 have h69:=@run_callFunc_extern Tryz.prog 197 _ (ReflectliteType.method ReflectliteType.elem) Tryz.func197 zG zG zG zG
 have h70:=@run_callFunc_extern Tryz.prog 198 _ (ReflectliteType.relation "Implements" ReflectliteType.implements_) Tryz.func198 zG zG zG zG
 have f47:=Tryz.valueOfP52
 have t47:=Tryz.typeP52
 have mK:=Tryz.methodKind
 have mE:=Tryz.methodElem
 have mI:=Tryz.methodImplements
 have k47:=Tryz.kindP52
 have k45:=Tryz.kindP50
 have e47:=Tryz.elemP52
 have i45:=Tryz.rU
 have n22:=Tryz.isNilP52 ⟨w.heap.size,0,none⟩ ⟨tb,0,none⟩ ((w.alloc (.cells #[.pointer (some ⟨tb,0,none⟩)] 44)).alloc (.cells #[.pointer (some ⟨5,44,none⟩),.pointer (some ⟨w.heap.size,0,none⟩),.int .u64 150] 70)) zK
 have hg2:((w.alloc (.cells #[.pointer (some ⟨tb,0,none⟩)] 44)).alloc (.cells #[.pointer (some ⟨5,44,none⟩),.pointer (some ⟨w.heap.size,0,none⟩),.int .u64 150] 70)).cell? ⟨0,0,none⟩=some (.iface 90 (.agg #[.pointer (some ⟨5,38,none⟩)])):=by
  rw [World.cell?_alloc_lt _ _ ⟨0,0,none⟩ zK,World.cell?_alloc_lt _ _ ⟨0,0,none⟩ h0l];exact hg
 have HIN:=zm (as_innerP nm p tb w.heap.size old ((w.alloc (.cells #[.pointer (some ⟨tb,0,none⟩)] 44)).alloc (.cells #[.pointer (some ⟨5,44,none⟩),.pointer (some ⟨w.heap.size,0,none⟩),.int .u64 150] 70))
  (by rw [World.cell?_alloc_lt _ _ ⟨tb,0,none⟩ sp,World.cell?_alloc_lt _ _ ⟨tb,0,none⟩ htl];exact ht0)
  (by rw [World.frozen?_alloc_old _ _ ⟨tb,0,none⟩ sp,World.frozen?_alloc_old _ _ ⟨tb,0,none⟩ (Nat.ne_of_lt htl)];exact hf0) zK)
 go_enter Tryz.func11,Tryz.ntmps11
 go_wp2_with (first | (go_at_call 21;refine (zk HIN).mono ?_;rintro e w' ⟨rfl,hcc,hgr⟩))
 go_ret
 refine ⟨rfl,hcc,hgr.os,hgr.tape,hgr.output, ?_, ?_⟩
 ·have:=hgr.size;simp at this;omega
 ·intro k hk hne
  rw [hgr.block k sp hne,Below.heap_alloc _ _ _ sp,Below.heap_alloc _ _ _ hk]
open Go.RowKit Lx Px
theorem jw (ts:List Tok) (n:Nat):(kS ts n).length≤ts.length+1:=by
 unfold kS
 repeat' split
 all_goals simp
theorem lex_last (l:List UInt8) (h:(aY l).2.1=0):∃ t,(aY l).1=t++[⟨6,[],0,l.length⟩]∧t.length≤8193:=by
 unfold aY at h ⊢
 split at h
 ·simp at h
 rename_i h1
 rw [if_neg h1]
 cases hs:dm l 0 [] with
 | inl p=>rw [hs] at h;simp at h
 | inr ts=>
   rw [hs] at h
   simp only at h ⊢
   cases hd:eG 0 (jQ ts l.length) with
   | some a=>rw [hd] at h;simp at h
   | none=>
     refine ⟨kS ts l.length,rfl, ?_⟩
     have:=jW l ts hs
     have:=jw ts l.length
     omega
theorem lex_zero (l:List UInt8) (h:(aY l).2.1=0):(aY l).2.2=0:=by
 unfold aY at h ⊢
 split at h
 ·simp at h
 rename_i h1
 rw [if_neg h1]
 cases hs:dm l 0 [] with
 | inl p=>rw [hs] at h;simp at h
 | inr ts=>
   rw [hs] at h
   simp only at h ⊢
   cases hd:eG 0 (jQ ts l.length) with
   | some a=>rw [hd] at h;simp at h
   | none=>rfl
theorem ctx_ok (l:List UInt8) (h:(aY l).2.1=0) (b tb:Nat) (cur:Array Value) (cap:Nat) (hb:tb<b) (hrow:cur.toList.take ((aY l).1.length*4)=yi (aY l).1) (hs:cur.size=cap*4) (hle:(aY l).1.length≤cap) (hc:cap≤maxLen):Ctx.Ok ⟨b,tb,cur,cap,(aY l).1⟩:=by
 obtain ⟨t,h1,h2⟩:=lex_last l h
 refine ⟨hb,hrow,hs,hle,hc, ?_, ?_⟩
 ·intro k hk h6
  show k+1<(aY l).1.length
  have hk':k<(aY l).1.length:=hk
  apply Decidable.byContradiction
  intro hn
  apply h6
  show (Px.zp (aY l).1 k).kind=6
  have hkk:k=t.length:=by rw [h1] at hk' hn;simp at hk' hn;omega
  subst hkk
  rw [h1]
  simp [Px.zp]
 ·show (aY l).1.length≤100000
  rw [h1];simp;omega
open Go.RowKit Lx Px
def sD (ts:List Tok):R:=run ts (64*ts.length+64+1) (.fileMore []) false 0
def oC (l:List UInt8) (w:World) (e:Ending) (w':World):Prop:=Below w.heap.size w w'∧
 (((aY l).2.1≠0∧e=.returned (.tuple #[.agg #[.int .i64 0,.string ⟨#[]⟩,.int .i64 0,.int .i64 0,.string ⟨#[]⟩,.int .i64 0,.slice none 0 0],.agg #[.int .i64 (aY l).2.1,.int .i64 (aY l).2.2]]))
 ∨((aY l).2.1=0∧∃ kd tx nm ps kids s k' ao cp,sD (aY l).1=.ok [.mk kd tx nm ps kids] s k'∧e=.returned (.tuple #[.agg #[.int .i64 kd,.string ⟨tx.toArray⟩,.int .i64 nm,.int .i64 ps,.string ⟨#[]⟩,.int .i64 0,.slice ao kids.length cp],.agg #[.int .i64 0,.int .i64 0]])∧zq w' w.heap.size w'.heap.size (.slice ao kids.length cp) kids)
 ∨((aY l).2.1=0∧∃ p,sD (aY l).1=.bad p∧e=.returned (.tuple #[.agg #[.int .i64 0,.string ⟨#[]⟩,.int .i64 0,.int .i64 0,.string ⟨#[]⟩,.int .i64 0,.slice none 0 0],.agg #[.int .i64 4,.int .i64 p]])))
theorem Parse_lex (s:ByteArray) (w:World) (hv:Vars w) (hf:(aY s.toList).2.1≠0):Calls Tryz.prog 5 #[.string s] w (oC s.toList w):=by
 have HV:=zm hv
 have HF:=zm hf
 clear hv
 go_enter Tryz.func5,Tryz.ntmps5
 go_wp2_with fail
 have b0:BL ((w.alloc yA).alloc (.cells #[.int .i64 0,.int .i64 0] 27)) w.heap.size yA:=BL.alloc (BL.new rfl) _
 have b1:BL ((w.alloc yA).alloc (.cells #[.int .i64 0,.int .i64 0] 27)) (w.heap.size+1) (.cells #[.int .i64 0,.int .i64 0] 27):=BL.new zK
 have B0:Below w.heap.size w ((w.alloc yA).alloc (.cells #[.int .i64 0,.int .i64 0] 27)):=((Below.refl _ _).alloc lr _).alloc zK _
 refine (Scan_any s _ ((zk HV).below (zk HV).lt B0)).mono ?_
 rintro e w1 ⟨v,rfl,hrow,hb1⟩
 have hz1:=hb1.size
 simp at hz1
 have bl0:BL w1 w.heap.size yA:=(hb1.block _ oz).trans b0
 have bl1:BL w1 (w.heap.size+1) (.cells #[.int .i64 0,.int .i64 0] 27):=(hb1.block _ oz).trans b1
 have B1:Below w.heap.size w w1:=B0.trans ⟨hb1.os,hb1.tape,hb1.output,hb1.size,fun k hk=>hb1.block k oz⟩
 have hl0:=bl0.lt
 have hl1:=bl1.lt
 have zc0:=bl0.cell
 have fz0:=bl0.frozen
 have zc1:=bl1.cell
 have fz1:=bl1.frozen
 clear hrow hb1 b0 b1 B0
 have ne1:¬w.heap.size=w1.heap.size:=om
 have nf1:¬w1.heap.size=w.heap.size:=om
 have ne2:¬w.heap.size+1=w1.heap.size:=om
 have nf2:¬w1.heap.size=w.heap.size+1:=om
 go_wp2
 go_region_law (fail)
 all_goals
  go_wp2
  refine bodyPost_ret (v:=.tuple #[.agg #[.int .i64 0,.string ⟨#[]⟩,.int .i64 0,.int .i64 0,.string ⟨#[]⟩,.int .i64 0,.slice none 0 0],.agg #[.int .i64 (aY s.toList).2.1,.int .i64 (aY s.toList).2.2]]) (by simp [results,Tryz.results5,go_sem, *]) rfl ⟨?_,Or.inl ⟨zk HF,rfl⟩⟩
  repeat (first | with_reducible exact B1 | with_reducible refine Below.drew ?_ | (with_reducible refine Below.alloc ?_ oz _) | (with_reducible refine Below.setCell ?_ oz _))
open Go.RowKit Lx Px
theorem Parse_rest (s:ByteArray) (w:World) (hv:Vars w) (hf:(aY s.toList).2.1=0):Calls Tryz.prog 5 #[.string s] w (oC s.toList w):=by
 have hf2:=lex_zero _ hf
 obtain ⟨t0,ht0,-⟩:=lex_last _ hf
 have h0:0<(aY s.toList).1.length:=by rw [ht0];simp
 clear ht0 t0
 have HV:=zm hv
 have HF:=zm hf
 clear hv
 go_enter Tryz.func5,Tryz.ntmps5
 go_wp2_with fail
 have b0:BL ((w.alloc yA).alloc (.cells #[.int .i64 0,.int .i64 0] 27)) w.heap.size yA:=BL.alloc (BL.new rfl) _
 have b1:BL ((w.alloc yA).alloc (.cells #[.int .i64 0,.int .i64 0] 27)) (w.heap.size+1) (.cells #[.int .i64 0,.int .i64 0] 27):=BL.new zK
 have B0:Below w.heap.size w ((w.alloc yA).alloc (.cells #[.int .i64 0,.int .i64 0] 27)):=((Below.refl _ _).alloc lr _).alloc zK _
 refine (Scan_any s _ ((zk HV).below (zk HV).lt B0)).mono ?_
 rintro e w1 ⟨v,he,hrow,hb1⟩
 rw [hf,hf2] at he
 subst he
 have hz1:=hb1.size
 simp at hz1
 have bl0:BL w1 w.heap.size yA:=(hb1.block _ oz).trans b0
 have bl1:BL w1 (w.heap.size+1) (.cells #[.int .i64 0,.int .i64 0] 27):=(hb1.block _ oz).trans b1
 have B1:Below w.heap.size w w1:=B0.trans ⟨hb1.os,hb1.tape,hb1.output,hb1.size,fun k hk=>hb1.block k oz⟩
 obtain ⟨hl,hnil | ⟨g,cap,cur,rfl,hbg,hblk,hle,hcap,hsz,htake⟩⟩:=hrow
 ·exact absurd hnil.2 om
 simp at hbg
 have hgl:=bG hblk
 have hl0:=bl0.lt
 have hl1:=bl1.lt
 have zc0:=bl0.cell
 have fz0:=bl0.frozen
 have zc1:=bl1.cell
 have fz1:=bl1.frozen
 clear hb1 b0 b1 B0
 have ne1:¬w.heap.size=w1.heap.size:=om
 have nf1:¬w1.heap.size=w.heap.size:=om
 have ne2:¬w.heap.size+1=w1.heap.size:=om
 have nf2:¬w1.heap.size=w.heap.size+1:=om
 go_wp2_with fail
 refine (treeOf_w g cur cap (aY s.toList).1 (64*(aY s.toList).1.length+64) _ (ctx_ok s.toList (zk HF) _ _ _ _ oz htake hsz hle hcap) (by first | exact BL.alloc hblk _ | (refine BL.drew ?_;exact BL.alloc hblk _)) h0 (tu _ _)).mono ?_
 rintro e w2 ⟨hg2,hres⟩
 have hz2:=hg2.size
 simp at hz2
 have b2_0:BL w2 w.heap.size yA:=BL.quiet (BL.alloc bl0 _) hg2
 have b2_1:BL w2 (w.heap.size+1) (.cells #[.int .i64 0,.int .i64 0] 27):=BL.quiet (BL.alloc bl1 _) hg2
 have B2:Below w.heap.size w w2:=Below.grown (Below.alloc B1 om _) hg2 sp (fun k hk=>by cases hk)
 have hl2_0:=b2_0.lt
 have hl2_1:=b2_1.lt
 have z2_0:=b2_0.cell
 have f2_0:=b2_0.frozen
 have z2_1:=b2_1.cell
 have f2_1:=b2_1.frozen
 clear zc0 fz0 zc1 fz1 bl0 bl1 hblk htake hl
 have ne3:¬w.heap.size=w2.heap.size:=om
 have nf3:¬w2.heap.size=w.heap.size:=om
 have ne4:¬w.heap.size+1=w2.heap.size:=om
 have nf4:¬w2.heap.size=w.heap.size+1:=om
 rcases hres with ⟨kd,tx,nm,ps,kids,s2,k',ao,cp,hq,rfl,hrow⟩ | ⟨p,rule,hq,rfl⟩
 ·have HQ:=zm hq
  have HW:=zm hrow
  clear hq hrow hg2
  go_wp2_with fail
  refine (as_nil _ _).mono ?_
  rintro e w3 ⟨rfl,rfl⟩
  go_wp2
  refine bodyPost_ret (v:=.tuple #[.agg #[.int .i64 kd,.string ⟨tx.toArray⟩,.int .i64 nm,.int .i64 ps,.string ⟨#[]⟩,.int .i64 0,.slice ao kids.length cp],.agg #[.int .i64 0,.int .i64 0]]) (by simp [results,Tryz.results5,go_sem, *]) rfl ⟨?_,Or.inr (Or.inl ⟨zk HF,kd,tx,nm,ps,kids,s2,k',ao,cp,zk HQ,rfl,zq.ag (zk HW) zB oz oz⟩)⟩
  repeat (first | with_reducible exact B2 | with_reducible refine Below.drew ?_ | (with_reducible refine Below.alloc ?_ oz _) | (with_reducible refine Below.setCell ?_ oz _))
 ·have HQ:=zm hq
  clear hq hg2
  have B3:Below w.heap.size w ((w2.alloc yA).alloc (.cells #[.int .i64 0] 42)):=(by repeat (first | with_reducible exact B2 | with_reducible refine Below.drew ?_ | (with_reducible refine Below.alloc ?_ oz _) | (with_reducible refine Below.setCell ?_ oz _)))
  have b3_0:BL ((w2.alloc yA).alloc (.cells #[.int .i64 0] 42)) w.heap.size yA:=BL.alloc (BL.alloc b2_0 _) _
  have b3_1:BL ((w2.alloc yA).alloc (.cells #[.int .i64 0] 42)) (w.heap.size+1) (.cells #[.int .i64 0,.int .i64 0] 27):=BL.alloc (BL.alloc b2_1 _) _
  have bp:BL ((w2.alloc yA).alloc (.cells #[.int .i64 0] 42)) (w2.heap.size+1) (.cells #[.int .i64 0] 42):=BL.new zK
  have HAs:=zm (as_hitP rule p (w2.heap.size+1) (.int .i64 0) _ ((zk HV).below (zk HV).lt B3).et (bp.cell 0) (bp.frozen 0))
  go_wp2_with fail
  refine (zk HAs).mono ?_
  rintro e w3 ⟨rfl,hcc,hgr⟩
  have hz3:=hgr.size
  simp at hz3
  have c0:=BL.grown b3_0 hgr om
  have c1:=BL.grown b3_1 hgr om
  have B4:Below w.heap.size w w3:=Below.grown B3 hgr sp (fun k hk=>by cases hk;omega)
  have hl3_0:=c0.lt
  have hl3_1:=c1.lt
  have z3_0:=c0.cell
  have f3_0:=c0.frozen
  have z3_1:=c1.cell
  have f3_1:=c1.frozen
  clear z2_0 f2_0 z2_1 f2_1 b2_0 b2_1 b3_0 b3_1 bp HAs hgr
  have ne5:¬w.heap.size=w2.heap.size+1:=om
  have nf5:¬w2.heap.size+1=w.heap.size:=om
  have ne6:¬w.heap.size+1=w2.heap.size+1:=om
  have nf6:¬w2.heap.size+1=w.heap.size+1:=om
  go_wp2
  go_region_law (fail)
  all_goals
   go_wp2
   refine bodyPost_ret (v:=.tuple #[.agg #[.int .i64 0,.string ⟨#[]⟩,.int .i64 0,.int .i64 0,.string ⟨#[]⟩,.int .i64 0,.slice none 0 0],.agg #[.int .i64 4,.int .i64 p]]) (by simp [results,Tryz.results5,go_sem, *]) rfl ⟨?_,Or.inr (Or.inr ⟨zk HF,p,zk HQ,rfl⟩)⟩
   repeat (first | with_reducible exact B4 | with_reducible refine Below.drew ?_ | (with_reducible refine Below.alloc ?_ oz _) | (with_reducible refine Below.setCell ?_ oz _))
theorem sK (s:ByteArray) (w:World) (hv:Vars w):Calls Tryz.prog 5 #[.string s] w (oC s.toList w):=by
 by_cases hf:(aY s.toList).2.1=0
 ·exact Parse_rest s w hv hf
 ·exact Parse_lex s w hv hf
open Go.RowKit Lx Px
open Go.RowKit Lx Px
open Go.RowKit Lx Px
theorem BL.below {w w':World} {B g:Nat} {o:Obj} (h:BL w g o) (b:Below B w w') (hg:g<B):BL w' g o:=(b.block g hg).trans h
end Go.Proofs.YtgbjpnnockoomaaGreatDoor
