import Derived.Test.YtgbjpnnockoomaaGreatDoorQg
import Derived.Test.YtgbjpnnockoomaaGreatDoorParB
import Derived.Test.YtgbjpnnockoomaaGreatDoorSteps
set_option linter.unusedVariables false
set_option linter.unusedSimpArgs false
set_option maxHeartbeats 4000000
set_option maxRecDepth 100000
namespace Go.Proofs.YtgbjpnnockoomaaGreatDoor
open Go.RowKit Lx Px
theorem clause_w (C:Ctx) (ok:C.Ok) (n:Nat) (ih:All C n):CN C 140 .clause #[.pointer (some ⟨C.b,0,none⟩)] (n+1):=by
 intro h k w p hout
 have hr:run C.ts (n+1) .clause h k=dS C.ts (run C.ts n) h k:=rfl
 rw [hr] at hout ⊢
 clear hr
 generalize hR:dS C.ts (run C.ts n) h k=r0 at hout ⊢
 have hbl:=p.lt
 have htb:=ok.lt
 have htf0:=dw
 have htf1:=dL
 have htf3:=bT
 have hmf:=ig
 have G0:=zo w (some C.b)
 have HR:=zm hR
 clear hR
 have HO:=zm hout
 clear hout
 have hkl:=p.kl
 have hfew:=ok.few
 go_enter Tryz.func140,Tryz.ntmps140
 go_wp2_with fail
 refine qc w ok k h (yc C ok k h _ (zw wg)) (zw wg) (yD wg) fun w1 p1 hg hz1 G1=>?_
 (try simp at hz1)
 have bl0_1:BL w1 (w.heap.size) (yA):=BL.grown (yN om) hg om
 have hl0_1:=bl0_1.lt
 clear hg
 have ⟨⟨ne1,nf1⟩,⟨ne2,nf2⟩,⟨ne3,nf3⟩⟩:NN C.b w.heap.size∧NN C.b w1.heap.size∧NN w.heap.size w1.heap.size:=om
 go_wp2_with fail
 refine qc w ok k h (zy C ok k h _ wg) wg wg fun w2 p2 hg hz2 G2=>?_
 (try simp at hz2)
 have bl0_2:BL w2 (w.heap.size) (yA):=BL.grown wg hg om
 have hl0_2:=bl0_2.lt
 clear bl0_1 p1 hg
 have ⟨⟨ne4,nf4⟩,⟨ne5,nf5⟩⟩:NN C.b w2.heap.size∧NN w.heap.size w2.heap.size:=om
 by_cases c0:yb C.ts k [[99,97,115,101]]=true
 rotate_left
 ·skip
  go_wp2_with fail
  refine qc w ok k h (yV C ok k h _ [99,97,115,101] (zw wg) (Bool.eq_false_iff.2 c0)) (zw wg) (yD wg) fun w3 p3 hg hz3 G3=>?_
  (try simp at hz3)
  have bl0_3:BL w3 (w.heap.size) (yA):=BL.grown (yS wg) hg om
  have hl0_3:=bl0_3.lt
  have bl1_3:BL w3 (w2.heap.size) (yE 24 ⟨(yI C.ts k).toArray⟩ 0 (zp C.ts k).pos none 0 0):=BL.grown (yN om) hg om
  have hl1_3:=bl1_3.lt
  clear bl0_2 p2 hg
  have ⟨⟨ne6,nf6⟩,⟨ne7,nf7⟩,⟨ne8,nf8⟩⟩:NN C.b w3.heap.size∧NN w.heap.size w3.heap.size∧NN w2.heap.size w3.heap.size:=om
  by_cases c1:yb C.ts k [[100,101,102,97,117,108,116]]=true
  rotate_left
  ·skip
   go_wp2_with fail
   refine qc w ok k h (yV C ok k h _ [100,101,102,97,117,108,116] wg (Bool.eq_false_iff.2 c1)) wg wg fun w4 p4 hg hz4 G4=>?_
   (try simp at hz4)
   have bl0_4:BL w4 (w.heap.size) (yA):=BL.grown wg hg om
   have hl0_4:=bl0_4.lt
   have bl1_4:BL w4 (w2.heap.size) (yE 24 ⟨(yI C.ts k).toArray⟩ 0 (zp C.ts k).pos none 0 0):=BL.grown wg hg om
   have hl1_4:=bl1_4.lt
   clear bl0_3 bl1_3 p3 hg
   have ⟨⟨ne9,nf9⟩,⟨ne10,nf10⟩,⟨ne11,nf11⟩⟩:NN C.b w4.heap.size∧NN w.heap.size w4.heap.size∧NN w2.heap.size w4.heap.size:=om
   go_wp2_with fail
   refine qc w ok k h (dA C ok k h _ ⟨#[99,108,97,117,115,101]⟩ wg) wg wg fun w5 p5 hg hz5 G5=>?_
   (try simp at hz5)
   have bl0_5:BL w5 (w.heap.size) (yA):=BL.grown wg hg om
   have hl0_5:=bl0_5.lt
   have bl1_5:BL w5 (w2.heap.size) (yE 24 ⟨(yI C.ts k).toArray⟩ 0 (zp C.ts k).pos none 0 0):=BL.grown wg hg om
   have hl1_5:=bl1_5.lt
   clear bl0_4 bl1_4 p4 hg
   have ⟨⟨ne12,nf12⟩,⟨ne13,nf13⟩,⟨ne14,nf14⟩⟩:NN C.b w5.heap.size∧NN w.heap.size w5.heap.size∧NN w2.heap.size w5.heap.size:=om
   go_wp2
   exact yp rfl (zs (by rw [←zk HR];simp only [dS,ub,ef c0,ef c1]) wg)
  go_wp2_with fail
  refine (yU C ok k h _ [100,101,102,97,117,108,116] wg c1).mono ?_
  rintro e w4 ⟨rfl,p4,hg⟩
  have hz4:=hg.size
  (try simp at hz4)
  have G4:w.grownBy w4 (some C.b):=zl wg hg
  have bl0_4:BL w4 (w.heap.size) (yA):=BL.grown wg hg om
  have hl0_4:=bl0_4.lt
  have bl1_4:BL w4 (w2.heap.size) (yE 24 ⟨(yI C.ts k).toArray⟩ 0 (zp C.ts k).pos none 0 0):=BL.grown wg hg om
  have hl1_4:=bl1_4.lt
  have zc1_4:=bl1_4.cell
  clear bl0_3 bl1_3 p3 hg
  have ⟨⟨ne9,nf9⟩,⟨ne10,nf10⟩,⟨ne11,nf11⟩⟩:NN C.b w4.heap.size∧NN w.heap.size w4.heap.size∧NN w2.heap.size w4.heap.size:=om
  have rown:zq w4 (w2.heap.size+1) (w2.heap.size+1) (.slice none 0 0) []:=zq.nil _ _ _
  go_wp2
  go_region_law (first | (refine iK rfl (.tmp 36) (.tmp 39) rfl (lo:=w2.heap.size+1) (hi:=w2.heap.size+1) (ao:=none) (cp:=0) (l:=[]) (t:=.mk kd5 tx5 nm5 ps5 kids5) (A:=lo5) (B:=w5.heap.size) (g0:=w5.heap.size) (cur:=#[.int .i64 kd5,.string ⟨tx5.toArray⟩,.int .i64 nm5,.int .i64 ps5,.string ⟨#[]⟩,.int .i64 0,.slice ao5 kids5.length cp5]) zH (zq.ag rown (yQ zu om) lr lr) zH (yN om) ((Nd.mk (kd:=kd5) (tx:=tx5) (nm:=nm5) (ps:=ps5) row5).ag (yQ zu sq)) rfl iO zK sq sq om sq om ?_;intro g6 cp6 w6 hrw6 hgA hat6 hgl6;have hob:=rown.own;have hz6:=hgA.size;(try simp at hz6);(try simp at hat6);have G6:w.grownBy w6 (some C.b):=yP (yD wg) hgA (fun x hx=>by have:=hob x hx;omega);have p6:=PS.own (C:=C) (k:=k5) (h:=h) (zw wg) ok hgA (fun x hx=>by have:=hob x hx;omega);have bl0_6:BL w6 (w.heap.size) (yA):=BL.own (yS wg) hgA (fun e=>by have:=hob _ e.symm;omega);have hl0_6:=bl0_6.lt;have zc0_6:=bl0_6.cell;have fz0_6:=bl0_6.frozen;have bl1_6:BL w6 (w2.heap.size) (.cells #[.int .i64 24,.string ⟨(yI C.ts k).toArray⟩,.int .i64 0,.int .i64 (zp C.ts k).pos,.string ⟨#[]⟩,.int .i64 0,.slice none 0 0] 25):=BL.own (yS wg) hgA (fun e=>by have:=hob _ e.symm;omega);have hl1_6:=bl1_6.lt;have zc1_6:=bl1_6.cell;have fz1_6:=bl1_6.frozen;clear bl0_5 zc0_5 fz0_5;clear bl1_5 zc1_5 fz1_5;clear p5 hgA hob;have ne15:¬C.b=w6.heap.size:=om;have nf15:¬w6.heap.size=C.b:=om;have ne16:¬w.heap.size=w6.heap.size:=om;have nf16:¬w6.heap.size=w.heap.size:=om;have ne17:¬w2.heap.size=w6.heap.size:=om;have nf17:¬w6.heap.size=w2.heap.size:=om) | (go_simp;go_at_call 152;(refine (ih.at.clauseBlock h (k+1) _ (pw1 wg) (fun hx=>zk HO ((zk HR).symm.trans (by simp only [dS,ub,ef c0,et c1,hx])))).mono ?_;rintro e w5 hp;rcases hp with ⟨kd5,tx5,nm5,ps5,kids5,s5,k5,ao5,cp5,hq,rfl,hrow,p5,hg⟩ | ⟨pb,rule,hq,rfl,hg⟩;rotate_left;(exact ⟨rfl,zs (by rw [←zk HR];simp only [dS,ub,ef c0,et c1,hq]) (zl (gw1 wg) hg)⟩);have hz5:=hg.size;(try simp at hz5);have G5:w.grownBy w5 (some C.b):=zl (gw1 wg) hg;replace rown:=zq.ag rown (Ag.grown (aw1 zu) hg sq om) lr lr;have bl0_5:BL w5 (w.heap.size) (yA):=BL.grown (bw1 wg) hg om;have hl0_5:=bl0_5.lt;have zc0_5:=bl0_5.cell;have fz0_5:=bl0_5.frozen;have bl1_5:BL w5 (w2.heap.size) (.cells #[.int .i64 24,.string ⟨(yI C.ts k).toArray⟩,.int .i64 0,.int .i64 (zp C.ts k).pos,.string ⟨#[]⟩,.int .i64 0,.slice none 0 0] 25):=BL.grown (bw1 wg) hg om;have hl1_5:=bl1_5.lt;have zc1_5:=bl1_5.cell;have fz1_5:=bl1_5.frozen;clear bl0_4;clear bl1_4 zc1_4;clear p4;obtain ⟨lo5,hlo5,row5⟩:=hrow.named;(try simp at hlo5);have HQ5:=zm hq;clear hrow hq;clear hg;have ne12:¬C.b=w5.heap.size:=om;have nf12:¬w5.heap.size=C.b:=om;have ne13:¬w.heap.size=w5.heap.size:=om;have nf13:¬w5.heap.size=w.heap.size:=om;have ne14:¬w2.heap.size=w5.heap.size:=om;have nf14:¬w5.heap.size=w2.heap.size:=om;skip)))
  all_goals
   go_wp2
   refine bodyPost_ret (v:=.agg #[.int .i64 24,.string ⟨(yI C.ts k).toArray⟩,.int .i64 0,.int .i64 (zp C.ts k).pos,.string ⟨#[]⟩,.int .i64 0,.slice (some ⟨g6,0,none⟩) (([]:List Tree).length+1) cp6]) (by simp [results,Tryz.results140,go_sem, *]) rfl (yB (hi:=(World.heap _).size) (s:=0) (k':=k5) (tx:=(yI C.ts k)) (kids:=[.mk kd5 tx5 nm5 ps5 kids5])  (by rw [←zk HR];simp only [dS,ub,ef c0,et c1,zk HQ5]) (zq.wide (hrw6 _ sq (Ag.one (yr (aw3 zu sq) oz)) (yr (aw3 zu sq) oz) (yr (aw3 zu sq) oz)) om lr) om ?_ ?_)
   ·exact yv (pw3 wg ok sq) ok oz
   ·exact yw (gw3 wg sq) oz
 go_wp2_with fail
 refine (yU C ok k h _ [99,97,115,101] (zw wg) c0).mono ?_
 rintro e w3 ⟨rfl,p3,hg⟩
 have hz3:=hg.size
 (try simp at hz3)
 have G3:w.grownBy w3 (some C.b):=zl (yD wg) hg
 have bl0_3:BL w3 (w.heap.size) (yA):=BL.grown (yS wg) hg om
 have hl0_3:=bl0_3.lt
 have bl1_3:BL w3 (w2.heap.size) (yE 24 ⟨(yI C.ts k).toArray⟩ 0 (zp C.ts k).pos none 0 0):=BL.grown (yN om) hg om
 have hl1_3:=bl1_3.lt
 have zc1_3:=bl1_3.cell
 clear bl0_2 p2 hg
 have ⟨⟨ne6,nf6⟩,⟨ne7,nf7⟩,⟨ne8,nf8⟩⟩:NN C.b w3.heap.size∧NN w.heap.size w3.heap.size∧NN w2.heap.size w3.heap.size:=om
 have rown:zq w3 (w2.heap.size+1) (w2.heap.size+1) (.slice none 0 0) []:=zq.nil _ _ _
 go_wp2
 go_region_law (first | (refine iK rfl (.tmp 14) (.tmp 17) rfl (lo:=w2.heap.size+1) (hi:=w2.heap.size+1) (ao:=none) (cp:=0) (l:=[]) (t:=.mk kd4 tx4 nm4 ps4 kids4) (A:=lo4) (B:=w4.heap.size) (g0:=w4.heap.size) (cur:=#[.int .i64 kd4,.string ⟨tx4.toArray⟩,.int .i64 nm4,.int .i64 ps4,.string ⟨#[]⟩,.int .i64 0,.slice ao4 kids4.length cp4]) zH (zq.ag rown (yQ zu om) lr lr) zH (yN om) ((Nd.mk (kd:=kd4) (tx:=tx4) (nm:=nm4) (ps:=ps4) row4).ag (yQ zu sq)) rfl iO zK sq sq om sq om ?_;intro g5 cp5 w5 hrw5 hgA hat5 hgl5;have hob:=rown.own;have hz5:=hgA.size;(try simp at hz5);(try simp at hat5);have G5:w.grownBy w5 (some C.b):=yP (yD wg) hgA (fun x hx=>by have:=hob x hx;omega);have p5:=PS.own (C:=C) (k:=k4) (h:=h) (zw wg) ok hgA (fun x hx=>by have:=hob x hx;omega);have bl0_5:BL w5 (w.heap.size) (yA):=BL.own (yS wg) hgA (fun e=>by have:=hob _ e.symm;omega);have hl0_5:=bl0_5.lt;have zc0_5:=bl0_5.cell;have fz0_5:=bl0_5.frozen;have bl1_5:BL w5 (w2.heap.size) (.cells #[.int .i64 24,.string ⟨(yI C.ts k).toArray⟩,.int .i64 0,.int .i64 (zp C.ts k).pos,.string ⟨#[]⟩,.int .i64 0,.slice none 0 0] 25):=BL.own (yS wg) hgA (fun e=>by have:=hob _ e.symm;omega);have hl1_5:=bl1_5.lt;have zc1_5:=bl1_5.cell;have fz1_5:=bl1_5.frozen;clear bl0_4 zc0_4 fz0_4;clear bl1_4 zc1_4 fz1_4;clear p4 hgA hob;have ne12:¬C.b=w5.heap.size:=om;have nf12:¬w5.heap.size=C.b:=om;have ne13:¬w.heap.size=w5.heap.size:=om;have nf13:¬w5.heap.size=w.heap.size:=om;have ne14:¬w2.heap.size=w5.heap.size:=om;have nf14:¬w5.heap.size=w2.heap.size:=om) | (go_simp;go_at_call 126;(refine (ih.at.expr h (k+1) _ (pw1 wg) (fun hx=>zk HO ((zk HR).symm.trans (by simp only [dS,ub,et c0,hx])))).mono ?_;rintro e w4 hp;rcases hp with ⟨kd4,tx4,nm4,ps4,kids4,s4,k4,ao4,cp4,hq,rfl,hrow,p4,hg⟩ | ⟨pb,rule,hq,rfl,hg⟩;rotate_left;(exact ⟨rfl,zs (by rw [←zk HR];simp only [dS,ub,et c0,hq]) (zl (gw1 wg) hg)⟩);have hz4:=hg.size;(try simp at hz4);have G4:w.grownBy w4 (some C.b):=zl (gw1 wg) hg;replace rown:=zq.ag rown (Ag.grown (aw1 zu) hg sq om) lr lr;have bl0_4:BL w4 (w.heap.size) (yA):=BL.grown (bw1 wg) hg om;have hl0_4:=bl0_4.lt;have zc0_4:=bl0_4.cell;have fz0_4:=bl0_4.frozen;have bl1_4:BL w4 (w2.heap.size) (.cells #[.int .i64 24,.string ⟨(yI C.ts k).toArray⟩,.int .i64 0,.int .i64 (zp C.ts k).pos,.string ⟨#[]⟩,.int .i64 0,.slice none 0 0] 25):=BL.grown (bw1 wg) hg om;have hl1_4:=bl1_4.lt;have zc1_4:=bl1_4.cell;have fz1_4:=bl1_4.frozen;clear bl0_3;clear bl1_3 zc1_3;clear p3;obtain ⟨lo4,hlo4,row4⟩:=hrow.named;(try simp at hlo4);have HQ4:=zm hq;clear hrow hq;clear hg;have ne9:¬C.b=w4.heap.size:=om;have nf9:¬w4.heap.size=C.b:=om;have ne10:¬w.heap.size=w4.heap.size:=om;have nf10:¬w4.heap.size=w.heap.size:=om;have ne11:¬w2.heap.size=w4.heap.size:=om;have nf11:¬w4.heap.size=w2.heap.size:=om;skip)))
 all_goals
  have HR0:Hid ((run C.ts n (.caseMore [.mk kd4 tx4 nm4 ps4 kids4]) h k4).bind (fun es _ k3=>(run C.ts n .clauseBlock h k3).ax fun b _ k4=>R.ok [nd 24 (yI C.ts k) (zp C.ts k).pos (es++[b])] 0 k4)=r0):=zm (by rw [←zk HR];simp only [dS,if_true,et c0,zk HQ4];rfl)
  have rowz:zq (w5.setCell ⟨w2.heap.size,6,none⟩ (.slice (some ⟨g5,0,none⟩) 1 cp5)) (w2.heap.size+1) w5.heap.size (.slice (some ⟨g5,0,none⟩) 1 cp5) [.mk kd4 tx4 nm4 ps4 kids4]:=zq.wide (hrw5 _ sq (Ag.one (aw3 zu sq)) (aw3 zu sq) (aw3 zu sq)) lr zK
  go_wp2
  go_loopg [21] n (fun gk _ wr=>∃ (acc:List Tree) (k':Nat) (ao:Option Addr) (cp:Nat),PS wr C k' h∧BL wr w.heap.size yA∧BL wr w2.heap.size (.cells #[.int .i64 24,.string ⟨(yI C.ts k).toArray⟩,.int .i64 0,.int .i64 (zp C.ts k).pos,.string ⟨#[]⟩,.int .i64 0,.slice ao acc.length cp] 25)∧zq wr (w2.heap.size+1) wr.heap.size (.slice ao acc.length cp) acc∧w.grownBy wr (some C.b)∧Hid ((run C.ts gk (.caseMore acc) h k').bind (fun es _ k3=>(run C.ts n .clauseBlock h k3).ax fun b _ k4=>R.ok [nd 24 (yI C.ts k) (zp C.ts k).pos (es++[b])] 0 k4)=r0)∧gk≤n∧acc.length≤k'+1∧w2.heap.size+1≤wr.heap.size)
  case atStart=>exact ⟨[.mk kd4 tx4 nm4 ps4 kids4],k4,some ⟨g5,0,none⟩,cp5,(pw3 wg ok sq),(bw3 wg om),by show BL _ w2.heap.size (.cells #[.int .i64 24,.string ⟨(yI C.ts k).toArray⟩,.int .i64 0,.int .i64 (zp C.ts k).pos,.string ⟨#[]⟩,.int .i64 0,.slice (some ⟨g5,0,none⟩) 1 cp5] 25);exact (by apply BL.mF wg;simp),zq.wide rowz lr sq,(gw3 wg sq),HR0,Nat.le_refl _,by simp,by simp;omega⟩
  case round=>
   clear HR zc0_5 fz0_5 bl0_5 zc1_5 fz1_5 bl1_5 p5 HR0 rowz hrw5
   obtain ⟨acc,k0,ao0,cp0,p0,bl0_0,bl1_0,row0,Gr,HRr,hle,hacc,hzw⟩:=hrel
   obtain ⟨m,rfl⟩:∃ m,gk=m+1:=zJ
   have HR:Hid ((bY C.ts (run C.ts m) acc h k0).bind (fun es _ k3=>(run C.ts n .clauseBlock h k3).ax fun b _ k4=>R.ok [nd 24 (yI C.ts k) (zp C.ts k).pos (es++[b])] 0 k4)=r0):=zk HRr
   have hkl0:=p0.kl
   have hzr:=Gr.size
   have ihm:=ih m om
   clear HRr p
   have hl0_0:=bl0_0.lt
   have hl1_0:=bl1_0.lt
   have p5:=p0
   clear p0
   by_cases c3:yb C.ts k0 [[44]]=true
   rotate_left
   ·skip
    go_wp2_with fail
    refine qc w ok k0 h (yV C ok k0 h _ [44] wg (Bool.eq_false_iff.2 c3)) wg wg fun w6 p6 hg hz6 G6=>?_
    (try simp at hz6)
    replace row0:=zq.ag row0 (Ag.grown zu hg om om) lr lr
    have bl0_6:BL w6 (w.heap.size) (yA):=BL.grown wg hg om
    have hl0_6:=bl0_6.lt
    have bl1_6:BL w6 (w2.heap.size) (yE 24 ⟨(yI C.ts k).toArray⟩ 0 (zp C.ts k).pos ao0 acc.length cp0):=BL.grown wg hg om
    have hl1_6:=bl1_6.lt
    have zc1_6:=bl1_6.cell
    clear bl0_0 bl1_0 p5 hg
    have ⟨⟨ne15,nf15⟩,⟨ne16,nf16⟩,⟨ne17,nf17⟩⟩:NN C.b w6.heap.size∧NN w.heap.size w6.heap.size∧NN w2.heap.size w6.heap.size:=om
    go_wp2
    go_region_law (first | (refine iK rfl (.tmp 36) (.tmp 39) rfl (lo:=w2.heap.size+1) (hi:=wr.heap.size) (ao:=ao0) (cp:=cp0) (l:=acc) (t:=.mk kd7 tx7 nm7 ps7 kids7) (A:=lo7) (B:=w7.heap.size) (g0:=w7.heap.size) (cur:=#[.int .i64 kd7,.string ⟨tx7.toArray⟩,.int .i64 nm7,.int .i64 ps7,.string ⟨#[]⟩,.int .i64 0,.slice ao7 kids7.length cp7]) zH (zq.ag row0 (yQ zu om) lr lr) zH (yN om) ((Nd.mk (kd:=kd7) (tx:=tx7) (nm:=nm7) (ps:=ps7) row7).ag (yQ zu sq)) rfl iO om sq sq om sq om ?_;intro g8 cp8 w8 hrw8 hgA hat8 hgl8;have hob:=row0.own;have hz8:=hgA.size;(try simp at hz8);(try simp at hat8);have G8:w.grownBy w8 (some C.b):=yP (yD wg) hgA (fun x hx=>by have:=hob x hx;omega);have p8:=PS.own (C:=C) (k:=k7) (h:=h) (zw wg) ok hgA (fun x hx=>by have:=hob x hx;omega);have bl0_8:BL w8 (w.heap.size) (yA):=BL.own (yS wg) hgA (fun e=>by have:=hob _ e.symm;omega);have hl0_8:=bl0_8.lt;have zc0_8:=bl0_8.cell;have fz0_8:=bl0_8.frozen;have bl1_8:BL w8 (w2.heap.size) (.cells #[.int .i64 24,.string ⟨(yI C.ts k).toArray⟩,.int .i64 0,.int .i64 (zp C.ts k).pos,.string ⟨#[]⟩,.int .i64 0,.slice ao0 acc.length cp0] 25):=BL.own (yS wg) hgA (fun e=>by have:=hob _ e.symm;omega);have hl1_8:=bl1_8.lt;have zc1_8:=bl1_8.cell;have fz1_8:=bl1_8.frozen;clear bl0_7 zc0_7 fz0_7;clear bl1_7 zc1_7 fz1_7;clear p7 hgA hob;have ne21:¬C.b=w8.heap.size:=om;have nf21:¬w8.heap.size=C.b:=om;have ne22:¬w.heap.size=w8.heap.size:=om;have nf22:¬w8.heap.size=w.heap.size:=om;have ne23:¬w2.heap.size=w8.heap.size:=om;have nf23:¬w8.heap.size=w2.heap.size:=om) | (go_simp;go_at_call 152;(refine (ih.at.clauseBlock h k0 _ (pw1 wg) (fun hx=>zk HO ((zk HR).symm.trans (by simp only [bY,ub,ef c3,hx])))).mono ?_;rintro e w7 hp;rcases hp with ⟨kd7,tx7,nm7,ps7,kids7,s7,k7,ao7,cp7,hq,rfl,hrow,p7,hg⟩ | ⟨pb,rule,hq,rfl,hg⟩;rotate_left;(exact ⟨rfl,zs (by rw [←zk HR];simp only [bY,ub,ef c3,hq]) (zl (gw1 wg) hg)⟩);have hz7:=hg.size;(try simp at hz7);have G7:w.grownBy w7 (some C.b):=zl (gw1 wg) hg;replace row0:=zq.ag row0 (Ag.grown (aw1 zu) hg sq om) lr lr;have bl0_7:BL w7 (w.heap.size) (yA):=BL.grown (bw1 wg) hg om;have hl0_7:=bl0_7.lt;have zc0_7:=bl0_7.cell;have fz0_7:=bl0_7.frozen;have bl1_7:BL w7 (w2.heap.size) (.cells #[.int .i64 24,.string ⟨(yI C.ts k).toArray⟩,.int .i64 0,.int .i64 (zp C.ts k).pos,.string ⟨#[]⟩,.int .i64 0,.slice ao0 acc.length cp0] 25):=BL.grown (bw1 wg) hg om;have hl1_7:=bl1_7.lt;have zc1_7:=bl1_7.cell;have fz1_7:=bl1_7.frozen;clear bl0_6;clear bl1_6 zc1_6;clear p6;obtain ⟨lo7,hlo7,row7⟩:=hrow.named;(try simp at hlo7);have HQ7:=zm hq;clear hrow hq;clear hg;have ne18:¬C.b=w7.heap.size:=om;have nf18:¬w7.heap.size=C.b:=om;have ne19:¬w.heap.size=w7.heap.size:=om;have nf19:¬w7.heap.size=w.heap.size:=om;have ne20:¬w2.heap.size=w7.heap.size:=om;have nf20:¬w7.heap.size=w2.heap.size:=om;skip)))
    all_goals
     go_wp2
     refine bodyPost_ret (v:=.agg #[.int .i64 24,.string ⟨(yI C.ts k).toArray⟩,.int .i64 0,.int .i64 (zp C.ts k).pos,.string ⟨#[]⟩,.int .i64 0,.slice (some ⟨g8,0,none⟩) (acc.length+1) cp8]) (by simp [results,Tryz.results140,go_sem, *]) rfl (yB (hi:=(World.heap _).size) (s:=0) (k':=k7) (tx:=(yI C.ts k)) (kids:=(acc++[.mk kd7 tx7 nm7 ps7 kids7]))  (by rw [←zk HR];simp only [bY,ub,ef c3,zk HQ7]) (zq.wide (hrw8 _ sq (Ag.one (yr (aw3 zu sq) oz)) (yr (aw3 zu sq) oz) (yr (aw3 zu sq) oz)) om lr) om ?_ ?_)
     ·exact yv (pw3 wg ok sq) ok oz
     ·exact yw (gw3 wg sq) oz
   go_wp2_with fail
   refine (yU C ok k0 h _ [44] wg c3).mono ?_
   rintro e w6 ⟨rfl,p6,hg⟩
   have hz6:=hg.size
   (try simp at hz6)
   have G6:w.grownBy w6 (some C.b):=zl wg hg
   replace row0:=zq.ag row0 (Ag.grown zu hg om om) lr lr
   have bl0_6:BL w6 (w.heap.size) (yA):=BL.grown wg hg om
   have hl0_6:=bl0_6.lt
   have bl1_6:BL w6 (w2.heap.size) (yE 24 ⟨(yI C.ts k).toArray⟩ 0 (zp C.ts k).pos ao0 acc.length cp0):=BL.grown wg hg om
   have hl1_6:=bl1_6.lt
   have zc1_6:=bl1_6.cell
   clear bl0_0 bl1_0 p5 hg
   have ⟨⟨ne15,nf15⟩,⟨ne16,nf16⟩,⟨ne17,nf17⟩⟩:NN C.b w6.heap.size∧NN w.heap.size w6.heap.size∧NN w2.heap.size w6.heap.size:=om
   go_wp2
   go_region_law (first | (refine iK rfl (.tmp 23) (.tmp 26) rfl (lo:=w2.heap.size+1) (hi:=wr.heap.size) (ao:=ao0) (cp:=cp0) (l:=acc) (t:=.mk kd7 tx7 nm7 ps7 kids7) (A:=lo7) (B:=w7.heap.size) (g0:=w7.heap.size) (cur:=#[.int .i64 kd7,.string ⟨tx7.toArray⟩,.int .i64 nm7,.int .i64 ps7,.string ⟨#[]⟩,.int .i64 0,.slice ao7 kids7.length cp7]) zH (zq.ag row0 (yQ zu om) lr lr) zH (yN om) ((Nd.mk (kd:=kd7) (tx:=tx7) (nm:=nm7) (ps:=ps7) row7).ag (yQ zu sq)) rfl iO om sq sq om sq om ?_;intro g8 cp8 w8 hrw8 hgA hat8 hgl8;have hob:=row0.own;have hz8:=hgA.size;(try simp at hz8);(try simp at hat8);have G8:w.grownBy w8 (some C.b):=yP (yD wg) hgA (fun x hx=>by have:=hob x hx;omega);have p8:=PS.own (C:=C) (k:=k7) (h:=h) (zw wg) ok hgA (fun x hx=>by have:=hob x hx;omega);have bl0_8:BL w8 (w.heap.size) (yA):=BL.own (yS wg) hgA (fun e=>by have:=hob _ e.symm;omega);have hl0_8:=bl0_8.lt;have zc0_8:=bl0_8.cell;have fz0_8:=bl0_8.frozen;have bl1_8:BL w8 (w2.heap.size) (.cells #[.int .i64 24,.string ⟨(yI C.ts k).toArray⟩,.int .i64 0,.int .i64 (zp C.ts k).pos,.string ⟨#[]⟩,.int .i64 0,.slice ao0 acc.length cp0] 25):=BL.own (yS wg) hgA (fun e=>by have:=hob _ e.symm;omega);have hl1_8:=bl1_8.lt;have zc1_8:=bl1_8.cell;have fz1_8:=bl1_8.frozen;clear bl0_7 zc0_7 fz0_7;clear bl1_7 zc1_7 fz1_7;clear p7 hgA hob;have ne21:¬C.b=w8.heap.size:=om;have nf21:¬w8.heap.size=C.b:=om;have ne22:¬w.heap.size=w8.heap.size:=om;have nf22:¬w8.heap.size=w.heap.size:=om;have ne23:¬w2.heap.size=w8.heap.size:=om;have nf23:¬w8.heap.size=w2.heap.size:=om) | (go_simp;go_at_call 126;(refine (ihm.expr h (k0+1) _ (pw1 wg) (fun hx=>zk HO ((zk HR).symm.trans (by simp only [bY,ub,et c3,hx])))).mono ?_;rintro e w7 hp;rcases hp with ⟨kd7,tx7,nm7,ps7,kids7,s7,k7,ao7,cp7,hq,rfl,hrow,p7,hg⟩ | ⟨pb,rule,hq,rfl,hg⟩;rotate_left;(exact ⟨rfl,zs (by rw [←zk HR];simp only [bY,ub,et c3,hq]) (zl (gw1 wg) hg)⟩);have hz7:=hg.size;(try simp at hz7);have G7:w.grownBy w7 (some C.b):=zl (gw1 wg) hg;replace row0:=zq.ag row0 (Ag.grown (aw1 zu) hg sq om) lr lr;have bl0_7:BL w7 (w.heap.size) (yA):=BL.grown (bw1 wg) hg om;have hl0_7:=bl0_7.lt;have zc0_7:=bl0_7.cell;have fz0_7:=bl0_7.frozen;have bl1_7:BL w7 (w2.heap.size) (.cells #[.int .i64 24,.string ⟨(yI C.ts k).toArray⟩,.int .i64 0,.int .i64 (zp C.ts k).pos,.string ⟨#[]⟩,.int .i64 0,.slice ao0 acc.length cp0] 25):=BL.grown (bw1 wg) hg om;have hl1_7:=bl1_7.lt;have zc1_7:=bl1_7.cell;have fz1_7:=bl1_7.frozen;clear bl0_6;clear bl1_6 zc1_6;clear p6;obtain ⟨lo7,hlo7,row7⟩:=hrow.named;(try simp at hlo7);have HQ7:=zm hq;clear hrow hq;clear hg;have ne18:¬C.b=w7.heap.size:=om;have nf18:¬w7.heap.size=C.b:=om;have ne19:¬w.heap.size=w7.heap.size:=om;have nf19:¬w7.heap.size=w.heap.size:=om;have ne20:¬w2.heap.size=w7.heap.size:=om;have nf20:¬w7.heap.size=w2.heap.size:=om;skip)))
   all_goals
    have hmono:=yq C.ts m .expr h (k0+1) _ s7 k7 (zk HQ7)
    simp only [st,bnd] at hmono
    have hmon:=hmono.1
    clear hmono
    have rowz:zq (w8.setCell ⟨w2.heap.size,6,none⟩ (.slice (some ⟨g8,0,none⟩) (acc.length+1) cp8)) (w2.heap.size+1) w8.heap.size (.slice (some ⟨g8,0,none⟩) (acc.length+1) cp8) (acc++[.mk kd7 tx7 nm7 ps7 kids7]):=zq.wide (hrw8 _ sq (Ag.one (aw3 zu sq)) (aw3 zu sq) (aw3 zu sq)) lr zK
    go_wp2
    go_roundg m
    case measure=>omega
    case rel=>exact ⟨acc++[.mk kd7 tx7 nm7 ps7 kids7],k7,some ⟨g8,0,none⟩,cp8,(pw3 wg ok sq),(bw3 wg om),by rw [List.length_append];show BL _ w2.heap.size (.cells #[.int .i64 24,.string ⟨(yI C.ts k).toArray⟩,.int .i64 0,.int .i64 (zp C.ts k).pos,.string ⟨#[]⟩,.int .i64 0,.slice (some ⟨g8,0,none⟩) (acc.length+1) cp8] 25);exact (by apply BL.mF wg;simp),by simpa using zq.wide (hi':=w8.heap.size) rowz lr lr,(gw3 wg sq),zm (by rw [←zk HR];simp only [bY,ub,et c3,zk HQ7]),om,by simp;omega,by simp;omega⟩
open Go.RowKit Lx Px
theorem block_w (C:Ctx) (ok:C.Ok) (n:Nat) (ih:All C n):CN C 79 .block #[.pointer (some ⟨C.b,0,none⟩)] (n+1):=by
 intro h k w p hout
 have hr:run C.ts (n+1) .block h k=gW C.ts (run C.ts n) h k:=rfl
 rw [hr] at hout ⊢
 clear hr
 generalize hR:gW C.ts (run C.ts n) h k=r0 at hout ⊢
 have hbl:=p.lt
 have htf3:=bT
 have G0:=zo w (some C.b)
 have HR:=zm hR
 clear hR
 have HO:=zm hout
 clear hout
 go_enter Tryz.func79,Tryz.ntmps79
 by_cases c1:yb C.ts k [[123]]=true
 rotate_left
 ·skip
  go_wp2_with fail
  refine (yX C ok k h _ ⟨#[98,108,111,99,107]⟩ [123] (zw wg) (Bool.eq_false_iff.2 c1)).mono ?_
  rintro e w1 ⟨rfl,hgq⟩
  exact ⟨rfl,zs (by rw [←zk HR];simp only [gW,ub,ef c1]) (zl (yD wg) (zn hgq))⟩
 go_wp2_with fail
 refine (yJ C ok k h _ ⟨#[98,108,111,99,107]⟩ [123] (zw wg) c1).mono ?_
 rintro e w1 ⟨rfl,p1,hg⟩
 have hz1:=hg.size
 (try simp at hz1)
 have G1:w.grownBy w1 (some C.b):=zl (yD wg) hg
 have bl0_1:BL w1 w.heap.size (yA):=BL.grown (yN om) hg om
 clear hg
 have nf1:¬w.heap.size=C.b:=om
 go_wp2_with fail
 refine (ih.at.stmts h (k+1) _ wg (fun hx=>zk HO ((zk HR).symm.trans (by simp only [gW,ub,et c1,hx])))).mono ?_
 rintro e w2 hp
 rcases hp with ⟨l2,s2,k2,ao2,cp2,hq,rfl,hrow,p2,hg⟩ | ⟨pb,rule,hq,rfl,hg⟩
 rotate_left
 (exact ⟨rfl,zs (by rw [←zk HR];simp only [gW,ub,et c1,hq]) (zl wg hg)⟩)
 have G2:w.grownBy w2 (some C.b):=zl wg hg
 have bl0_2:BL w2 w.heap.size (yA):=BL.grown wg hg om
 clear bl0_1 p1
 obtain ⟨lo2,hlo2,row2⟩:=hrow.named
 (try simp at hlo2)
 have HQ2:=zm hq
 clear hrow hq hg
 by_cases c3:yb C.ts k2 [[125]]=true
 rotate_left
 ·skip
  go_wp2_with fail
  refine (yX C ok k2 h _ ⟨#[98,108,111,99,107]⟩ [125] wg (Bool.eq_false_iff.2 c3)).mono ?_
  rintro e w3 ⟨rfl,hgq⟩
  exact ⟨rfl,zs (by rw [←zk HR];simp only [gW,ub,et c1,zk HQ2,ef c3]) (zl wg (zn hgq))⟩
 go_wp2_with fail
 refine (yJ C ok k2 h _ ⟨#[98,108,111,99,107]⟩ [125] wg c3).mono ?_
 rintro e w3 ⟨rfl,p3,hg⟩
 have hz3:=hg.size
 (try simp at hz3)
 have G3:w.grownBy w3 (some C.b):=zl wg hg
 replace row2:=zq.ag row2 (Ag.grown zu hg om om) lr lr
 have bl0_3:BL w3 w.heap.size (yA):=BL.grown wg hg om
 have zc0_3:=bl0_3.cell
 have fz0_3:=bl0_3.frozen
 clear bl0_2 p2 hg
 go_wp2
 refine bodyPost_ret (v:=.agg #[.int .i64 16,.string ⟨#[]⟩,.int .i64 0,.int .i64 (zp C.ts k).pos,.string ⟨#[]⟩,.int .i64 0,.slice ao2 l2.length cp2]) (by simp [results,Tryz.results79,go_sem, *]) rfl (yB (hi:=w2.heap.size) (s:=0) (k':=k2+1) (tx:=[]) (kids:=l2) (by rw [←zk HR];simp only [gW,ub,et c1,zk HQ2,et c3]) (row2.ag (yr zu oz) om lr) sq ?_ ?_)
 ·exact yv wg ok oz
 ·exact yw wg oz
theorem rH (C:Ctx) (ok:C.Ok) (n:Nat) (ih:All C n):CN C 152 .clauseBlock #[.pointer (some ⟨C.b,0,none⟩)] (n+1):=by
 intro h k w p hout
 have hr:run C.ts (n+1) .clauseBlock h k=aX C.ts (run C.ts n) h k:=rfl
 rw [hr] at hout ⊢
 clear hr
 generalize hR:aX C.ts (run C.ts n) h k=r0 at hout ⊢
 have hbl:=p.lt
 have htf3:=bT
 have G0:=zo w (some C.b)
 have HR:=zm hR
 clear hR
 have HO:=zm hout
 clear hout
 go_enter Tryz.func152,Tryz.ntmps152
 by_cases c1:yb C.ts k [[58]]=true
 rotate_left
 ·skip
  go_wp2_with fail
  refine (yX C ok k h _ ⟨#[99,108,97,117,115,101]⟩ [58] (zw wg) (Bool.eq_false_iff.2 c1)).mono ?_
  rintro e w1 ⟨rfl,hgq⟩
  exact ⟨rfl,zs (by rw [←zk HR];simp only [aX,ub,ef c1]) (zl (yD wg) (zn hgq))⟩
 go_wp2_with fail
 refine (yJ C ok k h _ ⟨#[99,108,97,117,115,101]⟩ [58] (zw wg) c1).mono ?_
 rintro e w1 ⟨rfl,p1,hg⟩
 have hz1:=hg.size
 (try simp at hz1)
 have G1:w.grownBy w1 (some C.b):=zl (yD wg) hg
 have bl0_1:BL w1 w.heap.size (yA):=BL.grown (yN om) hg om
 clear hg
 have nf1:¬w.heap.size=C.b:=om
 go_wp2_with fail
 refine (ih.at.stmts h (k+1) _ wg (fun hx=>zk HO ((zk HR).symm.trans (by simp only [aX,ub,et c1,hx])))).mono ?_
 rintro e w2 hp
 rcases hp with ⟨l2,s2,k2,ao2,cp2,hq,rfl,hrow,p2,hg⟩ | ⟨pb,rule,hq,rfl,hg⟩
 rotate_left
 (exact ⟨rfl,zs (by rw [←zk HR];simp only [aX,ub,et c1,hq]) (zl wg hg)⟩)
 have G2:w.grownBy w2 (some C.b):=zl wg hg
 have bl0_2:BL w2 w.heap.size (yA):=BL.grown wg hg om
 have zc0_2:=bl0_2.cell
 have fz0_2:=bl0_2.frozen
 clear bl0_1 p1
 obtain ⟨lo2,hlo2,row2⟩:=hrow.named
 (try simp at hlo2)
 have HQ2:=zm hq
 clear hrow hq hg
 go_wp2
 refine bodyPost_ret (v:=.agg #[.int .i64 16,.string ⟨#[]⟩,.int .i64 0,.int .i64 (zp C.ts k).pos,.string ⟨#[]⟩,.int .i64 0,.slice ao2 l2.length cp2]) (by simp [results,Tryz.results152,go_sem, *]) rfl (yB (hi:=w2.heap.size) (s:=0) (k':=k2) (tx:=[]) (kids:=l2) (by rw [←zk HR];simp only [aX,ub,et c1,zk HQ2]) (row2.ag (yr zu oz) om lr) sq ?_ ?_)
 ·exact yv wg ok oz
 ·exact yw wg oz
theorem breakable_w (C:Ctx) (ok:C.Ok) (n:Nat) (ih:All C n):CN C 114 .breakable #[.pointer (some ⟨C.b,0,none⟩)] (n+1):=by
 intro h k w p hout
 have hr:run C.ts (n+1) .breakable h k=aN C.ts (run C.ts n) h k:=rfl
 rw [hr] at hout ⊢
 clear hr
 generalize hR:aN C.ts (run C.ts n) h k=r0 at hout ⊢
 have hbl:=p.lt
 have G0:=zo w (some C.b)
 have HR:=zm hR
 clear hR
 have HO:=zm hout
 clear hout
 by_cases sfor:yI C.ts k=[102,111,114]
 ·skip
  have h6:=zm (dH sfor)
  go_enter Tryz.func114,Tryz.ntmps114
  go_wp2_with fail
  refine qc w ok k h (yc C ok k h _ (zw wg)) (zw wg) (yD wg) fun w1 p1 hg hz1 G1=>?_
  (try simp at hz1)
  have bl0_1:BL w1 w.heap.size (yA):=BL.grown (yN om) hg om
  clear hg
  have nf1:¬w.heap.size=C.b:=om
  go_wp2_with fail
  refine (ih.at.forStmt h k _ wg (zk h6) (fun hx=>zk HO ((zk HR).symm.trans (by simp only [aN,ub,et sfor,hx])))).mono ?_
  rintro e w2 hp
  rcases hp with ⟨kd2,tx2,nm2,ps2,kids2,s2,k2,ao2,cp2,hq,rfl,hrow,p2,hg⟩ | ⟨pb,rule,hq,rfl,hg⟩
  rotate_left
  (exact ⟨rfl,zs (by rw [←zk HR];simp only [aN,ub,et sfor,hq]) (zl wg hg)⟩)
  have G2:w.grownBy w2 (some C.b):=zl wg hg
  have bl0_2:BL w2 w.heap.size (yA):=BL.grown wg hg om
  have zc0_2:=bl0_2.cell
  have fz0_2:=bl0_2.frozen
  clear bl0_1 p1
  obtain ⟨lo2,hlo2,row2⟩:=hrow.named
  (try simp at hlo2)
  have HQ2:=zm hq
  clear hrow hq hg
  go_wp2
  refine bodyPost_ret (v:=.agg #[.int .i64 kd2,.string ⟨tx2.toArray⟩,.int .i64 nm2,.int .i64 ps2,.string ⟨#[]⟩,.int .i64 0,.slice ao2 kids2.length cp2]) (by simp [results,Tryz.results114,go_sem, *]) rfl (yB (hi:=w2.heap.size) (s:=s2) (k':=k2) (tx:=tx2) (kids:=kids2) (by rw [←zk HR];simp only [aN,ub,et sfor,zk HQ2]) (row2.ag (yr zu oz) om lr) sq ?_ ?_)
  ·exact yv wg ok oz
  ·exact yw wg oz
 by_cases sswitch:yI C.ts k=[115,119,105,116,99,104]
 ·skip
  have h6:=zm (dH sswitch)
  go_enter Tryz.func114,Tryz.ntmps114
  go_wp2_with fail
  refine qc w ok k h (yc C ok k h _ (zw wg)) (zw wg) (yD wg) fun w1 p1 hg hz1 G1=>?_
  (try simp at hz1)
  have bl0_1:BL w1 w.heap.size (yA):=BL.grown (yN om) hg om
  clear hg
  have nf1:¬w.heap.size=C.b:=om
  go_wp2_with fail
  refine (ih.at.switchStmt h k _ wg (zk h6) (fun hx=>zk HO ((zk HR).symm.trans (by simp only [aN,ub,ef sfor,et sswitch,hx])))).mono ?_
  rintro e w2 hp
  rcases hp with ⟨kd2,tx2,nm2,ps2,kids2,s2,k2,ao2,cp2,hq,rfl,hrow,p2,hg⟩ | ⟨pb,rule,hq,rfl,hg⟩
  rotate_left
  (exact ⟨rfl,zs (by rw [←zk HR];simp only [aN,ub,ef sfor,et sswitch,hq]) (zl wg hg)⟩)
  have G2:w.grownBy w2 (some C.b):=zl wg hg
  have bl0_2:BL w2 w.heap.size (yA):=BL.grown wg hg om
  have zc0_2:=bl0_2.cell
  have fz0_2:=bl0_2.frozen
  clear bl0_1 p1
  obtain ⟨lo2,hlo2,row2⟩:=hrow.named
  (try simp at hlo2)
  have HQ2:=zm hq
  clear hrow hq hg
  go_wp2
  refine bodyPost_ret (v:=.agg #[.int .i64 kd2,.string ⟨tx2.toArray⟩,.int .i64 nm2,.int .i64 ps2,.string ⟨#[]⟩,.int .i64 0,.slice ao2 kids2.length cp2]) (by simp [results,Tryz.results114,go_sem, *]) rfl (yB (hi:=w2.heap.size) (s:=s2) (k':=k2) (tx:=tx2) (kids:=kids2) (by rw [←zk HR];simp only [aN,ub,ef sfor,et sswitch,zk HQ2]) (row2.ag (yr zu oz) om lr) sq ?_ ?_)
  ·exact yv wg ok oz
  ·exact yw wg oz
 by_cases sselect:yI C.ts k=[115,101,108,101,99,116]
 ·skip
  have h6:=zm (dH sselect)
  go_enter Tryz.func114,Tryz.ntmps114
  go_wp2_with fail
  refine qc w ok k h (yc C ok k h _ (zw wg)) (zw wg) (yD wg) fun w1 p1 hg hz1 G1=>?_
  (try simp at hz1)
  have bl0_1:BL w1 w.heap.size (yA):=BL.grown (yN om) hg om
  clear hg
  have nf1:¬w.heap.size=C.b:=om
  go_wp2_with fail
  refine (ih.at.selectStmt h k _ wg (zk h6) (fun hx=>zk HO ((zk HR).symm.trans (by simp only [aN,ub,ef sfor,ef sswitch,et sselect,hx])))).mono ?_
  rintro e w2 hp
  rcases hp with ⟨kd2,tx2,nm2,ps2,kids2,s2,k2,ao2,cp2,hq,rfl,hrow,p2,hg⟩ | ⟨pb,rule,hq,rfl,hg⟩
  rotate_left
  (exact ⟨rfl,zs (by rw [←zk HR];simp only [aN,ub,ef sfor,ef sswitch,et sselect,hq]) (zl wg hg)⟩)
  have G2:w.grownBy w2 (some C.b):=zl wg hg
  have bl0_2:BL w2 w.heap.size (yA):=BL.grown wg hg om
  have zc0_2:=bl0_2.cell
  have fz0_2:=bl0_2.frozen
  clear bl0_1 p1
  obtain ⟨lo2,hlo2,row2⟩:=hrow.named
  (try simp at hlo2)
  have HQ2:=zm hq
  clear hrow hq hg
  go_wp2
  refine bodyPost_ret (v:=.agg #[.int .i64 kd2,.string ⟨tx2.toArray⟩,.int .i64 nm2,.int .i64 ps2,.string ⟨#[]⟩,.int .i64 0,.slice ao2 kids2.length cp2]) (by simp [results,Tryz.results114,go_sem, *]) rfl (yB (hi:=w2.heap.size) (s:=s2) (k':=k2) (tx:=tx2) (kids:=kids2) (by rw [←zk HR];simp only [aN,ub,ef sfor,ef sswitch,et sselect,zk HQ2]) (row2.ag (yr zu oz) om lr) sq ?_ ?_)
  ·exact yv wg ok oz
  ·exact yw wg oz
 have bsfor:(yI C.ts k==[102,111,114])=false:=beq_eq_false_iff_ne.2 sfor
 have bsswitch:(yI C.ts k==[115,119,105,116,99,104])=false:=beq_eq_false_iff_ne.2 sswitch
 have bsselect:(yI C.ts k==[115,101,108,101,99,116])=false:=beq_eq_false_iff_ne.2 sselect
 go_enter Tryz.func114,Tryz.ntmps114
 go_wp2_with fail
 refine qc w ok k h (yc C ok k h _ (zw wg)) (zw wg) (yD wg) fun w1 p1 hg _ G1=>?_
 clear hg
 go_wp2_with fail
 refine (dA C ok k h _ ⟨#[108,97,98,101,108]⟩ wg).mono ?_
 rintro e w2 ⟨rfl,hgq⟩
 have hg:=zn (r:=some C.b) hgq
 clear hgq
 have G2:w.grownBy w2 (some C.b):=zl wg hg
 clear p1 hg
 go_wp2
 exact yp rfl (zs (by rw [←zk HR];simp only [aN,ub,ef sfor,ef sswitch,ef sselect]) wg)
theorem expr_w (C:Ctx) (ok:C.Ok) (n:Nat) (ih:All C n):CN C 126 .expr #[.pointer (some ⟨C.b,0,none⟩)] (n+1):=by
 intro h k w p hout
 have hr:run C.ts (n+1) .expr h k=run C.ts n (.op 1) h k:=rfl
 rw [hr] at hout ⊢
 clear hr
 generalize hR:run C.ts n (.op 1) h k=r0 at hout ⊢
 have hbl:=p.lt
 have G0:=zo w (some C.b)
 have HR:=zm hR
 clear hR
 have HO:=zm hout
 clear hout
 go_enter Tryz.func126,Tryz.ntmps126
 go_wp2_with fail
 refine (ih.at.op 1 dc h k _ (zw wg) (fun hx=>zk HO ((zk HR).symm.trans (by simp only [step,ub,hx])))).mono ?_
 rintro e w1 hp
 rcases hp with ⟨kd1,tx1,nm1,ps1,kids1,s1,k1,ao1,cp1,hq,rfl,hrow,p1,hg⟩ | ⟨pb,rule,hq,rfl,hg⟩
 rotate_left
 (exact ⟨rfl,zs (by rw [←zk HR];simp only [step,ub,hq]) (zl (yD wg) hg)⟩)
 have G1:w.grownBy w1 (some C.b):=zl (yD wg) hg
 have bl0_1:BL w1 w.heap.size (yA):=BL.grown (yN om) hg om
 have zc0_1:=bl0_1.cell
 have fz0_1:=bl0_1.frozen
 obtain ⟨lo1,hlo1,dU⟩:=hrow.named
 (try simp at hlo1)
 have HQ1:=zm hq
 clear hrow hq hg
 go_wp2
 refine bodyPost_ret (v:=.agg #[.int .i64 kd1,.string ⟨tx1.toArray⟩,.int .i64 nm1,.int .i64 ps1,.string ⟨#[]⟩,.int .i64 0,.slice ao1 kids1.length cp1]) (by simp [results,Tryz.results126,go_sem, *]) rfl (yB (hi:=w1.heap.size) (s:=s1) (k':=k1) (tx:=tx1) (kids:=kids1) (by rw [←zk HR];simp only [step,ub,zk HQ1]) (dU.ag (yr zu oz) om lr) sq ?_ ?_)
 ·exact yv wg ok oz
 ·exact yw wg oz
theorem op_w (C:Ctx) (ok:C.Ok) (n:Nat) (ih:All C n) (least:Int) (h1:1≤least):CN C 136 (.op least) #[.pointer (some ⟨C.b,0,none⟩),.int .i64 least] (n+1):=by
 intro h k w p hout
 have hr:run C.ts (n+1) (.op least) h k=fOp (run C.ts n) least h k:=rfl
 rw [hr] at hout ⊢
 clear hr
 generalize hR:fOp (run C.ts n) least h k=r0 at hout ⊢
 have hbl:=p.lt
 have G0:=zo w (some C.b)
 have HR:=zm hR
 clear hR
 have HO:=zm hout
 clear hout
 go_enter Tryz.func136,Tryz.ntmps136
 go_wp2_with fail
 refine (ih.at.unary h k _ (zw wg) (fun hx=>zk HO ((zk HR).symm.trans (by simp only [fOp,ub,hx])))).mono ?_
 rintro e w1 hp
 rcases hp with ⟨kd1,tx1,nm1,ps1,kids1,s1,k1,ao1,cp1,hq,rfl,hrow,p1,hg⟩ | ⟨pb,rule,hq,rfl,hg⟩
 rotate_left
 (exact ⟨rfl,zs (by rw [←zk HR];simp only [fOp,ub,hq]) (zl (yD wg) hg)⟩)
 have hz1:=hg.size
 (try simp at hz1)
 have G1:w.grownBy w1 (some C.b):=zl (yD wg) hg
 have bl0_1:BL w1 w.heap.size (yA):=BL.grown (yN om) hg om
 obtain ⟨lo1,hlo1,dU⟩:=hrow.named
 (try simp at hlo1)
 have HQ1:=zm hq
 clear hrow hq hg
 have nf1:¬w.heap.size=C.b:=om
 go_wp2_with fail
 refine (ih.at.opOf kd1 tx1 nm1 ps1 kids1 least ao1 cp1 h1 h k1 _ lo1 w1.heap.size wg om om om (dU.ag zu lr lr) (fun hx=>zk HO ((zk HR).symm.trans (by simp only [fOp,ub,zk HQ1,hx])))).mono ?_
 rintro e w2 hp
 rcases hp with ⟨kd2,tx2,nm2,ps2,kids2,s2,k2,ao2,cp2,hq,rfl,hrow,p2,hg⟩ | ⟨pb,rule,hq,rfl,hg⟩
 rotate_left
 (exact ⟨rfl,zs (by rw [←zk HR];simp only [fOp,ub,zk HQ1,hq]) (zl wg hg)⟩)
 have G2:w.grownBy w2 (some C.b):=zl wg hg
 have bl0_2:BL w2 w.heap.size (yA):=BL.grown wg hg om
 have zc0_2:=bl0_2.cell
 have fz0_2:=bl0_2.frozen
 clear bl0_1 p1
 obtain ⟨lo2,hlo2,row2⟩:=hrow.named
 (try simp at hlo2)
 have HQ2:=zm hq
 clear hrow hq hg
 go_wp2
 refine bodyPost_ret (v:=.agg #[.int .i64 kd2,.string ⟨tx2.toArray⟩,.int .i64 nm2,.int .i64 ps2,.string ⟨#[]⟩,.int .i64 0,.slice ao2 kids2.length cp2]) (by simp [results,Tryz.results136,go_sem, *]) rfl (yB (hi:=w2.heap.size) (s:=s2) (k':=k2) (tx:=tx2) (kids:=kids2) (by rw [←zk HR];simp only [fOp,ub,zk HQ1,zk HQ2]) (row2.ag (yr zu oz) om lr) sq ?_ ?_)
 ·exact yv wg ok oz
 ·exact yw wg oz
theorem unary_w (C:Ctx) (ok:C.Ok) (n:Nat) (ih:All C n):CN C 145 .unary #[.pointer (some ⟨C.b,0,none⟩)] (n+1):=by
 intro h k w p hout
 have hr:run C.ts (n+1) .unary h k=iw (run C.ts n) h k:=rfl
 rw [hr] at hout ⊢
 clear hr
 generalize hR:iw (run C.ts n) h k=r0 at hout ⊢
 have hbl:=p.lt
 have G0:=zo w (some C.b)
 have HR:=zm hR
 clear hR
 have HO:=zm hout
 clear hout
 go_enter Tryz.func145,Tryz.ntmps145
 go_wp2_with fail
 refine (ih.at.shaped h k _ (zw wg) (fun hx=>zk HO ((zk HR).symm.trans (by simp only [iw,ub,hx])))).mono ?_
 rintro e w1 hp
 rcases hp with ⟨kd1,tx1,nm1,ps1,kids1,s1,k1,ao1,cp1,hq,rfl,hrow,p1,hg⟩ | ⟨pb,rule,hq,rfl,hg⟩
 rotate_left
 (exact ⟨rfl,zs (by rw [←zk HR];simp only [iw,ub,hq]) (zl (yD wg) hg)⟩)
 have G1:w.grownBy w1 (some C.b):=zl (yD wg) hg
 have bl0_1:BL w1 w.heap.size (yA):=BL.grown (yN om) hg om
 have hl0_1:=bl0_1.lt
 have zc0_1:=bl0_1.cell
 have fz0_1:=bl0_1.frozen
 obtain ⟨lo1,hlo1,dU⟩:=hrow.named
 (try simp at hlo1)
 have HQ1:=zm hq
 clear hrow hq hg
 go_wp2
 refine bodyPost_ret (v:=.agg #[.int .i64 kd1,.string ⟨tx1.toArray⟩,.int .i64 nm1,.int .i64 ps1,.string ⟨#[]⟩,.int .i64 0,.slice ao1 kids1.length cp1]) (by simp [results,Tryz.results145,go_sem, *]) rfl (yB (hi:=w1.heap.size) (s:=0) (k':=k1) (tx:=tx1) (kids:=kids1) (by rw [←zk HR];simp only [iw,ub,zk HQ1]) (dU.ag (yQ (yr zu oz) sq) om lr) sq ?_ ?_)
 ·exact zw (yv wg ok oz)
 ·exact yD (yw wg oz)
theorem args_w (C:Ctx) (ok:C.Ok) (n:Nat) (ih:All C n):CL C 143 .args #[.pointer (some ⟨C.b,0,none⟩)] (n+1):=by
 intro h k w p hout
 have hr:run C.ts (n+1) .args h k=run C.ts n (.listed .expr) h k:=rfl
 rw [hr] at hout ⊢
 clear hr
 generalize hR:run C.ts n (.listed .expr) h k=r0 at hout ⊢
 have G0:=zo w (some C.b)
 have HR:=zm hR
 clear hR
 have HO:=zm hout
 clear hout
 go_enter Tryz.func143,Tryz.ntmps143
 go_wp2_with fail
 refine (ih.at.listedE h k _ wg (fun hx=>zk HO ((zk HR).symm.trans (by simp only [step,ub,hx])))).mono ?_
 rintro e w1 hp
 rcases hp with ⟨l1,s1,k1,ao1,cp1,hq,rfl,hrow,p1,hg⟩ | ⟨pb,rule,hq,rfl,hg⟩
 rotate_left
 (exact ⟨rfl,yK (by rw [←zk HR];simp only [step,ub,hq]) (zl wg hg)⟩)
 have G1:w.grownBy w1 (some C.b):=zl wg hg
 obtain ⟨lo1,hlo1,dU⟩:=hrow.named
 (try simp at hlo1)
 have HQ1:=zm hq
 clear hrow hq hg
 go_wp2
 go_ret
 refine yg (hi:=w1.heap.size) (s:=s1) (k':=k1) (l:=l1) (by rw [←zk HR];simp only [step,ub,zk HQ1]) (dU.ag zu om lr) om ?_ ?_
 ·assumption
 ·assumption
open Go.RowKit Lx Px
theorem stmts_w (C:Ctx) (ok:C.Ok) (n:Nat) (ih:All C n):CL C 89 (.stmts []) #[.pointer (some ⟨C.b,0,none⟩)] (n+1):=by
 intro h k w p hout
 generalize hR:run C.ts (n+1) (.stmts []) h k=r0 at hout ⊢
 have hbl:=p.lt
 have htb:=ok.lt
 have hkl:=p.kl
 have hfew:=ok.few
 have htf0:=dw
 have htf1:=dL
 have htf3:=bT
 have hmf:=ig
 have G0:=zo w (some C.b)
 have HR0:=zm hR
 clear hR
 have HO:=zm hout
 clear hout
 go_enter Tryz.func89,Tryz.ntmps89
 go_wp2
 go_loopg [3] (n+1) (fun gk s wr=>∃ (acc:List Tree) (k':Nat) (ao:Option Addr) (cp:Nat),s=.slice ao acc.length cp∧PS wr C k' h∧zq wr w.heap.size wr.heap.size (.slice ao acc.length cp) acc∧w.grownBy wr (some C.b)∧Hid (run C.ts gk (.stmts acc) h k'=r0)∧gk≤n+1∧acc.length≤k')
 case atStart=>exact ⟨[],k,none,0,rfl,p,zq.nil _ _ _,G0,HR0,Nat.le_refl _,Nat.zero_le _⟩
 case round=>
  obtain ⟨acc,k0,ao0,cp0,rfl,p0,row0,Gr,HRr,hle,hacc⟩:=hrel
  obtain ⟨m,rfl⟩:∃ m,gk=m+1:=zJ
  have HR:Hid (gm C.ts (run C.ts m) acc h k0=r0):=zk HRr
  have hkl0:=p0.kl
  have hzr:=Gr.size
  have ihm:=ih m om
  clear HRr p
  by_cases cb:behind C.ts k0=true
  rotate_left
  ·skip
   go_wp2_with fail
   refine qc w ok k0 h (ku C ok k0 h _ wg) wg wg fun w1 p1 hg hz1 G1=>?_
   (try simp at hz1)
   replace row0:=zq.ag row0 (Ag.grown zu hg om om) lr lr
   clear hg
   have ⟨ne1,nf1⟩:NN C.b w1.heap.size:=om
   go_wp2_with fail
   refine (ihm.stmt h k0 _ wg (fun hx=>zk HO ((zk HR).symm.trans (by simp only [gm,ub,ef cb,hx])))).mono ?_
   rintro e w2 hp
   rcases hp with ⟨kd2,tx2,nm2,ps2,kids2,s2,k2,ao2,cp2,hq,rfl,hrow,p2,hg⟩ | ⟨pb,rule,hq,rfl,hg⟩
   rotate_left
   (exact ⟨rfl,yK (by rw [←zk HR];simp only [gm,ub,ef cb,hq]) (zl wg hg)⟩)
   have hz2:=hg.size
   (try simp at hz2)
   have G2:w.grownBy w2 (some C.b):=zl wg hg
   replace row0:=zq.ag row0 (Ag.grown zu hg om om) lr lr
   clear p1
   obtain ⟨lo2,hlo2,row2⟩:=hrow.named
   (try simp at hlo2)
   have HQ2:=zm hq
   clear hrow hq hg
   have ⟨ne2,nf2⟩:NN C.b w2.heap.size:=om
   have hmono:=yq C.ts m .stmt h k0 _ s2 k2 (zk HQ2)
   simp only [st,bnd] at hmono
   have hmon:=hmono.1
   clear hmono
   have hkl2:=p2.kl
   go_wp2_with (first | (at_builtin;(refine dG rfl (.tmp 7) (.tmp 10) rfl (lo:=w.heap.size) (hi:=wr.heap.size) (ao:=ao0) (cp:=cp0) (l:=acc) (t:=.mk kd2 tx2 nm2 ps2 kids2) (A:=lo2) (B:=w2.heap.size) (g0:=w2.heap.size) (cur:=#[.int .i64 kd2,.string ⟨tx2.toArray⟩,.int .i64 nm2,.int .i64 ps2,.string ⟨#[]⟩,.int .i64 0,.slice ao2 kids2.length cp2]) zH (zq.ag row0 (yQ zu om) lr lr) zH (yN om) ((Nd.mk (kd:=kd2) (tx:=tx2) (nm:=nm2) (ps:=ps2) row2).ag (yQ zu sq)) rfl iO om sq sq om sq om ?_;intro g3 cp3 w3 hrw3 hgA hat3 hgl3;have hob:=row0.own;have hz3:=hgA.size;(try simp at hz3);(try simp at hat3);have G3:w.grownBy w3 (some C.b):=yP (yD wg) hgA (fun x hx=>by have:=hob x hx;omega);have p3:=PS.own (C:=C) (k:=k2) (h:=h) (zw wg) ok hgA (fun x hx=>by have:=hob x hx;omega);clear p2 hgA hob;have ne3:¬C.b=w3.heap.size:=om;have nf3:¬w3.heap.size=C.b:=om)))
   have row3:=hrw3 w3 lr rfl (Ag.refl _ _ _) (Ag.refl _ _ _)
   clear hrw3
   by_cases cs:yb C.ts k2 [[59]]=true
   rotate_left
   ·skip
    go_wp2_with fail
    refine qc w ok k2 h (yV C ok k2 h _ [59] wg (Bool.eq_false_iff.2 cs)) wg wg fun w4 p4 hg hz4 G4=>?_
    (try simp at hz4)
    replace row3:=zq.ag row3 (Ag.grown zu hg om om) lr lr
    clear p3 hg
    have ⟨ne4,nf4⟩:NN C.b w4.heap.size:=om
    go_wp2
    go_ret
    refine yg (hi:=w3.heap.size) (s:=0) (k':=k2) (l:=(acc++[.mk kd2 tx2 nm2 ps2 kids2])) (by rw [←zk HR];simp only [gm,ub,ef cb,zk HQ2,ef cs]) (row3.ag zu om lr) om ?_ ?_
    ·assumption
    ·assumption
   go_wp2_with fail
   refine (yU C ok k2 h _ [59] wg cs).mono ?_
   rintro e w4 ⟨rfl,p4,hg⟩
   have hz4:=hg.size
   (try simp at hz4)
   have G4:w.grownBy w4 (some C.b):=zl wg hg
   replace row3:=zq.ag row3 (Ag.grown zu hg om om) lr lr
   clear p3 hg
   have ⟨ne4,nf4⟩:NN C.b w4.heap.size:=om
   go_wp2
   go_roundg m
   case measure=>omega
   case rel=>exact ⟨acc++[.mk kd2 tx2 nm2 ps2 kids2],k2+1,some ⟨g3,0,none⟩,cp3,by simp,wg,by simpa using zq.ag (hi':=w4.heap.size) row3 zu om om,wg,zm (by rw [←zk HR];simp only [gm,ub,ef cb,zk HQ2,et cs]),om,by simp;omega⟩
  go_wp2_with fail
  refine qc w ok k0 h (ku C ok k0 h _ wg) wg wg fun w1 p1 hg hz1 G1=>?_
  (try simp at hz1)
  replace row0:=zq.ag row0 (Ag.grown zu hg om om) lr lr
  clear hg
  have ⟨ne1,nf1⟩:NN C.b w1.heap.size:=om
  by_cases cs:yb C.ts k0 [[59]]=true
  rotate_left
  ·skip
   go_wp2_with fail
   refine qc w ok k0 h (yV C ok k0 h _ [59] wg (Bool.eq_false_iff.2 cs)) wg wg fun w2 p2 hg hz2 G2=>?_
   (try simp at hz2)
   replace row0:=zq.ag row0 (Ag.grown zu hg om om) lr lr
   clear p1 hg
   have ⟨ne2,nf2⟩:NN C.b w2.heap.size:=om
   go_wp2
   go_ret
   refine yg (hi:=wr.heap.size) (s:=0) (k':=k0) (l:=acc) (by rw [←zk HR];simp only [gm,ub,et cb,ef cs]) (row0.ag zu om lr) om ?_ ?_
   ·assumption
   ·assumption
  go_wp2_with fail
  refine (yU C ok k0 h _ [59] wg cs).mono ?_
  rintro e w2 ⟨rfl,p2,hg⟩
  have hz2:=hg.size
  (try simp at hz2)
  have G2:w.grownBy w2 (some C.b):=zl wg hg
  replace row0:=zq.ag row0 (Ag.grown zu hg om om) lr lr
  clear p1 hg
  have ⟨ne2,nf2⟩:NN C.b w2.heap.size:=om
  go_wp2
  go_roundg m
  case measure=>omega
  case rel=>exact ⟨acc,k0+1,ao0,cp0,rfl,wg,zq.ag (hi':=w2.heap.size) row0 zu om om,wg,zm (by rw [←zk HR];simp only [gm,ub,et cb,et cs]),om,om⟩
end Go.Proofs.YtgbjpnnockoomaaGreatDoor
