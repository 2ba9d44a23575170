import Derived.Test.YtgbjpnnockoomaaGreatDoorQg
import Derived.Test.YtgbjpnnockoomaaGreatDoorParB
set_option linter.unusedVariables false
set_option linter.unusedSimpArgs false
set_option maxHeartbeats 4000000
set_option maxRecDepth 100000
namespace Go.Proofs.YtgbjpnnockoomaaGreatDoor
open Go.RowKit Lx Px
theorem bracketed_w (C:Ctx) (ok:C.Ok) (n:Nat) (ih:All C n) (kd:Int) (tx:List UInt8) (nm ps:Int) (kids:List Tree) (pos:Int) (ao:Option Addr) (cp:Nat):CLd C 144 (.bracketed (.mk kd tx nm ps kids) pos) #[.pointer (some ⟨C.b,0,none⟩),.agg #[.int .i64 kd,.string ⟨tx.toArray⟩,.int .i64 nm,.int .i64 ps,.string ⟨#[]⟩,.int .i64 0,.slice ao kids.length cp],.int .i64 pos] kids ao cp sQ (n+1):=by
 intro h k w lo hi p hblo hhi hlow rowa hout
 have hr:run C.ts (n+1) (.bracketed (.mk kd tx nm ps kids) pos) h k=yH C.ts (run C.ts n) (.mk kd tx nm ps kids) pos h k:=rfl
 rw [hr] at hout ⊢
 clear hr
 generalize hR:yH C.ts (run C.ts n) (.mk kd tx nm ps kids) pos h k=r0 at hout ⊢
 have hbl:=p.lt
 have G0:=zo w (some C.b)
 have HR:=zm hR
 clear hR
 have HO:=zm hout
 clear hout
 go_enter Tryz.func144,Tryz.ntmps144
 go_wp2_with fail
 refine qc w ok k h (dh _) (zw (zw wg)) (yD (yD wg)) fun w1 p1 hg hz1 G1=>?_
 (try simp at hz1)
 replace rowa:=zq.ag rowa (Ag.grown (yQ (yQ zu om) sq) hg sq om) lr lr
 have bl0_1:BL w1 (w.heap.size) (yE kd ⟨tx.toArray⟩ nm ps ao kids.length cp):=BL.grown (yS (yN om)) hg om
 have bl1_1:BL w1 (w.heap.size+1) (yA):=BL.grown (yN sq) hg om
 clear hg
 have ⟨nf1,nf2⟩:¬w.heap.size=C.b∧¬w.heap.size+1=C.b:=om
 go_wp2_with fail
 refine qc w ok k h (dh _) wg wg fun w2 p2 hg _ G2=>?_
 replace rowa:=zq.ag rowa (Ag.grown zu hg om om) lr lr
 have bl0_2:BL w2 (w.heap.size) (yE kd ⟨tx.toArray⟩ nm ps ao kids.length cp):=BL.grown wg hg om
 have bl1_2:BL w2 (w.heap.size+1) (yA):=BL.grown wg hg om
 have hl1_2:=bl1_2.lt
 clear bl0_1 bl1_1 p1 hg
 have ⟨nf7,nf8,nf9⟩:¬w2.heap.size=C.b∧¬w2.heap.size=w.heap.size∧¬w2.heap.size=w.heap.size+1:=om
 by_cases c0:yb C.ts k [[58]]=true
 ·skip
  go_wp2_with fail
  refine qc w ok k h (isL C ok k h _ (w2.heap.size+2) [[58]] dc (zw (zw wg)) zK) (zw (zw wg)) (yD (yD wg)) fun w3 p3 hg _ G3=>?_
  replace rowa:=zq.ag rowa (Ag.grown (yQ (yQ zu om) sq) hg sq om) lr lr
  have bl0_3:BL w3 (w.heap.size) (yE kd ⟨tx.toArray⟩ nm ps ao kids.length cp):=BL.grown (yS (yS wg)) hg om
  have bl1_3:BL w3 (w.heap.size+1) (yA):=BL.grown (yS (yS wg)) hg om
  have hl1_3:=bl1_3.lt
  have bl2_3:BL w3 (w2.heap.size) (yE 8 ⟨#[]⟩ 0 0 none 0 0):=BL.grown (yS (yN om)) hg om
  have bl3_3:BL w3 (w2.heap.size+1) (yE 8 ⟨#[]⟩ 0 0 none 0 0):=BL.grown (yN sq) hg om
  clear bl0_2 bl1_2 p2 hg
  have ⟨nf10,nf12,nf14,nf16⟩:¬w2.heap.size+1=C.b∧¬w2.heap.size+1=w.heap.size∧¬w2.heap.size+1=w.heap.size+1∧¬w2.heap.size+1=w2.heap.size:=om
  go_wp2_with fail
  refine (yJ C ok k h _ ⟨#[112,114,105,109,97,114,121]⟩ [58] wg c0).mono ?_
  rintro e w4 ⟨rfl,p4,hg⟩
  have G4:w.grownBy w4 (some C.b):=zl wg hg
  replace rowa:=zq.ag rowa (Ag.grown zu hg om om) lr lr
  have bl0_4:BL w4 (w.heap.size) (yE kd ⟨tx.toArray⟩ nm ps ao kids.length cp):=BL.grown wg hg om
  have bl1_4:BL w4 (w.heap.size+1) (yA):=BL.grown wg hg om
  have hl1_4:=bl1_4.lt
  have bl2_4:BL w4 (w2.heap.size) (yE 8 ⟨#[]⟩ 0 0 none 0 0):=BL.grown wg hg om
  have bl3_4:BL w4 (w2.heap.size+1) (yE 8 ⟨#[]⟩ 0 0 none 0 0):=BL.grown wg hg om
  clear bl0_3 bl1_3 bl2_3 bl3_3 p3 hg
  by_cases cq:yb C.ts (k+1) [[93]]=true
  rotate_left
  ·skip
   go_wp2_with fail
   refine qc w ok (k+1) h (isL C ok (k+1) h _ w4.heap.size [[93]] dc wg zK) wg wg fun w5 p5 hg _ G5=>?_
   replace rowa:=zq.ag rowa (Ag.grown zu hg om om) lr lr
   have bl0_5:BL w5 (w.heap.size) (yE kd ⟨tx.toArray⟩ nm ps ao kids.length cp):=BL.grown wg hg om
   have bl1_5:BL w5 (w.heap.size+1) (yA):=BL.grown wg hg om
   have hl1_5:=bl1_5.lt
   have bl2_5:BL w5 (w2.heap.size) (yE 8 ⟨#[]⟩ 0 0 none 0 0):=BL.grown wg hg om
   have bl3_5:BL w5 (w2.heap.size+1) (yE 8 ⟨#[]⟩ 0 0 none 0 0):=BL.grown wg hg om
   have hl3_5:=bl3_5.lt
   clear bl0_4 bl1_4 bl2_4 bl3_4 p4 hg
   go_wp2_with fail
   refine (iT C ok 126 #[.pointer (some ⟨C.b,0,none⟩)] #[] uI (run C.ts n .expr false (k+1)) false h (k+1) _ wg (fun w0 _ q0=>ih.at.expr false (k+1) w0 q0 (fun hx=>zk HO ((zk HR).symm.trans (by simp only [yH,fA,fG,ub,et c0,ef cq,hx]))))).mono ?_
   rintro e w6 hp
   rcases hp with ⟨kd6,tx6,nm6,ps6,kids6,s6,k6,ao6,cp6,hq,rfl,hrow,p6,hg⟩ | ⟨pb,rule,hq,rfl,hg⟩
   rotate_left
   (exact ⟨rfl,yj (by rw [←zk HR];simp only [yH,fA,fG,ub,et c0,ef cq,hq]) (zl wg hg)⟩)
   have G6:w.grownBy w6 (some C.b):=zl wg hg
   replace rowa:=zq.ag rowa (Ag.grown zu hg om om) lr lr
   have bl0_6:BL w6 (w.heap.size) (yE kd ⟨tx.toArray⟩ nm ps ao kids.length cp):=BL.grown wg hg om
   have bl1_6:BL w6 (w.heap.size+1) (yA):=BL.grown wg hg om
   have hl1_6:=bl1_6.lt
   have bl2_6:BL w6 (w2.heap.size) (yE 8 ⟨#[]⟩ 0 0 none 0 0):=BL.grown wg hg om
   have bl3_6:BL w6 (w2.heap.size+1) (yE 8 ⟨#[]⟩ 0 0 none 0 0):=BL.grown wg hg om
   have zc3_6:=bl3_6.cell
   have fz3_6:=bl3_6.frozen
   clear bl0_5 bl1_5 bl2_5 bl3_5 p5
   obtain ⟨lo6,hlo6,row6⟩:=hrow.named
   (try simp at hlo6)
   have HQ6:=zm hq
   clear hrow hq hg
   by_cases cz:yb C.ts k6 [[93]]=true
   rotate_left
   ·skip
    go_wp2_with fail
    refine (yX C ok k6 h _ ⟨#[112,114,105,109,97,114,121]⟩ [93] (yv wg ok oz) (Bool.eq_false_iff.2 cz)).mono ?_
    rintro e w7 ⟨rfl,hgq⟩
    exact ⟨rfl,yj (by rw [←zk HR];simp only [yH,fA,fG,ub,et c0,ef cq,zk HQ6,ef cz]) (zl (yw wg oz) (zn hgq))⟩
   go_wp2_with fail
   refine (yJ C ok k6 h _ ⟨#[112,114,105,109,97,114,121]⟩ [93] (yv wg ok oz) cz).mono ?_
   rintro e w7 ⟨rfl,p7,hg⟩
   have hz7:=hg.size
   (try simp at hz7)
   have G7:w.grownBy w7 (some C.b):=zl (yw wg oz) hg
   replace rowa:=zq.ag rowa (Ag.grown (aw8 zu oz) hg sq om) lr lr
   replace row6:=zq.ag row6 (Ag.grown (yr zu oz) hg sq om) lr lr
   have bl0_7:BL w7 (w.heap.size) (yE kd ⟨tx.toArray⟩ nm ps ao kids.length cp):=BL.grown (bw7 wg oz) hg om
   have zc0_7:=bl0_7.cell
   have bl1_7:BL w7 (w.heap.size+1) (yA):=BL.grown (bw7 wg oz) hg om
   have hl1_7:=bl1_7.lt
   have zc1_7:=bl1_7.cell
   have fz1_7:=bl1_7.frozen
   have bl2_7:BL w7 (w2.heap.size) (yE 8 ⟨#[]⟩ 0 0 none 0 0):=BL.grown (bw7 wg oz) hg om
   have zc2_7:=bl2_7.cell
   have bl3_7:BL w7 (w2.heap.size+1) (yE kd6 ⟨tx6.toArray⟩ nm6 ps6 ao6 kids6.length cp6):=BL.grown zT hg om
   have zc3_7:=bl3_7.cell
   clear bl0_6 bl1_6 bl2_6 bl3_6 zc3_6 fz3_6 p6 hg
   go_wp2
   refine bodyPost_ret (v:=.tuple #[.agg #[.int .i64 46,.string ⟨#[]⟩,.int .i64 0,.int .i64 pos,.string ⟨#[]⟩,.int .i64 0,.slice (some ⟨w7.heap.size,0,none⟩) 3 3],.int .i64 2]) zU rfl (yd (hi:=w7.heap.size+1) (s:=2) (k':=k6+1) (tx:=[]) (kids:=[.mk kd tx nm ps kids,.mk 8 [] 0 0 [],.mk kd6 tx6 nm6 ps6 kids6])  (by rw [←zk HR];simp only [yH,fA,fG,ub,et c0,ef cq,zk HQ6,et cz]) (jI (n:=3) (cur:=#[.int .i64 kd,.string ⟨tx.toArray⟩,.int .i64 nm,.int .i64 ps,.string ⟨#[]⟩,.int .i64 0,.slice ao kids.length cp,.int .i64 8,.string ⟨#[]⟩,.int .i64 0,.int .i64 0,.string ⟨#[]⟩,.int .i64 0,.slice none 0 0,.int .i64 kd6,.string ⟨tx6.toArray⟩,.int .i64 nm6,.int .i64 ps6,.string ⟨#[]⟩,.int .i64 0,.slice ao6 kids6.length cp6]) (yN sq) rfl rfl dc om om (Kids.snoc (Kids.snoc (Kids.one ((Nd.mk (kd:=kd) (tx:=tx) (nm:=nm) (ps:=ps) rowa).ag (yQ (aw8 zu oz) sq)) om om (.inr om)) (Nd.mk (kd:=8) (tx:=[]) (nm:=0) (ps:=0) (zq.nil _ lo lo)) om om (.inr om)) ((Nd.mk (kd:=kd6) (tx:=tx6) (nm:=nm6) (ps:=ps6) row6).ag (yQ (yr zu oz) sq)) om om (.inr om))) sq ?_ ?_)
   ·exact zw (yv wg ok oz)
   ·exact yD (yw wg oz)
  go_wp2_with fail
  refine qc w ok (k+1) h (isL C ok (k+1) h _ w4.heap.size [[93]] dc wg zK) wg wg fun w5 p5 hg _ G5=>?_
  replace rowa:=zq.ag rowa (Ag.grown zu hg om om) lr lr
  have bl0_5:BL w5 (w.heap.size) (yE kd ⟨tx.toArray⟩ nm ps ao kids.length cp):=BL.grown wg hg om
  have bl1_5:BL w5 (w.heap.size+1) (yA):=BL.grown wg hg om
  have hl1_5:=bl1_5.lt
  have bl2_5:BL w5 (w2.heap.size) (yE 8 ⟨#[]⟩ 0 0 none 0 0):=BL.grown wg hg om
  have bl3_5:BL w5 (w2.heap.size+1) (yE 8 ⟨#[]⟩ 0 0 none 0 0):=BL.grown wg hg om
  clear bl0_4 bl1_4 bl2_4 bl3_4 p4 hg
  go_wp2_with fail
  refine (yJ C ok (k+1) h _ ⟨#[112,114,105,109,97,114,121]⟩ [93] wg cq).mono ?_
  rintro e w6 ⟨rfl,p6,hg⟩
  have G6:w.grownBy w6 (some C.b):=zl wg hg
  replace rowa:=zq.ag rowa (Ag.grown zu hg om om) lr lr
  have bl0_6:BL w6 (w.heap.size) (yE kd ⟨tx.toArray⟩ nm ps ao kids.length cp):=BL.grown wg hg om
  have zc0_6:=bl0_6.cell
  have bl1_6:BL w6 (w.heap.size+1) (yA):=BL.grown wg hg om
  have hl1_6:=bl1_6.lt
  have zc1_6:=bl1_6.cell
  have fz1_6:=bl1_6.frozen
  have bl2_6:BL w6 (w2.heap.size) (yE 8 ⟨#[]⟩ 0 0 none 0 0):=BL.grown wg hg om
  have zc2_6:=bl2_6.cell
  have bl3_6:BL w6 (w2.heap.size+1) (yE 8 ⟨#[]⟩ 0 0 none 0 0):=BL.grown wg hg om
  have zc3_6:=bl3_6.cell
  clear bl0_5 bl1_5 bl2_5 bl3_5 p5 hg
  go_wp2
  refine bodyPost_ret (v:=.tuple #[.agg #[.int .i64 46,.string ⟨#[]⟩,.int .i64 0,.int .i64 pos,.string ⟨#[]⟩,.int .i64 0,.slice (some ⟨w6.heap.size,0,none⟩) 3 3],.int .i64 2]) zU rfl (yd (hi:=w6.heap.size+1) (s:=2) (k':=(k+1)+1) (tx:=[]) (kids:=[.mk kd tx nm ps kids,.mk 8 [] 0 0 [],.mk 8 [] 0 0 []])  (by rw [←zk HR];simp only [yH,fA,fG,ub,et c0,et cq]) (jI (n:=3) (cur:=#[.int .i64 kd,.string ⟨tx.toArray⟩,.int .i64 nm,.int .i64 ps,.string ⟨#[]⟩,.int .i64 0,.slice ao kids.length cp,.int .i64 8,.string ⟨#[]⟩,.int .i64 0,.int .i64 0,.string ⟨#[]⟩,.int .i64 0,.slice none 0 0,.int .i64 8,.string ⟨#[]⟩,.int .i64 0,.int .i64 0,.string ⟨#[]⟩,.int .i64 0,.slice none 0 0]) (yN sq) rfl rfl dc om om (Kids.snoc (Kids.snoc (Kids.one ((Nd.mk (kd:=kd) (tx:=tx) (nm:=nm) (ps:=ps) rowa).ag (yQ (aw8 zu oz) sq)) om om (.inr om)) (Nd.mk (kd:=8) (tx:=[]) (nm:=0) (ps:=0) (zq.nil _ lo lo)) om om (.inr om)) (Nd.mk (kd:=8) (tx:=[]) (nm:=0) (ps:=0) (zq.nil _ lo lo)) om om (.inr om))) sq ?_ ?_)
  ·exact zw (yv wg ok oz)
  ·exact yD (yw wg oz)
 go_wp2_with fail
 refine qc w ok k h (isL C ok k h _ (w2.heap.size+2) [[58]] dc (zw (zw wg)) zK) (zw (zw wg)) (yD (yD wg)) fun w3 p3 hg hz3 G3=>?_
 (try simp at hz3)
 replace rowa:=zq.ag rowa (Ag.grown (yQ (yQ zu om) sq) hg sq om) lr lr
 have bl0_3:BL w3 (w.heap.size) (yE kd ⟨tx.toArray⟩ nm ps ao kids.length cp):=BL.grown (yS (yS wg)) hg om
 have bl1_3:BL w3 (w.heap.size+1) (yA):=BL.grown (yS (yS wg)) hg om
 have hl1_3:=bl1_3.lt
 have bl2_3:BL w3 (w2.heap.size) (yE 8 ⟨#[]⟩ 0 0 none 0 0):=BL.grown (yS (yN om)) hg om
 have bl3_3:BL w3 (w2.heap.size+1) (yE 8 ⟨#[]⟩ 0 0 none 0 0):=BL.grown (yN sq) hg om
 clear bl0_2 bl1_2 p2 hg
 have ⟨nf10,nf12,nf14,⟨ne16,nf16⟩⟩:¬w2.heap.size+1=C.b∧¬w2.heap.size+1=w.heap.size∧¬w2.heap.size+1=w.heap.size+1∧NN w2.heap.size (w2.heap.size+1):=om
 go_wp2_with fail
 refine (iT C ok 126 #[.pointer (some ⟨C.b,0,none⟩)] #[] uI (run C.ts n .expr false k) false h k _ wg (fun w0 _ q0=>ih.at.expr false k w0 q0 (fun hx=>zk HO ((zk HR).symm.trans (by simp only [yH,fA,fG,ub,ef c0,hx]))))).mono ?_
 rintro e w4 hp
 rcases hp with ⟨kd4,tx4,nm4,ps4,kids4,s4,k4,ao4,cp4,hq,rfl,hrow,p4,hg⟩ | ⟨pb,rule,hq,rfl,hg⟩
 rotate_left
 (exact ⟨rfl,yj (by rw [←zk HR];simp only [yH,fA,fG,ub,ef c0,hq]) (zl wg hg)⟩)
 have G4:w.grownBy w4 (some C.b):=zl wg hg
 replace rowa:=zq.ag rowa (Ag.grown zu hg om om) lr lr
 have bl0_4:BL w4 (w.heap.size) (yE kd ⟨tx.toArray⟩ nm ps ao kids.length cp):=BL.grown wg hg om
 have bl1_4:BL w4 (w.heap.size+1) (yA):=BL.grown wg hg om
 have hl1_4:=bl1_4.lt
 have bl2_4:BL w4 (w2.heap.size) (yE 8 ⟨#[]⟩ 0 0 none 0 0):=BL.grown wg hg om
 have zc2_4:=bl2_4.cell
 have fz2_4:=bl2_4.frozen
 have bl3_4:BL w4 (w2.heap.size+1) (yE 8 ⟨#[]⟩ 0 0 none 0 0):=BL.grown wg hg om
 clear bl0_3 bl1_3 bl2_3 bl3_3 p3
 obtain ⟨lo4,hlo4,row4⟩:=hrow.named
 (try simp at hlo4)
 have HQ4:=zm hq
 clear hrow hq hg
 by_cases c1:yb C.ts k4 [[93]]=true
 rotate_left
 ·skip
  go_wp2_with fail
  refine qc w ok k4 h (yV C ok k4 h _ [93] (yv wg ok oz) (Bool.eq_false_iff.2 c1)) (yv wg ok oz) (yw wg oz) fun w5 p5 hg hz5 G5=>?_
  (try simp at hz5)
  replace rowa:=zq.ag rowa (Ag.grown (aw8 zu oz) hg sq om) lr lr
  replace row4:=zq.ag row4 (Ag.grown (yr zu oz) hg sq om) lr lr
  have bl0_5:BL w5 (w.heap.size) (yE kd ⟨tx.toArray⟩ nm ps ao kids.length cp):=BL.grown (bw7 wg oz) hg om
  have bl1_5:BL w5 (w.heap.size+1) (yA):=BL.grown (bw7 wg oz) hg om
  have hl1_5:=bl1_5.lt
  have bl2_5:BL w5 (w2.heap.size) (yE kd4 ⟨tx4.toArray⟩ nm4 ps4 ao4 kids4.length cp4):=BL.grown zT hg om
  have bl3_5:BL w5 (w2.heap.size+1) (yE 8 ⟨#[]⟩ 0 0 none 0 0):=BL.grown (bw7 wg oz) hg om
  clear bl0_4 bl1_4 bl2_4 zc2_4 fz2_4 bl3_4 p4 hg
  by_cases cw:yb C.ts k4 [[58]]=true
  rotate_left
  ·skip
   go_wp2_with fail
   refine (yX C ok k4 h _ ⟨#[112,114,105,109,97,114,121]⟩ [58] wg (Bool.eq_false_iff.2 cw)).mono ?_
   rintro e w6 ⟨rfl,hgq⟩
   exact ⟨rfl,yj (by rw [←zk HR];simp only [yH,fA,fG,ub,ef c0,zk HQ4,ef c1,ef cw]) (zl wg (zn hgq))⟩
  go_wp2_with fail
  refine (yJ C ok k4 h _ ⟨#[112,114,105,109,97,114,121]⟩ [58] wg cw).mono ?_
  rintro e w6 ⟨rfl,p6,hg⟩
  have hz6:=hg.size
  (try simp at hz6)
  have G6:w.grownBy w6 (some C.b):=zl wg hg
  replace rowa:=zq.ag rowa (Ag.grown zu hg om om) lr lr
  replace row4:=zq.ag row4 (Ag.grown zu hg om om) lr lr
  have bl0_6:BL w6 (w.heap.size) (yE kd ⟨tx.toArray⟩ nm ps ao kids.length cp):=BL.grown wg hg om
  have bl1_6:BL w6 (w.heap.size+1) (yA):=BL.grown wg hg om
  have hl1_6:=bl1_6.lt
  have bl2_6:BL w6 (w2.heap.size) (yE kd4 ⟨tx4.toArray⟩ nm4 ps4 ao4 kids4.length cp4):=BL.grown wg hg om
  have bl3_6:BL w6 (w2.heap.size+1) (yE 8 ⟨#[]⟩ 0 0 none 0 0):=BL.grown wg hg om
  clear bl0_5 bl1_5 bl2_5 bl3_5 p5 hg
  by_cases cq:yb C.ts (k4+1) [[93]]=true
  rotate_left
  ·skip
   go_wp2_with fail
   refine qc w ok (k4+1) h (isL C ok (k4+1) h _ w6.heap.size [[93]] dc wg zK) wg wg fun w7 p7 hg hz7 G7=>?_
   (try simp at hz7)
   replace rowa:=zq.ag rowa (Ag.grown zu hg om om) lr lr
   replace row4:=zq.ag row4 (Ag.grown zu hg om om) lr lr
   have bl0_7:BL w7 (w.heap.size) (yE kd ⟨tx.toArray⟩ nm ps ao kids.length cp):=BL.grown wg hg om
   have bl1_7:BL w7 (w.heap.size+1) (yA):=BL.grown wg hg om
   have hl1_7:=bl1_7.lt
   have bl2_7:BL w7 (w2.heap.size) (yE kd4 ⟨tx4.toArray⟩ nm4 ps4 ao4 kids4.length cp4):=BL.grown wg hg om
   have bl3_7:BL w7 (w2.heap.size+1) (yE 8 ⟨#[]⟩ 0 0 none 0 0):=BL.grown wg hg om
   have hl3_7:=bl3_7.lt
   clear bl0_6 bl1_6 bl2_6 bl3_6 p6 hg
   go_wp2_with fail
   refine (iT C ok 126 #[.pointer (some ⟨C.b,0,none⟩)] #[] uI (run C.ts n .expr false (k4+1)) false h (k4+1) _ wg (fun w0 _ q0=>ih.at.expr false (k4+1) w0 q0 (fun hx=>zk HO ((zk HR).symm.trans (by simp only [yH,fA,fG,ub,ef c0,zk HQ4,ef c1,et cw,ef cq,hx]))))).mono ?_
   rintro e w8 hp
   rcases hp with ⟨kd8,tx8,nm8,ps8,kids8,s8,k8,ao8,cp8,hq,rfl,hrow,p8,hg⟩ | ⟨pb,rule,hq,rfl,hg⟩
   rotate_left
   (exact ⟨rfl,yj (by rw [←zk HR];simp only [yH,fA,fG,ub,ef c0,zk HQ4,ef c1,et cw,ef cq,hq]) (zl wg hg)⟩)
   have hz8:=hg.size
   (try simp at hz8)
   have G8:w.grownBy w8 (some C.b):=zl wg hg
   replace rowa:=zq.ag rowa (Ag.grown zu hg om om) lr lr
   replace row4:=zq.ag row4 (Ag.grown zu hg om om) lr lr
   have bl0_8:BL w8 (w.heap.size) (yE kd ⟨tx.toArray⟩ nm ps ao kids.length cp):=BL.grown wg hg om
   have bl1_8:BL w8 (w.heap.size+1) (yA):=BL.grown wg hg om
   have hl1_8:=bl1_8.lt
   have bl2_8:BL w8 (w2.heap.size) (yE kd4 ⟨tx4.toArray⟩ nm4 ps4 ao4 kids4.length cp4):=BL.grown wg hg om
   have bl3_8:BL w8 (w2.heap.size+1) (yE 8 ⟨#[]⟩ 0 0 none 0 0):=BL.grown wg hg om
   have zc3_8:=bl3_8.cell
   have fz3_8:=bl3_8.frozen
   clear bl0_7 bl1_7 bl2_7 bl3_7 p7
   obtain ⟨lo8,hlo8,row8⟩:=hrow.named
   (try simp at hlo8)
   have HQ8:=zm hq
   clear hrow hq hg
   by_cases cz:yb C.ts k8 [[93]]=true
   rotate_left
   ·skip
    go_wp2_with fail
    refine (yX C ok k8 h _ ⟨#[112,114,105,109,97,114,121]⟩ [93] (yv wg ok oz) (Bool.eq_false_iff.2 cz)).mono ?_
    rintro e w9 ⟨rfl,hgq⟩
    exact ⟨rfl,yj (by rw [←zk HR];simp only [yH,fA,fG,ub,ef c0,zk HQ4,ef c1,et cw,ef cq,zk HQ8,ef cz]) (zl (yw wg oz) (zn hgq))⟩
   go_wp2_with fail
   refine (yJ C ok k8 h _ ⟨#[112,114,105,109,97,114,121]⟩ [93] (yv wg ok oz) cz).mono ?_
   rintro e w9 ⟨rfl,p9,hg⟩
   have hz9:=hg.size
   (try simp at hz9)
   have G9:w.grownBy w9 (some C.b):=zl (yw wg oz) hg
   replace rowa:=zq.ag rowa (Ag.grown (aw8 zu oz) hg sq om) lr lr
   replace row4:=zq.ag row4 (Ag.grown (yr zu oz) hg sq om) lr lr
   replace row8:=zq.ag row8 (Ag.grown (yr zu oz) hg sq om) lr lr
   have bl0_9:BL w9 (w.heap.size) (yE kd ⟨tx.toArray⟩ nm ps ao kids.length cp):=BL.grown (bw7 wg oz) hg om
   have zc0_9:=bl0_9.cell
   have bl1_9:BL w9 (w.heap.size+1) (yA):=BL.grown (bw7 wg oz) hg om
   have hl1_9:=bl1_9.lt
   have zc1_9:=bl1_9.cell
   have fz1_9:=bl1_9.frozen
   have bl2_9:BL w9 (w2.heap.size) (yE kd4 ⟨tx4.toArray⟩ nm4 ps4 ao4 kids4.length cp4):=BL.grown (bw7 wg oz) hg om
   have zc2_9:=bl2_9.cell
   have bl3_9:BL w9 (w2.heap.size+1) (yE kd8 ⟨tx8.toArray⟩ nm8 ps8 ao8 kids8.length cp8):=BL.grown zT hg om
   have zc3_9:=bl3_9.cell
   clear bl0_8 bl1_8 bl2_8 bl3_8 zc3_8 fz3_8 p8 hg
   go_wp2
   refine bodyPost_ret (v:=.tuple #[.agg #[.int .i64 46,.string ⟨#[]⟩,.int .i64 0,.int .i64 pos,.string ⟨#[]⟩,.int .i64 0,.slice (some ⟨w9.heap.size,0,none⟩) 3 3],.int .i64 2]) zU rfl (yd (hi:=w9.heap.size+1) (s:=2) (k':=k8+1) (tx:=[]) (kids:=[.mk kd tx nm ps kids,.mk kd4 tx4 nm4 ps4 kids4,.mk kd8 tx8 nm8 ps8 kids8])  (by rw [←zk HR];simp only [yH,fA,fG,ub,ef c0,zk HQ4,ef c1,et cw,ef cq,zk HQ8,et cz]) (jI (n:=3) (cur:=#[.int .i64 kd,.string ⟨tx.toArray⟩,.int .i64 nm,.int .i64 ps,.string ⟨#[]⟩,.int .i64 0,.slice ao kids.length cp,.int .i64 kd4,.string ⟨tx4.toArray⟩,.int .i64 nm4,.int .i64 ps4,.string ⟨#[]⟩,.int .i64 0,.slice ao4 kids4.length cp4,.int .i64 kd8,.string ⟨tx8.toArray⟩,.int .i64 nm8,.int .i64 ps8,.string ⟨#[]⟩,.int .i64 0,.slice ao8 kids8.length cp8]) (yN sq) rfl rfl dc om om (Kids.snoc (Kids.snoc (Kids.one ((Nd.mk (kd:=kd) (tx:=tx) (nm:=nm) (ps:=ps) rowa).ag (yQ (aw8 zu oz) sq)) om om (.inr om)) ((Nd.mk (kd:=kd4) (tx:=tx4) (nm:=nm4) (ps:=ps4) row4).ag (yQ (yr zu oz) sq)) om om (.inr om)) ((Nd.mk (kd:=kd8) (tx:=tx8) (nm:=nm8) (ps:=ps8) row8).ag (yQ (yr zu oz) sq)) om om (.inr om))) sq ?_ ?_)
   ·exact zw (yv wg ok oz)
   ·exact yD (yw wg oz)
  go_wp2_with fail
  refine qc w ok (k4+1) h (isL C ok (k4+1) h _ w6.heap.size [[93]] dc wg zK) wg wg fun w7 p7 hg hz7 G7=>?_
  (try simp at hz7)
  replace rowa:=zq.ag rowa (Ag.grown zu hg om om) lr lr
  replace row4:=zq.ag row4 (Ag.grown zu hg om om) lr lr
  have bl0_7:BL w7 (w.heap.size) (yE kd ⟨tx.toArray⟩ nm ps ao kids.length cp):=BL.grown wg hg om
  have bl1_7:BL w7 (w.heap.size+1) (yA):=BL.grown wg hg om
  have hl1_7:=bl1_7.lt
  have bl2_7:BL w7 (w2.heap.size) (yE kd4 ⟨tx4.toArray⟩ nm4 ps4 ao4 kids4.length cp4):=BL.grown wg hg om
  have bl3_7:BL w7 (w2.heap.size+1) (yE 8 ⟨#[]⟩ 0 0 none 0 0):=BL.grown wg hg om
  clear bl0_6 bl1_6 bl2_6 bl3_6 p6 hg
  go_wp2_with fail
  refine (yJ C ok (k4+1) h _ ⟨#[112,114,105,109,97,114,121]⟩ [93] wg cq).mono ?_
  rintro e w8 ⟨rfl,p8,hg⟩
  have hz8:=hg.size
  (try simp at hz8)
  have G8:w.grownBy w8 (some C.b):=zl wg hg
  replace rowa:=zq.ag rowa (Ag.grown zu hg om om) lr lr
  replace row4:=zq.ag row4 (Ag.grown zu hg om om) lr lr
  have bl0_8:BL w8 (w.heap.size) (yE kd ⟨tx.toArray⟩ nm ps ao kids.length cp):=BL.grown wg hg om
  have zc0_8:=bl0_8.cell
  have bl1_8:BL w8 (w.heap.size+1) (yA):=BL.grown wg hg om
  have hl1_8:=bl1_8.lt
  have zc1_8:=bl1_8.cell
  have fz1_8:=bl1_8.frozen
  have bl2_8:BL w8 (w2.heap.size) (yE kd4 ⟨tx4.toArray⟩ nm4 ps4 ao4 kids4.length cp4):=BL.grown wg hg om
  have zc2_8:=bl2_8.cell
  have bl3_8:BL w8 (w2.heap.size+1) (yE 8 ⟨#[]⟩ 0 0 none 0 0):=BL.grown wg hg om
  have zc3_8:=bl3_8.cell
  clear bl0_7 bl1_7 bl2_7 bl3_7 p7 hg
  go_wp2
  refine bodyPost_ret (v:=.tuple #[.agg #[.int .i64 46,.string ⟨#[]⟩,.int .i64 0,.int .i64 pos,.string ⟨#[]⟩,.int .i64 0,.slice (some ⟨w8.heap.size,0,none⟩) 3 3],.int .i64 2]) zU rfl (yd (hi:=w8.heap.size+1) (s:=2) (k':=(k4+1)+1) (tx:=[]) (kids:=[.mk kd tx nm ps kids,.mk kd4 tx4 nm4 ps4 kids4,.mk 8 [] 0 0 []])  (by rw [←zk HR];simp only [yH,fA,fG,ub,ef c0,zk HQ4,ef c1,et cw,et cq]) (jI (n:=3) (cur:=#[.int .i64 kd,.string ⟨tx.toArray⟩,.int .i64 nm,.int .i64 ps,.string ⟨#[]⟩,.int .i64 0,.slice ao kids.length cp,.int .i64 kd4,.string ⟨tx4.toArray⟩,.int .i64 nm4,.int .i64 ps4,.string ⟨#[]⟩,.int .i64 0,.slice ao4 kids4.length cp4,.int .i64 8,.string ⟨#[]⟩,.int .i64 0,.int .i64 0,.string ⟨#[]⟩,.int .i64 0,.slice none 0 0]) (yN sq) rfl rfl dc om om (Kids.snoc (Kids.snoc (Kids.one ((Nd.mk (kd:=kd) (tx:=tx) (nm:=nm) (ps:=ps) rowa).ag (yQ (aw8 zu oz) sq)) om om (.inr om)) ((Nd.mk (kd:=kd4) (tx:=tx4) (nm:=nm4) (ps:=ps4) row4).ag (yQ (yr zu oz) sq)) om om (.inr om)) (Nd.mk (kd:=8) (tx:=[]) (nm:=0) (ps:=0) (zq.nil _ lo lo)) om om (.inr om))) sq ?_ ?_)
  ·exact zw (yv wg ok oz)
  ·exact yD (yw wg oz)
 go_wp2_with fail
 refine (yU C ok k4 h _ [93] (yv wg ok oz) c1).mono ?_
 rintro e w5 ⟨rfl,p5,hg⟩
 have hz5:=hg.size
 (try simp at hz5)
 have G5:w.grownBy w5 (some C.b):=zl (yw wg oz) hg
 replace rowa:=zq.ag rowa (Ag.grown (aw8 zu oz) hg sq om) lr lr
 replace row4:=zq.ag row4 (Ag.grown (yr zu oz) hg sq om) lr lr
 have bl0_5:BL w5 (w.heap.size) (yE kd ⟨tx.toArray⟩ nm ps ao kids.length cp):=BL.grown (bw7 wg oz) hg om
 have zc0_5:=bl0_5.cell
 have bl1_5:BL w5 (w.heap.size+1) (yA):=BL.grown (bw7 wg oz) hg om
 have hl1_5:=bl1_5.lt
 have zc1_5:=bl1_5.cell
 have fz1_5:=bl1_5.frozen
 have bl2_5:BL w5 (w2.heap.size) (yE kd4 ⟨tx4.toArray⟩ nm4 ps4 ao4 kids4.length cp4):=BL.grown zT hg om
 have zc2_5:=bl2_5.cell
 clear bl0_4 bl1_4 bl2_4 zc2_4 fz2_4 bl3_4 p4 hg
 go_wp2
 refine bodyPost_ret (v:=.tuple #[.agg #[.int .i64 45,.string ⟨#[]⟩,.int .i64 0,.int .i64 pos,.string ⟨#[]⟩,.int .i64 0,.slice (some ⟨w5.heap.size,0,none⟩) 2 2],.int .i64 4]) zU rfl (yd (hi:=w5.heap.size+1) (s:=4) (k':=k4+1) (tx:=[]) (kids:=[.mk kd tx nm ps kids,.mk kd4 tx4 nm4 ps4 kids4])  (by rw [←zk HR];simp only [yH,fA,fG,ub,ef c0,zk HQ4,et c1]) (jI (n:=2) (cur:=#[.int .i64 kd,.string ⟨tx.toArray⟩,.int .i64 nm,.int .i64 ps,.string ⟨#[]⟩,.int .i64 0,.slice ao kids.length cp,.int .i64 kd4,.string ⟨tx4.toArray⟩,.int .i64 nm4,.int .i64 ps4,.string ⟨#[]⟩,.int .i64 0,.slice ao4 kids4.length cp4]) (yN sq) rfl rfl dc om om (Kids.snoc (Kids.one ((Nd.mk (kd:=kd) (tx:=tx) (nm:=nm) (ps:=ps) rowa).ag (yQ (aw8 zu oz) sq)) om om (.inr om)) ((Nd.mk (kd:=kd4) (tx:=tx4) (nm:=nm4) (ps:=ps4) row4).ag (yQ (yr zu oz) sq)) om om (.inr om))) sq ?_ ?_)
 ·exact zw (yv wg ok oz)
 ·exact yD (yw wg oz)
open Go.RowKit Lx Px
theorem named_w (C:Ctx) (ok:C.Ok) (n:Nat) (ih:All C n) (kd:Int):CN C 54 (.named kd) #[.pointer (some ⟨C.b,0,none⟩),.int .i64 kd] (n+1):=by
 intro h k w p hout
 have hr:run C.ts (n+1) (.named kd) h k=fH C.ts (run C.ts n) kd h k:=rfl
 rw [hr] at hout ⊢
 clear hr
 generalize hR:fH C.ts (run C.ts n) kd h k=r0 at hout ⊢
 have hbl:=p.lt
 have htb:=ok.lt
 have htf0:=dw
 have htf1:=dL
 have htf3:=bT
 have hmf:=ig
 have G0:=zo w (some C.b)
 have HR:=zm hR
 clear hR
 have HO:=zm hout
 clear hout
 by_cases h1:(zp C.ts k).kind=1
 ·have H1:=zm h1
  clear h1
  go_enter Tryz.func54,Tryz.ntmps54
  go_wp2_with fail
  refine (jB C ok k h _ ⟨#[110,97,109,101]⟩ (zw wg) (zk H1)).mono ?_
  rintro e w1 ⟨rfl,p1,hg⟩
  have hz1:=hg.size
  (try simp at hz1)
  have G1:w.grownBy w1 (some C.b):=zl (yD wg) hg
  have bl0_1:BL w1 w.heap.size (yA):=BL.grown (yN om) hg om
  have hl0_1:=bl0_1.lt
  clear hg
  have ⟨⟨ne1,nf1⟩,⟨ne2,nf2⟩,⟨ne3,nf3⟩⟩:NN C.b w.heap.size∧NN C.b w1.heap.size∧NN w.heap.size w1.heap.size:=om
  go_wp2
  go_region_held2 (fun w'=>w'.cell? ⟨w1.heap.size,1,none⟩=some (.string ⟨(zp C.ts k).text.toArray⟩)∧w'.cell? ⟨w1.heap.size,3,none⟩=some (.int .i64 (zp C.ts k).pos)) (go_keep) (first | (go_at_call 74;(refine (ih.at.wtype h (k+1) _ (pw1 (zw wg)) (fun hx=>zk HO ((zk HR).symm.trans (by simp only [fH,ub,et (zk H1),hx])))).mono ?_;rintro e w2 hp;rcases hp with ⟨kd2,tx2,nm2,ps2,kids2,s2,k2,ao2,cp2,hq,rfl,hrow,p2,hg⟩ | ⟨pb,rule,hq,rfl,hg⟩;rotate_left;(exact ⟨rfl,zs (by rw [←zk HR];simp only [fH,ub,et (zk H1),hq]) (zl (gw1 (yD wg)) hg)⟩);have hz2:=hg.size;(try simp at hz2);have G2:w.grownBy w2 (some C.b):=zl (gw1 (yD wg)) hg;have bl0_2:BL w2 w.heap.size (yA):=BL.grown (bw1 (yS wg)) hg om;have hl0_2:=bl0_2.lt;have zc0_2:=bl0_2.cell;have fz0_2:=bl0_2.frozen;have bl1_2:BL w2 w1.heap.size (tkO (zp C.ts k)):=BL.grown (bw1 (yN om)) hg om;have hl1_2:=bl1_2.lt;have zc1_2:=bl1_2.cell;have fz1_2:=bl1_2.frozen;clear bl0_1;clear p1;obtain ⟨lo2,hlo2,row2⟩:=hrow.named;(try simp at hlo2);have HQ2:=zm hq;clear hrow hq;clear hg;have ne4:¬C.b=w2.heap.size:=om;have nf4:¬w2.heap.size=C.b:=om;have ne5:¬w.heap.size=w2.heap.size:=om;have nf5:¬w2.heap.size=w.heap.size:=om;have ne6:¬w1.heap.size=w2.heap.size:=om;have nf6:¬w2.heap.size=w1.heap.size:=om)))
  go_wp2
  refine bodyPost_ret (v:=.agg #[.int .i64 kd,.string ⟨(zp C.ts k).text.toArray⟩,.int .i64 0,.int .i64 (zp C.ts k).pos,.string ⟨#[]⟩,.int .i64 0,.slice (some ⟨w2.heap.size,0,none⟩) 1 1]) (by simp [results,Tryz.results54,go_sem, *]) rfl (yB (hi:=w2.heap.size+1) (s:=0) (k':=k2) (tx:=(zp C.ts k).text) (kids:=[.mk kd2 tx2 nm2 ps2 kids2]) (by rw [←zk HR];simp only [fH,ub,et (zk H1),zk HQ2]) (dU (BL.new sq) ((Nd.mk (kd:=kd2) (tx:=tx2) (nm:=nm2) (ps:=ps2) row2).ag (yQ (yr zu oz) sq)) rfl om om om om (.inr om)) sq ?_ ?_)
  ·exact zw (yv wg ok oz)
  ·exact yD (yw wg oz)
 ·have H1:=zm h1
  clear h1
  go_enter Tryz.func54,Tryz.ntmps54
  go_wp2_with fail
  refine (kH C ok k h _ ⟨#[110,97,109,101]⟩ (zw wg) (zk H1)).mono ?_
  rintro e w1 ⟨rfl,hgq⟩
  exact ⟨rfl,zs (by rw [←zk HR];simp only [fH,ub,ef (zk H1)]) (zl (yD wg) (zn hgq))⟩
theorem result_w (C:Ctx) (ok:C.Ok) (n:Nat) (ih:All C n):CN C 77 .result #[.pointer (some ⟨C.b,0,none⟩)] (n+1):=by
 intro h k w p hout
 have hr:run C.ts (n+1) .result h k=fB C.ts (run C.ts n) h k:=rfl
 rw [hr] at hout ⊢
 clear hr
 generalize hR:fB C.ts (run C.ts n) h k=r0 at hout ⊢
 have hbl:=p.lt
 have G0:=zo w (some C.b)
 have HR:=zm hR
 clear hR
 have HO:=zm hout
 clear hout
 cases c1:yb C.ts k [[105,110,116],[98,111,111,108],[115,116,114,105,110,103],[42],[91],[99,104,97,110],[102,117,110,99]] with
 | true=>
   go_enter Tryz.func77,Tryz.ntmps77
   go_wp2_with fail
   refine qc w ok k h (isL C ok k h _ (w.heap.size+1) [[105,110,116],[98,111,111,108],[115,116,114,105,110,103],[42],[91],[99,104,97,110],[102,117,110,99]] dc (zw wg) zK) (zw wg) (yD wg) fun w1 p1 hg hz1 G1=>?_
   (try simp at hz1)
   have bl0_1:BL w1 w.heap.size (yA):=BL.grown (yN om) hg om
   clear hg
   have nf1:¬w.heap.size=C.b:=om
   go_wp2_with fail
   refine (ih.at.wtype h k _ wg (fun hx=>zk HO ((zk HR).symm.trans (by simp only [fB,ub,et c1,hx])))).mono ?_
   rintro e w2 hp
   rcases hp with ⟨kd2,tx2,nm2,ps2,kids2,s2,k2,ao2,cp2,hq,rfl,hrow,p2,hg⟩ | ⟨pb,rule,hq,rfl,hg⟩
   rotate_left
   (exact ⟨rfl,zs (by rw [←zk HR];simp only [fB,ub,et c1,hq]) (zl wg hg)⟩)
   have G2:w.grownBy w2 (some C.b):=zl wg hg
   have bl0_2:BL w2 w.heap.size (yA):=BL.grown wg hg om
   have zc0_2:=bl0_2.cell
   have fz0_2:=bl0_2.frozen
   clear bl0_1 p1
   obtain ⟨lo2,hlo2,row2⟩:=hrow.named
   (try simp at hlo2)
   have HQ2:=zm hq
   clear hrow hq hg
   go_wp2
   refine bodyPost_ret (v:=.agg #[.int .i64 kd2,.string ⟨tx2.toArray⟩,.int .i64 nm2,.int .i64 ps2,.string ⟨#[]⟩,.int .i64 0,.slice ao2 kids2.length cp2]) (by simp [results,Tryz.results77,go_sem, *]) rfl (yB (hi:=w2.heap.size) (s:=s2) (k':=k2) (tx:=tx2) (kids:=kids2) (by rw [←zk HR];simp only [fB,ub,et c1,zk HQ2]) (row2.ag (yr zu oz) om lr) sq ?_ ?_)
   ·exact yv wg ok oz
   ·exact yw wg oz
 | false=>
   go_enter Tryz.func77,Tryz.ntmps77
   go_wp2_with fail
   refine qc w ok k h (isL C ok k h _ (w.heap.size+1) [[105,110,116],[98,111,111,108],[115,116,114,105,110,103],[42],[91],[99,104,97,110],[102,117,110,99]] dc (zw wg) zK) (zw wg) (yD wg) fun w1 p1 hg _ G1=>?_
   have bl0_1:BL w1 w.heap.size (yA):=BL.grown (yN om) hg om
   clear hg
   have nf1:¬w.heap.size=C.b:=om
   go_wp2_with fail
   refine qc w ok k h (dh _) wg wg fun w2 p2 hg _ G2=>?_
   have bl0_2:BL w2 w.heap.size (yA):=BL.grown wg hg om
   have zc0_2:=bl0_2.cell
   have fz0_2:=bl0_2.frozen
   clear bl0_1 p1 hg
   go_wp2
   refine bodyPost_ret (v:=.agg #[.int .i64 8,.string ⟨#[]⟩,.int .i64 0,.int .i64 0,.string ⟨#[]⟩,.int .i64 0,.slice none 0 0]) (by simp [results,Tryz.results77,go_sem, *]) rfl (yB (hi:=w2.heap.size) (s:=0) (k':=k) (tx:=[]) (kids:=[]) (by rw [←zk HR];simp only [fB,ub,isF c1]) (zq.nil _ _ _) sq ?_ ?_)
   ·exact yv wg ok oz
   ·exact yw wg oz
end Go.Proofs.YtgbjpnnockoomaaGreatDoor
