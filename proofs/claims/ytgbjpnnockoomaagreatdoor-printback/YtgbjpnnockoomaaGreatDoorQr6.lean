import Derived.Test.YtgbjpnnockoomaaGreatDoorQg
set_option linter.unusedVariables false
set_option linter.unusedSimpArgs false
set_option maxHeartbeats 4000000
set_option maxRecDepth 100000
namespace Go.Proofs.YtgbjpnnockoomaaGreatDoor
open Go.RowKit Lx Px
theorem rE (C:Ctx) (ok:C.Ok) (n:Nat) (ih:All C n) (kd:Int) (tx:List UInt8) (nm ps:Int) (kids:List Tree) (pos:Int) (ao:Option Addr) (cp:Nat):∀ (h:Bool) (k:Nat) (w:World) (lo hi a q:Nat),PS w C k h→C.b<lo→lo≤a→hi≤a→a≤w.heap.size→q≤w.heap.size→yh w lo hi a q (.slice ao kids.length cp) kids→(yb C.ts k [[58]]=true)→run C.ts (n+1) (.bracketed (.mk kd tx nm ps kids) pos) h k≠.out→Calls Tryz.prog 144 #[.pointer (some ⟨C.b,0,none⟩),.agg #[.int .i64 kd,.string ⟨tx.toArray⟩,.int .i64 nm,.int .i64 ps,.string ⟨#[]⟩,.int .i64 0,.slice ao kids.length cp],.int .i64 pos] w (JPost C lo hi a (run C.ts (n+1) (.bracketed (.mk kd tx nm ps kids) pos) h k) h w):=by
 intro h k w lo hi a q p hblo hloa hhia haw hqw rowa c0 hout
 have hr:run C.ts (n+1) (.bracketed (.mk kd tx nm ps kids) pos) h k=yH C.ts (run C.ts n) (.mk kd tx nm ps kids) pos h k:=rfl
 rw [hr] at hout ⊢
 clear hr
 generalize hR:yH C.ts (run C.ts n) (.mk kd tx nm ps kids) pos h k=r0 at hout ⊢
 have hbl:=p.lt
 have G0:=zo w (some C.b)
 have HR:=zm hR
 clear hR
 have HO:=zm hout
 clear hout
 go_enter Tryz.func144,Tryz.ntmps144
 go_wp2_with fail
 refine qc w ok k h (dh _) (zw (zw wg)) (yD (yD wg)) fun w1 p1 hg hz1 G1=>?_
 (try simp at hz1)
 replace rowa:=yh.ag rowa (Ag.grown (yQ (yQ zu om) sq) hg sq om) (Ag.grown (yQ (yQ zu om) sq) hg sq om) lr
 have bl0_1:BL w1 (w.heap.size) (yE kd ⟨tx.toArray⟩ nm ps ao kids.length cp):=BL.grown (yS (yN om)) hg om
 have bl1_1:BL w1 (w.heap.size+1) (yA):=BL.grown (yN sq) hg om
 clear hg
 have ⟨nf1,nf2⟩:¬w.heap.size=C.b∧¬w.heap.size+1=C.b:=om
 go_wp2_with fail
 refine qc w ok k h (dh _) wg wg fun w2 p2 hg _ G2=>?_
 replace rowa:=yh.ag rowa (Ag.grown zu hg om om) (Ag.grown zu hg om om) lr
 have bl0_2:BL w2 (w.heap.size) (yE kd ⟨tx.toArray⟩ nm ps ao kids.length cp):=BL.grown wg hg om
 have bl1_2:BL w2 (w.heap.size+1) (yA):=BL.grown wg hg om
 have hl1_2:=bl1_2.lt
 clear bl0_1 bl1_1 p1 hg
 have nf7:¬w2.heap.size=C.b:=om
 go_wp2_with fail
 refine qc w ok k h (isL C ok k h _ (w2.heap.size+2) [[58]] dc (zw (zw wg)) zK) (zw (zw wg)) (yD (yD wg)) fun w3 p3 hg hz3 G3=>?_
 (try simp at hz3)
 replace rowa:=yh.ag rowa (Ag.grown (yQ (yQ zu om) sq) hg sq om) (Ag.grown (yQ (yQ zu om) sq) hg sq om) lr
 have bl0_3:BL w3 (w.heap.size) (yE kd ⟨tx.toArray⟩ nm ps ao kids.length cp):=BL.grown (yS (yS wg)) hg om
 have bl1_3:BL w3 (w.heap.size+1) (yA):=BL.grown (yS (yS wg)) hg om
 have hl1_3:=bl1_3.lt
 have bl2_3:BL w3 (w2.heap.size) (yE 8 ⟨#[]⟩ 0 0 none 0 0):=BL.grown (yS (yN om)) hg om
 have bl3_3:BL w3 (w2.heap.size+1) (yE 8 ⟨#[]⟩ 0 0 none 0 0):=BL.grown (yN sq) hg om
 clear bl0_2 bl1_2 p2 hg
 have ⟨nf10,nf12,nf14,nf16⟩:¬w2.heap.size+1=C.b∧¬w2.heap.size+1=w.heap.size∧¬w2.heap.size+1=w.heap.size+1∧¬w2.heap.size+1=w2.heap.size:=om
 go_wp2_with fail
 refine (yJ C ok k h _ ⟨#[112,114,105,109,97,114,121]⟩ [58] wg c0).mono ?_
 rintro e w4 ⟨rfl,p4,hg⟩
 have G4:w.grownBy w4 (some C.b):=zl wg hg
 replace rowa:=yh.ag rowa (Ag.grown zu hg om om) (Ag.grown zu hg om om) lr
 have bl0_4:BL w4 (w.heap.size) (yE kd ⟨tx.toArray⟩ nm ps ao kids.length cp):=BL.grown wg hg om
 have bl1_4:BL w4 (w.heap.size+1) (yA):=BL.grown wg hg om
 have hl1_4:=bl1_4.lt
 have bl2_4:BL w4 (w2.heap.size) (yE 8 ⟨#[]⟩ 0 0 none 0 0):=BL.grown wg hg om
 have bl3_4:BL w4 (w2.heap.size+1) (yE 8 ⟨#[]⟩ 0 0 none 0 0):=BL.grown wg hg om
 have hl3_4:=bl3_4.lt
 clear bl0_3 bl1_3 bl2_3 bl3_3 p3 hg
 by_cases cq:yb C.ts (k+1) [[93]]=true
 rotate_left
 ·skip
  go_wp2_with fail
  refine qc w ok (k+1) h (isL C ok (k+1) h _ w4.heap.size [[93]] dc wg zK) wg wg fun w5 p5 hg _ G5=>?_
  replace rowa:=yh.ag rowa (Ag.grown zu hg om om) (Ag.grown zu hg om om) lr
  have bl0_5:BL w5 (w.heap.size) (yE kd ⟨tx.toArray⟩ nm ps ao kids.length cp):=BL.grown wg hg om
  have bl1_5:BL w5 (w.heap.size+1) (yA):=BL.grown wg hg om
  have hl1_5:=bl1_5.lt
  have bl2_5:BL w5 (w2.heap.size) (yE 8 ⟨#[]⟩ 0 0 none 0 0):=BL.grown wg hg om
  have bl3_5:BL w5 (w2.heap.size+1) (yE 8 ⟨#[]⟩ 0 0 none 0 0):=BL.grown wg hg om
  have hl3_5:=bl3_5.lt
  clear bl0_4 bl1_4 bl2_4 bl3_4 p4 hg
  go_wp2_with fail
  refine (iT C ok 126 #[.pointer (some ⟨C.b,0,none⟩)] #[] uI (run C.ts n .expr false (k+1)) false h (k+1) _ wg (fun w0 _ q0=>ih.at.expr false (k+1) w0 q0 (fun hx=>zk HO ((zk HR).symm.trans (by simp only [yH,fA,fG,ub,et c0,ef cq,hx]))))).mono ?_
  rintro e w6 hp
  rcases hp with ⟨kd6,tx6,nm6,ps6,kids6,s6,k6,ao6,cp6,hq,rfl,hrow,p6,hg⟩ | ⟨pb,rule,hq,rfl,hg⟩
  rotate_left
  (exact ⟨rfl,jm (by rw [←zk HR];simp only [yH,fA,fG,ub,et c0,ef cq,hq]) (zl wg hg)⟩)
  have G6:w.grownBy w6 (some C.b):=zl wg hg
  replace rowa:=yh.ag rowa (Ag.grown zu hg om om) (Ag.grown zu hg om om) lr
  have bl0_6:BL w6 (w.heap.size) (yE kd ⟨tx.toArray⟩ nm ps ao kids.length cp):=BL.grown wg hg om
  have bl1_6:BL w6 (w.heap.size+1) (yA):=BL.grown wg hg om
  have hl1_6:=bl1_6.lt
  have bl2_6:BL w6 (w2.heap.size) (yE 8 ⟨#[]⟩ 0 0 none 0 0):=BL.grown wg hg om
  have bl3_6:BL w6 (w2.heap.size+1) (yE 8 ⟨#[]⟩ 0 0 none 0 0):=BL.grown wg hg om
  have zc3_6:=bl3_6.cell
  have fz3_6:=bl3_6.frozen
  clear bl0_5 bl1_5 bl2_5 bl3_5 p5
  obtain ⟨lo6,hlo6,row6⟩:=hrow.named
  (try simp at hlo6)
  have HQ6:=zm hq
  clear hrow hq hg
  by_cases cz:yb C.ts k6 [[93]]=true
  rotate_left
  ·skip
   go_wp2_with fail
   refine (yX C ok k6 h _ ⟨#[112,114,105,109,97,114,121]⟩ [93] (yv wg ok oz) (Bool.eq_false_iff.2 cz)).mono ?_
   rintro e w7 ⟨rfl,hgq⟩
   exact ⟨rfl,jm (by rw [←zk HR];simp only [yH,fA,fG,ub,et c0,ef cq,zk HQ6,ef cz]) (zl (yw wg oz) (zn hgq))⟩
  go_wp2_with fail
  refine (yJ C ok k6 h _ ⟨#[112,114,105,109,97,114,121]⟩ [93] (yv wg ok oz) cz).mono ?_
  rintro e w7 ⟨rfl,p7,hg⟩
  have hz7:=hg.size
  (try simp at hz7)
  have G7:w.grownBy w7 (some C.b):=zl (yw wg oz) hg
  replace rowa:=yh.ag rowa (Ag.grown (aw8 zu oz) hg sq om) (Ag.grown (aw8 zu oz) hg sq om) lr
  replace row6:=zq.ag row6 (Ag.grown (yr zu oz) hg sq om) lr lr
  have bl0_7:BL w7 (w.heap.size) (yE kd ⟨tx.toArray⟩ nm ps ao kids.length cp):=BL.grown (bw7 wg oz) hg om
  have zc0_7:=bl0_7.cell
  have bl1_7:BL w7 (w.heap.size+1) (yA):=BL.grown (bw7 wg oz) hg om
  have hl1_7:=bl1_7.lt
  have zc1_7:=bl1_7.cell
  have fz1_7:=bl1_7.frozen
  have bl2_7:BL w7 (w2.heap.size) (yE 8 ⟨#[]⟩ 0 0 none 0 0):=BL.grown (bw7 wg oz) hg om
  have zc2_7:=bl2_7.cell
  have bl3_7:BL w7 (w2.heap.size+1) (yE kd6 ⟨tx6.toArray⟩ nm6 ps6 ao6 kids6.length cp6):=BL.grown zT hg om
  have zc3_7:=bl3_7.cell
  clear bl0_6 bl1_6 bl2_6 bl3_6 zc3_6 fz3_6 p6 hg
  go_wp2
  refine bodyPost_ret (v:=.tuple #[.agg #[.int .i64 46,.string ⟨#[]⟩,.int .i64 0,.int .i64 pos,.string ⟨#[]⟩,.int .i64 0,.slice (some ⟨w7.heap.size,0,none⟩) 3 3],.int .i64 2]) zU rfl (lC (hi:=w7.heap.size+1) (s:=2) (k':=k6+1) (tx:=[]) (kids:=[.mk kd tx nm ps kids,.mk 8 [] 0 0 [],.mk kd6 tx6 nm6 ps6 kids6])  (by rw [←zk HR];simp only [yH,fA,fG,ub,et c0,ef cq,zk HQ6,et cz]) (qU (n:=3) (cur:=#[.int .i64 kd,.string ⟨tx.toArray⟩,.int .i64 nm,.int .i64 ps,.string ⟨#[]⟩,.int .i64 0,.slice ao kids.length cp,.int .i64 8,.string ⟨#[]⟩,.int .i64 0,.int .i64 0,.string ⟨#[]⟩,.int .i64 0,.slice none 0 0,.int .i64 kd6,.string ⟨tx6.toArray⟩,.int .i64 nm6,.int .i64 ps6,.string ⟨#[]⟩,.int .i64 0,.slice ao6 kids6.length cp6]) (yN sq) rfl rfl dc om om om (gU.snoc (gU.snoc (gU.one (yh.nd (kd:=kd) (tx:=tx) (nm:=nm) (ps:=ps) (yh.ag rowa (yQ (aw8 zu oz) sq) (yQ (aw8 zu oz) sq) lr)) om om om) (Nd.mk (kd:=8) (tx:=[]) (nm:=0) (ps:=0) (zq.nil _ a a)) om om (.inr om)) ((Nd.mk (kd:=kd6) (tx:=tx6) (nm:=nm6) (ps:=ps6) row6).ag (yQ (yr zu oz) sq)) om om (.inr om))) sq ?_ ?_)
  ·exact zw (yv wg ok oz)
  ·exact yD (yw wg oz)
 go_wp2_with fail
 refine qc w ok (k+1) h (isL C ok (k+1) h _ w4.heap.size [[93]] dc wg zK) wg wg fun w5 p5 hg _ G5=>?_
 replace rowa:=yh.ag rowa (Ag.grown zu hg om om) (Ag.grown zu hg om om) lr
 have bl0_5:BL w5 (w.heap.size) (yE kd ⟨tx.toArray⟩ nm ps ao kids.length cp):=BL.grown wg hg om
 have bl1_5:BL w5 (w.heap.size+1) (yA):=BL.grown wg hg om
 have hl1_5:=bl1_5.lt
 have bl2_5:BL w5 (w2.heap.size) (yE 8 ⟨#[]⟩ 0 0 none 0 0):=BL.grown wg hg om
 have bl3_5:BL w5 (w2.heap.size+1) (yE 8 ⟨#[]⟩ 0 0 none 0 0):=BL.grown wg hg om
 have hl3_5:=bl3_5.lt
 clear bl0_4 bl1_4 bl2_4 bl3_4 p4 hg
 go_wp2_with fail
 refine (yJ C ok (k+1) h _ ⟨#[112,114,105,109,97,114,121]⟩ [93] wg cq).mono ?_
 rintro e w6 ⟨rfl,p6,hg⟩
 have G6:w.grownBy w6 (some C.b):=zl wg hg
 replace rowa:=yh.ag rowa (Ag.grown zu hg om om) (Ag.grown zu hg om om) lr
 have bl0_6:BL w6 (w.heap.size) (yE kd ⟨tx.toArray⟩ nm ps ao kids.length cp):=BL.grown wg hg om
 have zc0_6:=bl0_6.cell
 have bl1_6:BL w6 (w.heap.size+1) (yA):=BL.grown wg hg om
 have hl1_6:=bl1_6.lt
 have zc1_6:=bl1_6.cell
 have fz1_6:=bl1_6.frozen
 have bl2_6:BL w6 (w2.heap.size) (yE 8 ⟨#[]⟩ 0 0 none 0 0):=BL.grown wg hg om
 have zc2_6:=bl2_6.cell
 have bl3_6:BL w6 (w2.heap.size+1) (yE 8 ⟨#[]⟩ 0 0 none 0 0):=BL.grown wg hg om
 have hl3_6:=bl3_6.lt
 have zc3_6:=bl3_6.cell
 clear bl0_5 bl1_5 bl2_5 bl3_5 p5 hg
 go_wp2
 refine bodyPost_ret (v:=.tuple #[.agg #[.int .i64 46,.string ⟨#[]⟩,.int .i64 0,.int .i64 pos,.string ⟨#[]⟩,.int .i64 0,.slice (some ⟨w6.heap.size,0,none⟩) 3 3],.int .i64 2]) zU rfl (lC (hi:=w6.heap.size+1) (s:=2) (k':=(k+1)+1) (tx:=[]) (kids:=[.mk kd tx nm ps kids,.mk 8 [] 0 0 [],.mk 8 [] 0 0 []])  (by rw [←zk HR];simp only [yH,fA,fG,ub,et c0,et cq]) (qU (n:=3) (cur:=#[.int .i64 kd,.string ⟨tx.toArray⟩,.int .i64 nm,.int .i64 ps,.string ⟨#[]⟩,.int .i64 0,.slice ao kids.length cp,.int .i64 8,.string ⟨#[]⟩,.int .i64 0,.int .i64 0,.string ⟨#[]⟩,.int .i64 0,.slice none 0 0,.int .i64 8,.string ⟨#[]⟩,.int .i64 0,.int .i64 0,.string ⟨#[]⟩,.int .i64 0,.slice none 0 0]) (yN sq) rfl rfl dc om om om (gU.snoc (gU.snoc (gU.one (yh.nd (kd:=kd) (tx:=tx) (nm:=nm) (ps:=ps) (yh.ag rowa (yQ (aw8 zu oz) sq) (yQ (aw8 zu oz) sq) lr)) om om om) (Nd.mk (kd:=8) (tx:=[]) (nm:=0) (ps:=0) (zq.nil _ a a)) om om (.inr om)) (Nd.mk (kd:=8) (tx:=[]) (nm:=0) (ps:=0) (zq.nil _ a a)) om om (.inr om))) sq ?_ ?_)
 ·exact zw (yv wg ok oz)
 ·exact yD (yw wg oz)
open Go.RowKit Lx Px
theorem rF (C:Ctx) (ok:C.Ok) (n:Nat) (ih:All C n) (kd:Int) (tx:List UInt8) (nm ps:Int) (kids:List Tree) (pos:Int) (ao:Option Addr) (cp:Nat):∀ (h:Bool) (k:Nat) (w:World) (lo hi a q:Nat),PS w C k h→C.b<lo→lo≤a→hi≤a→a≤w.heap.size→q≤w.heap.size→yh w lo hi a q (.slice ao kids.length cp) kids→(¬yb C.ts k [[58]]=true)→run C.ts (n+1) (.bracketed (.mk kd tx nm ps kids) pos) h k≠.out→Calls Tryz.prog 144 #[.pointer (some ⟨C.b,0,none⟩),.agg #[.int .i64 kd,.string ⟨tx.toArray⟩,.int .i64 nm,.int .i64 ps,.string ⟨#[]⟩,.int .i64 0,.slice ao kids.length cp],.int .i64 pos] w (JPost C lo hi a (run C.ts (n+1) (.bracketed (.mk kd tx nm ps kids) pos) h k) h w):=by
 intro h k w lo hi a q p hblo hloa hhia haw hqw rowa c0 hout
 have hr:run C.ts (n+1) (.bracketed (.mk kd tx nm ps kids) pos) h k=yH C.ts (run C.ts n) (.mk kd tx nm ps kids) pos h k:=rfl
 rw [hr] at hout ⊢
 clear hr
 generalize hR:yH C.ts (run C.ts n) (.mk kd tx nm ps kids) pos h k=r0 at hout ⊢
 have hbl:=p.lt
 have G0:=zo w (some C.b)
 have HR:=zm hR
 clear hR
 have HO:=zm hout
 clear hout
 go_enter Tryz.func144,Tryz.ntmps144
 go_wp2_with fail
 refine qc w ok k h (dh _) (zw (zw wg)) (yD (yD wg)) fun w1 p1 hg hz1 G1=>?_
 (try simp at hz1)
 replace rowa:=yh.ag rowa (Ag.grown (yQ (yQ zu om) sq) hg sq om) (Ag.grown (yQ (yQ zu om) sq) hg sq om) lr
 have bl0_1:BL w1 (w.heap.size) (yE kd ⟨tx.toArray⟩ nm ps ao kids.length cp):=BL.grown (yS (yN om)) hg om
 have bl1_1:BL w1 (w.heap.size+1) (yA):=BL.grown (yN sq) hg om
 clear hg
 have ⟨nf1,nf2⟩:¬w.heap.size=C.b∧¬w.heap.size+1=C.b:=om
 go_wp2_with fail
 refine qc w ok k h (dh _) wg wg fun w2 p2 hg _ G2=>?_
 replace rowa:=yh.ag rowa (Ag.grown zu hg om om) (Ag.grown zu hg om om) lr
 have bl0_2:BL w2 (w.heap.size) (yE kd ⟨tx.toArray⟩ nm ps ao kids.length cp):=BL.grown wg hg om
 have bl1_2:BL w2 (w.heap.size+1) (yA):=BL.grown wg hg om
 have hl1_2:=bl1_2.lt
 clear bl0_1 bl1_1 p1 hg
 have ⟨nf7,nf8,nf9⟩:¬w2.heap.size=C.b∧¬w2.heap.size=w.heap.size∧¬w2.heap.size=w.heap.size+1:=om
 go_wp2_with fail
 refine qc w ok k h (isL C ok k h _ (w2.heap.size+2) [[58]] dc (zw (zw wg)) zK) (zw (zw wg)) (yD (yD wg)) fun w3 p3 hg hz3 G3=>?_
 (try simp at hz3)
 replace rowa:=yh.ag rowa (Ag.grown (yQ (yQ zu om) sq) hg sq om) (Ag.grown (yQ (yQ zu om) sq) hg sq om) lr
 have bl0_3:BL w3 (w.heap.size) (yE kd ⟨tx.toArray⟩ nm ps ao kids.length cp):=BL.grown (yS (yS wg)) hg om
 have bl1_3:BL w3 (w.heap.size+1) (yA):=BL.grown (yS (yS wg)) hg om
 have hl1_3:=bl1_3.lt
 have bl2_3:BL w3 (w2.heap.size) (yE 8 ⟨#[]⟩ 0 0 none 0 0):=BL.grown (yS (yN om)) hg om
 have bl3_3:BL w3 (w2.heap.size+1) (yE 8 ⟨#[]⟩ 0 0 none 0 0):=BL.grown (yN sq) hg om
 clear bl0_2 bl1_2 p2 hg
 have ⟨nf10,nf12,nf14,⟨ne16,nf16⟩⟩:¬w2.heap.size+1=C.b∧¬w2.heap.size+1=w.heap.size∧¬w2.heap.size+1=w.heap.size+1∧NN w2.heap.size (w2.heap.size+1):=om
 go_wp2_with fail
 refine (iT C ok 126 #[.pointer (some ⟨C.b,0,none⟩)] #[] uI (run C.ts n .expr false k) false h k _ wg (fun w0 _ q0=>ih.at.expr false k w0 q0 (fun hx=>zk HO ((zk HR).symm.trans (by simp only [yH,fA,fG,ub,ef c0,hx]))))).mono ?_
 rintro e w4 hp
 rcases hp with ⟨kd4,tx4,nm4,ps4,kids4,s4,k4,ao4,cp4,hq,rfl,hrow,p4,hg⟩ | ⟨pb,rule,hq,rfl,hg⟩
 rotate_left
 (exact ⟨rfl,jm (by rw [←zk HR];simp only [yH,fA,fG,ub,ef c0,hq]) (zl wg hg)⟩)
 have G4:w.grownBy w4 (some C.b):=zl wg hg
 replace rowa:=yh.ag rowa (Ag.grown zu hg om om) (Ag.grown zu hg om om) lr
 have bl0_4:BL w4 (w.heap.size) (yE kd ⟨tx.toArray⟩ nm ps ao kids.length cp):=BL.grown wg hg om
 have bl1_4:BL w4 (w.heap.size+1) (yA):=BL.grown wg hg om
 have hl1_4:=bl1_4.lt
 have bl2_4:BL w4 (w2.heap.size) (yE 8 ⟨#[]⟩ 0 0 none 0 0):=BL.grown wg hg om
 have zc2_4:=bl2_4.cell
 have fz2_4:=bl2_4.frozen
 have bl3_4:BL w4 (w2.heap.size+1) (yE 8 ⟨#[]⟩ 0 0 none 0 0):=BL.grown wg hg om
 clear bl0_3 bl1_3 bl2_3 bl3_3 p3
 obtain ⟨lo4,hlo4,row4⟩:=hrow.named
 (try simp at hlo4)
 have HQ4:=zm hq
 clear hrow hq hg
 by_cases c1:yb C.ts k4 [[93]]=true
 rotate_left
 ·skip
  go_wp2_with fail
  refine qc w ok k4 h (yV C ok k4 h _ [93] (yv wg ok oz) (Bool.eq_false_iff.2 c1)) (yv wg ok oz) (yw wg oz) fun w5 p5 hg hz5 G5=>?_
  (try simp at hz5)
  replace rowa:=yh.ag rowa (Ag.grown (aw8 zu oz) hg sq om) (Ag.grown (aw8 zu oz) hg sq om) lr
  replace row4:=zq.ag row4 (Ag.grown (yr zu oz) hg sq om) lr lr
  have bl0_5:BL w5 (w.heap.size) (yE kd ⟨tx.toArray⟩ nm ps ao kids.length cp):=BL.grown (bw7 wg oz) hg om
  have bl1_5:BL w5 (w.heap.size+1) (yA):=BL.grown (bw7 wg oz) hg om
  have hl1_5:=bl1_5.lt
  have bl2_5:BL w5 (w2.heap.size) (yE kd4 ⟨tx4.toArray⟩ nm4 ps4 ao4 kids4.length cp4):=BL.grown zT hg om
  have bl3_5:BL w5 (w2.heap.size+1) (yE 8 ⟨#[]⟩ 0 0 none 0 0):=BL.grown (bw7 wg oz) hg om
  clear bl0_4 bl1_4 bl2_4 zc2_4 fz2_4 bl3_4 p4 hg
  by_cases cw:yb C.ts k4 [[58]]=true
  rotate_left
  ·skip
   go_wp2_with fail
   refine (yX C ok k4 h _ ⟨#[112,114,105,109,97,114,121]⟩ [58] wg (Bool.eq_false_iff.2 cw)).mono ?_
   rintro e w6 ⟨rfl,hgq⟩
   exact ⟨rfl,jm (by rw [←zk HR];simp only [yH,fA,fG,ub,ef c0,zk HQ4,ef c1,ef cw]) (zl wg (zn hgq))⟩
  go_wp2_with fail
  refine (yJ C ok k4 h _ ⟨#[112,114,105,109,97,114,121]⟩ [58] wg cw).mono ?_
  rintro e w6 ⟨rfl,p6,hg⟩
  have hz6:=hg.size
  (try simp at hz6)
  have G6:w.grownBy w6 (some C.b):=zl wg hg
  replace rowa:=yh.ag rowa (Ag.grown zu hg om om) (Ag.grown zu hg om om) lr
  replace row4:=zq.ag row4 (Ag.grown zu hg om om) lr lr
  have bl0_6:BL w6 (w.heap.size) (yE kd ⟨tx.toArray⟩ nm ps ao kids.length cp):=BL.grown wg hg om
  have bl1_6:BL w6 (w.heap.size+1) (yA):=BL.grown wg hg om
  have hl1_6:=bl1_6.lt
  have bl2_6:BL w6 (w2.heap.size) (yE kd4 ⟨tx4.toArray⟩ nm4 ps4 ao4 kids4.length cp4):=BL.grown wg hg om
  have bl3_6:BL w6 (w2.heap.size+1) (yE 8 ⟨#[]⟩ 0 0 none 0 0):=BL.grown wg hg om
  clear bl0_5 bl1_5 bl2_5 bl3_5 p5 hg
  by_cases cq:yb C.ts (k4+1) [[93]]=true
  rotate_left
  ·skip
   go_wp2_with fail
   refine qc w ok (k4+1) h (isL C ok (k4+1) h _ w6.heap.size [[93]] dc wg zK) wg wg fun w7 p7 hg hz7 G7=>?_
   (try simp at hz7)
   replace rowa:=yh.ag rowa (Ag.grown zu hg om om) (Ag.grown zu hg om om) lr
   replace row4:=zq.ag row4 (Ag.grown zu hg om om) lr lr
   have bl0_7:BL w7 (w.heap.size) (yE kd ⟨tx.toArray⟩ nm ps ao kids.length cp):=BL.grown wg hg om
   have bl1_7:BL w7 (w.heap.size+1) (yA):=BL.grown wg hg om
   have hl1_7:=bl1_7.lt
   have bl2_7:BL w7 (w2.heap.size) (yE kd4 ⟨tx4.toArray⟩ nm4 ps4 ao4 kids4.length cp4):=BL.grown wg hg om
   have bl3_7:BL w7 (w2.heap.size+1) (yE 8 ⟨#[]⟩ 0 0 none 0 0):=BL.grown wg hg om
   have hl3_7:=bl3_7.lt
   clear bl0_6 bl1_6 bl2_6 bl3_6 p6 hg
   go_wp2_with fail
   refine (iT C ok 126 #[.pointer (some ⟨C.b,0,none⟩)] #[] uI (run C.ts n .expr false (k4+1)) false h (k4+1) _ wg (fun w0 _ q0=>ih.at.expr false (k4+1) w0 q0 (fun hx=>zk HO ((zk HR).symm.trans (by simp only [yH,fA,fG,ub,ef c0,zk HQ4,ef c1,et cw,ef cq,hx]))))).mono ?_
   rintro e w8 hp
   rcases hp with ⟨kd8,tx8,nm8,ps8,kids8,s8,k8,ao8,cp8,hq,rfl,hrow,p8,hg⟩ | ⟨pb,rule,hq,rfl,hg⟩
   rotate_left
   (exact ⟨rfl,jm (by rw [←zk HR];simp only [yH,fA,fG,ub,ef c0,zk HQ4,ef c1,et cw,ef cq,hq]) (zl wg hg)⟩)
   have hz8:=hg.size
   (try simp at hz8)
   have G8:w.grownBy w8 (some C.b):=zl wg hg
   replace rowa:=yh.ag rowa (Ag.grown zu hg om om) (Ag.grown zu hg om om) lr
   replace row4:=zq.ag row4 (Ag.grown zu hg om om) lr lr
   have bl0_8:BL w8 (w.heap.size) (yE kd ⟨tx.toArray⟩ nm ps ao kids.length cp):=BL.grown wg hg om
   have bl1_8:BL w8 (w.heap.size+1) (yA):=BL.grown wg hg om
   have hl1_8:=bl1_8.lt
   have bl2_8:BL w8 (w2.heap.size) (yE kd4 ⟨tx4.toArray⟩ nm4 ps4 ao4 kids4.length cp4):=BL.grown wg hg om
   have bl3_8:BL w8 (w2.heap.size+1) (yE 8 ⟨#[]⟩ 0 0 none 0 0):=BL.grown wg hg om
   have zc3_8:=bl3_8.cell
   have fz3_8:=bl3_8.frozen
   clear bl0_7 bl1_7 bl2_7 bl3_7 p7
   obtain ⟨lo8,hlo8,row8⟩:=hrow.named
   (try simp at hlo8)
   have HQ8:=zm hq
   clear hrow hq hg
   by_cases cz:yb C.ts k8 [[93]]=true
   rotate_left
   ·skip
    go_wp2_with fail
    refine (yX C ok k8 h _ ⟨#[112,114,105,109,97,114,121]⟩ [93] (yv wg ok oz) (Bool.eq_false_iff.2 cz)).mono ?_
    rintro e w9 ⟨rfl,hgq⟩
    exact ⟨rfl,jm (by rw [←zk HR];simp only [yH,fA,fG,ub,ef c0,zk HQ4,ef c1,et cw,ef cq,zk HQ8,ef cz]) (zl (yw wg oz) (zn hgq))⟩
   go_wp2_with fail
   refine (yJ C ok k8 h _ ⟨#[112,114,105,109,97,114,121]⟩ [93] (yv wg ok oz) cz).mono ?_
   rintro e w9 ⟨rfl,p9,hg⟩
   have hz9:=hg.size
   (try simp at hz9)
   have G9:w.grownBy w9 (some C.b):=zl (yw wg oz) hg
   replace rowa:=yh.ag rowa (Ag.grown (aw8 zu oz) hg sq om) (Ag.grown (aw8 zu oz) hg sq om) lr
   replace row4:=zq.ag row4 (Ag.grown (yr zu oz) hg sq om) lr lr
   replace row8:=zq.ag row8 (Ag.grown (yr zu oz) hg sq om) lr lr
   have bl0_9:BL w9 (w.heap.size) (yE kd ⟨tx.toArray⟩ nm ps ao kids.length cp):=BL.grown (bw7 wg oz) hg om
   have zc0_9:=bl0_9.cell
   have bl1_9:BL w9 (w.heap.size+1) (yA):=BL.grown (bw7 wg oz) hg om
   have hl1_9:=bl1_9.lt
   have zc1_9:=bl1_9.cell
   have fz1_9:=bl1_9.frozen
   have bl2_9:BL w9 (w2.heap.size) (yE kd4 ⟨tx4.toArray⟩ nm4 ps4 ao4 kids4.length cp4):=BL.grown (bw7 wg oz) hg om
   have zc2_9:=bl2_9.cell
   have bl3_9:BL w9 (w2.heap.size+1) (yE kd8 ⟨tx8.toArray⟩ nm8 ps8 ao8 kids8.length cp8):=BL.grown zT hg om
   have zc3_9:=bl3_9.cell
   clear bl0_8 bl1_8 bl2_8 bl3_8 zc3_8 fz3_8 p8 hg
   go_wp2
   refine bodyPost_ret (v:=.tuple #[.agg #[.int .i64 46,.string ⟨#[]⟩,.int .i64 0,.int .i64 pos,.string ⟨#[]⟩,.int .i64 0,.slice (some ⟨w9.heap.size,0,none⟩) 3 3],.int .i64 2]) zU rfl (lC (hi:=w9.heap.size+1) (s:=2) (k':=k8+1) (tx:=[]) (kids:=[.mk kd tx nm ps kids,.mk kd4 tx4 nm4 ps4 kids4,.mk kd8 tx8 nm8 ps8 kids8])  (by rw [←zk HR];simp only [yH,fA,fG,ub,ef c0,zk HQ4,ef c1,et cw,ef cq,zk HQ8,et cz]) (qU (n:=3) (cur:=#[.int .i64 kd,.string ⟨tx.toArray⟩,.int .i64 nm,.int .i64 ps,.string ⟨#[]⟩,.int .i64 0,.slice ao kids.length cp,.int .i64 kd4,.string ⟨tx4.toArray⟩,.int .i64 nm4,.int .i64 ps4,.string ⟨#[]⟩,.int .i64 0,.slice ao4 kids4.length cp4,.int .i64 kd8,.string ⟨tx8.toArray⟩,.int .i64 nm8,.int .i64 ps8,.string ⟨#[]⟩,.int .i64 0,.slice ao8 kids8.length cp8]) (yN sq) rfl rfl dc om om om (gU.snoc (gU.snoc (gU.one (yh.nd (kd:=kd) (tx:=tx) (nm:=nm) (ps:=ps) (yh.ag rowa (yQ (aw8 zu oz) sq) (yQ (aw8 zu oz) sq) lr)) om om om) ((Nd.mk (kd:=kd4) (tx:=tx4) (nm:=nm4) (ps:=ps4) row4).ag (yQ (yr zu oz) sq)) om om (.inr om)) ((Nd.mk (kd:=kd8) (tx:=tx8) (nm:=nm8) (ps:=ps8) row8).ag (yQ (yr zu oz) sq)) om om (.inr om))) sq ?_ ?_)
   ·exact zw (yv wg ok oz)
   ·exact yD (yw wg oz)
  go_wp2_with fail
  refine qc w ok (k4+1) h (isL C ok (k4+1) h _ w6.heap.size [[93]] dc wg zK) wg wg fun w7 p7 hg hz7 G7=>?_
  (try simp at hz7)
  replace rowa:=yh.ag rowa (Ag.grown zu hg om om) (Ag.grown zu hg om om) lr
  replace row4:=zq.ag row4 (Ag.grown zu hg om om) lr lr
  have bl0_7:BL w7 (w.heap.size) (yE kd ⟨tx.toArray⟩ nm ps ao kids.length cp):=BL.grown wg hg om
  have bl1_7:BL w7 (w.heap.size+1) (yA):=BL.grown wg hg om
  have hl1_7:=bl1_7.lt
  have bl2_7:BL w7 (w2.heap.size) (yE kd4 ⟨tx4.toArray⟩ nm4 ps4 ao4 kids4.length cp4):=BL.grown wg hg om
  have bl3_7:BL w7 (w2.heap.size+1) (yE 8 ⟨#[]⟩ 0 0 none 0 0):=BL.grown wg hg om
  clear bl0_6 bl1_6 bl2_6 bl3_6 p6 hg
  go_wp2_with fail
  refine (yJ C ok (k4+1) h _ ⟨#[112,114,105,109,97,114,121]⟩ [93] wg cq).mono ?_
  rintro e w8 ⟨rfl,p8,hg⟩
  have hz8:=hg.size
  (try simp at hz8)
  have G8:w.grownBy w8 (some C.b):=zl wg hg
  replace rowa:=yh.ag rowa (Ag.grown zu hg om om) (Ag.grown zu hg om om) lr
  replace row4:=zq.ag row4 (Ag.grown zu hg om om) lr lr
  have bl0_8:BL w8 (w.heap.size) (yE kd ⟨tx.toArray⟩ nm ps ao kids.length cp):=BL.grown wg hg om
  have zc0_8:=bl0_8.cell
  have bl1_8:BL w8 (w.heap.size+1) (yA):=BL.grown wg hg om
  have hl1_8:=bl1_8.lt
  have zc1_8:=bl1_8.cell
  have fz1_8:=bl1_8.frozen
  have bl2_8:BL w8 (w2.heap.size) (yE kd4 ⟨tx4.toArray⟩ nm4 ps4 ao4 kids4.length cp4):=BL.grown wg hg om
  have zc2_8:=bl2_8.cell
  have bl3_8:BL w8 (w2.heap.size+1) (yE 8 ⟨#[]⟩ 0 0 none 0 0):=BL.grown wg hg om
  have zc3_8:=bl3_8.cell
  clear bl0_7 bl1_7 bl2_7 bl3_7 p7 hg
  go_wp2
  refine bodyPost_ret (v:=.tuple #[.agg #[.int .i64 46,.string ⟨#[]⟩,.int .i64 0,.int .i64 pos,.string ⟨#[]⟩,.int .i64 0,.slice (some ⟨w8.heap.size,0,none⟩) 3 3],.int .i64 2]) zU rfl (lC (hi:=w8.heap.size+1) (s:=2) (k':=(k4+1)+1) (tx:=[]) (kids:=[.mk kd tx nm ps kids,.mk kd4 tx4 nm4 ps4 kids4,.mk 8 [] 0 0 []])  (by rw [←zk HR];simp only [yH,fA,fG,ub,ef c0,zk HQ4,ef c1,et cw,et cq]) (qU (n:=3) (cur:=#[.int .i64 kd,.string ⟨tx.toArray⟩,.int .i64 nm,.int .i64 ps,.string ⟨#[]⟩,.int .i64 0,.slice ao kids.length cp,.int .i64 kd4,.string ⟨tx4.toArray⟩,.int .i64 nm4,.int .i64 ps4,.string ⟨#[]⟩,.int .i64 0,.slice ao4 kids4.length cp4,.int .i64 8,.string ⟨#[]⟩,.int .i64 0,.int .i64 0,.string ⟨#[]⟩,.int .i64 0,.slice none 0 0]) (yN sq) rfl rfl dc om om om (gU.snoc (gU.snoc (gU.one (yh.nd (kd:=kd) (tx:=tx) (nm:=nm) (ps:=ps) (yh.ag rowa (yQ (aw8 zu oz) sq) (yQ (aw8 zu oz) sq) lr)) om om om) ((Nd.mk (kd:=kd4) (tx:=tx4) (nm:=nm4) (ps:=ps4) row4).ag (yQ (yr zu oz) sq)) om om (.inr om)) (Nd.mk (kd:=8) (tx:=[]) (nm:=0) (ps:=0) (zq.nil _ a a)) om om (.inr om))) sq ?_ ?_)
  ·exact zw (yv wg ok oz)
  ·exact yD (yw wg oz)
 go_wp2_with fail
 refine (yU C ok k4 h _ [93] (yv wg ok oz) c1).mono ?_
 rintro e w5 ⟨rfl,p5,hg⟩
 have hz5:=hg.size
 (try simp at hz5)
 have G5:w.grownBy w5 (some C.b):=zl (yw wg oz) hg
 replace rowa:=yh.ag rowa (Ag.grown (aw8 zu oz) hg sq om) (Ag.grown (aw8 zu oz) hg sq om) lr
 replace row4:=zq.ag row4 (Ag.grown (yr zu oz) hg sq om) lr lr
 have bl0_5:BL w5 (w.heap.size) (yE kd ⟨tx.toArray⟩ nm ps ao kids.length cp):=BL.grown (bw7 wg oz) hg om
 have zc0_5:=bl0_5.cell
 have bl1_5:BL w5 (w.heap.size+1) (yA):=BL.grown (bw7 wg oz) hg om
 have hl1_5:=bl1_5.lt
 have zc1_5:=bl1_5.cell
 have fz1_5:=bl1_5.frozen
 have bl2_5:BL w5 (w2.heap.size) (yE kd4 ⟨tx4.toArray⟩ nm4 ps4 ao4 kids4.length cp4):=BL.grown zT hg om
 have zc2_5:=bl2_5.cell
 clear bl0_4 bl1_4 bl2_4 zc2_4 fz2_4 bl3_4 p4 hg
 go_wp2
 refine bodyPost_ret (v:=.tuple #[.agg #[.int .i64 45,.string ⟨#[]⟩,.int .i64 0,.int .i64 pos,.string ⟨#[]⟩,.int .i64 0,.slice (some ⟨w5.heap.size,0,none⟩) 2 2],.int .i64 4]) zU rfl (lC (hi:=w5.heap.size+1) (s:=4) (k':=k4+1) (tx:=[]) (kids:=[.mk kd tx nm ps kids,.mk kd4 tx4 nm4 ps4 kids4])  (by rw [←zk HR];simp only [yH,fA,fG,ub,ef c0,zk HQ4,et c1]) (qU (n:=2) (cur:=#[.int .i64 kd,.string ⟨tx.toArray⟩,.int .i64 nm,.int .i64 ps,.string ⟨#[]⟩,.int .i64 0,.slice ao kids.length cp,.int .i64 kd4,.string ⟨tx4.toArray⟩,.int .i64 nm4,.int .i64 ps4,.string ⟨#[]⟩,.int .i64 0,.slice ao4 kids4.length cp4]) (yN sq) rfl rfl dc om om om (gU.snoc (gU.one (yh.nd (kd:=kd) (tx:=tx) (nm:=nm) (ps:=ps) (yh.ag rowa (yQ (aw8 zu oz) sq) (yQ (aw8 zu oz) sq) lr)) om om om) ((Nd.mk (kd:=kd4) (tx:=tx4) (nm:=nm4) (ps:=ps4) row4).ag (yQ (yr zu oz) sq)) om om (.inr om))) sq ?_ ?_)
 ·exact zw (yv wg ok oz)
 ·exact yD (yw wg oz)
open Go.RowKit Lx Px
theorem uz (C:Ctx) (ok:C.Ok) (n:Nat) (ih:All C n) (kd:Int) (tx:List UInt8) (nm ps:Int) (kids:List Tree) (pos:Int) (ao:Option Addr) (cp:Nat):CJd C 144 (.bracketed (.mk kd tx nm ps kids) pos) #[.pointer (some ⟨C.b,0,none⟩),.agg #[.int .i64 kd,.string ⟨tx.toArray⟩,.int .i64 nm,.int .i64 ps,.string ⟨#[]⟩,.int .i64 0,.slice ao kids.length cp],.int .i64 pos] kids ao cp (n+1):=by
 intro h k w lo hi a q p h1 h2 h3 h4 h5 row hout
 by_cases c0:yb C.ts k [[58]]=true
 ·exact rE C ok n ih kd tx nm ps kids pos ao cp h k w lo hi a q p h1 h2 h3 h4 h5 row c0 hout
 ·exact rF C ok n ih kd tx nm ps kids pos ao cp h k w lo hi a q p h1 h2 h3 h4 h5 row c0 hout
open Go.RowKit Lx Px
theorem varStmt_w (C:Ctx) (ok:C.Ok) (n:Nat) (ih:All C n):CNt C 112 .varStmt #[.pointer (some ⟨C.b,0,none⟩)] (n+1):=by
 intro h k w p h6 hout
 have hr:run C.ts (n+1) .varStmt h k=dn C.ts (run C.ts n) h k:=rfl
 rw [hr] at hout ⊢
 clear hr
 generalize hR:dn C.ts (run C.ts n) h k=r0 at hout ⊢
 have H6:=zm h6
 clear h6
 have hbl:=p.lt
 have htb:=ok.lt
 have htf0:=dw
 have htf1:=dL
 have htf3:=bT
 have hmf:=ig
 have G0:=zo w (some C.b)
 have HR:=zm hR
 clear hR
 have HO:=zm hout
 clear hout
 go_enter Tryz.func112,Tryz.ntmps112
 go_wp2_with fail
 refine (yR C ok k h _ (zw wg) (zk H6)).mono ?_
 rintro e w1 ⟨rfl,p1,hg⟩
 have hz1:=hg.size
 (try simp at hz1)
 have G1:w.grownBy w1 (some C.b):=zl (yD wg) hg
 have bl0_1:BL w1 w.heap.size (yA):=BL.grown (yN om) hg om
 have hl0_1:=bl0_1.lt
 clear hg
 have ⟨⟨ne1,nf1⟩,⟨ne2,nf2⟩,⟨ne3,nf3⟩⟩:NN C.b w.heap.size∧NN C.b w1.heap.size∧NN w.heap.size w1.heap.size:=om
 go_wp2_with fail
 refine (ih.at.named 18 h (k+1) _ wg (fun hx=>zk HO ((zk HR).symm.trans (by simp only [dn,ub,hx])))).mono ?_
 rintro e w2 hp
 rcases hp with ⟨kd2,tx2,nm2,ps2,kids2,s2,k2,ao2,cp2,hq,rfl,hrow,p2,hg⟩ | ⟨pb,rule,hq,rfl,hg⟩
 rotate_left
 (exact ⟨rfl,zs (by rw [←zk HR];simp only [dn,ub,hq]) (zl wg hg)⟩)
 have hz2:=hg.size
 (try simp at hz2)
 have G2:w.grownBy w2 (some C.b):=zl wg hg
 have bl0_2:BL w2 w.heap.size (yA):=BL.grown wg hg om
 have hl0_2:=bl0_2.lt
 clear bl0_1 p1
 obtain ⟨lo2,hlo2,row2⟩:=hrow.named
 (try simp at hlo2)
 have HQ2:=zm hq
 clear hrow hq hg
 have ⟨⟨ne4,nf4⟩,⟨ne5,nf5⟩⟩:NN C.b w2.heap.size∧NN w.heap.size w2.heap.size:=om
 obtain ⟨e1,e2⟩:=oW (zk HQ2)
 subst e1
 subst e2
 go_wp2_with fail
 refine qc w ok k2 h (dh _) (zw wg) (yD wg) fun w3 p3 hg hz3 G3=>?_
 (try simp at hz3)
 replace row2:=zq.ag row2 (Ag.grown (yQ zu sq) hg sq om) lr lr
 have bl0_3:BL w3 w.heap.size (yA):=BL.grown (yS wg) hg om
 have hl0_3:=bl0_3.lt
 have bl1_3:BL w3 w2.heap.size (yE 18 ⟨tx2.toArray⟩ 0 (zp C.ts k).pos ao2 kids2.length cp2):=BL.grown (yN om) hg om
 have hl1_3:=bl1_3.lt
 clear bl0_2 p2 hg
 have ⟨⟨ne6,nf6⟩,⟨ne7,nf7⟩,⟨ne8,nf8⟩⟩:NN C.b w3.heap.size∧NN w.heap.size w3.heap.size∧NN w2.heap.size w3.heap.size:=om
 have hn2:kids2.length≤1000000:=(by have h1:=yq C.ts n (.named 18) h (k+1) _ s2 k2 (zk HQ2);have h2:=named_kids (zk HQ2);omega)
 by_cases ce:yb C.ts k2 [[61]]=true
 rotate_left
 ·skip
  go_wp2_with fail
  refine qc w ok k2 h (yV C ok k2 h _ [61] (zw wg) (Bool.eq_false_iff.2 ce)) (zw wg) (yD wg) fun w4 p4 hg hz4 G4=>?_
  (try simp at hz4)
  replace row2:=zq.ag row2 (Ag.grown (yQ zu om) hg sq om) lr lr
  have bl0_4:BL w4 w.heap.size (yA):=BL.grown (yS wg) hg om
  have hl0_4:=bl0_4.lt
  have bl1_4:BL w4 w2.heap.size (yE 18 ⟨tx2.toArray⟩ 0 (zp C.ts k).pos ao2 kids2.length cp2):=BL.grown (yS wg) hg om
  have hl1_4:=bl1_4.lt
  have zc1_4:=bl1_4.cell
  have bl2_4:BL w4 w3.heap.size (yE 8 ⟨#[]⟩ 0 0 none 0 0):=BL.grown (yN om) hg om
  have hl2_4:=bl2_4.lt
  have zc2_4:=bl2_4.cell
  clear bl0_3 bl1_3 p3 hg
  have ⟨⟨ne9,nf9⟩,⟨ne10,nf10⟩,⟨ne11,nf11⟩,⟨ne12,nf12⟩⟩:NN C.b w4.heap.size∧NN w.heap.size w4.heap.size∧NN w2.heap.size w4.heap.size∧NN w3.heap.size w4.heap.size:=om
  go_wp2_with (first | (at_builtin;(refine dG rfl (.tmp 19) (.tmp 21) rfl (lo:=lo2) (hi:=w2.heap.size) (ao:=ao2) (cp:=cp2) (l:=kids2) (t:=.mk 8 [] 0 0 []) (A:=w3.heap.size) (B:=w3.heap.size) (g0:=w4.heap.size) (cur:=#[.int .i64 8,.string ⟨#[]⟩,.int .i64 0,.int .i64 0,.string ⟨#[]⟩,.int .i64 0,.slice none 0 0]) zH (zq.ag row2 (yQ zu om) lr lr) zH (yN om) (Nd.mk (kd:=8) (tx:=[]) (nm:=0) (ps:=0) (zq.nil _ w3.heap.size w3.heap.size)) rfl iO hn2 sq sq om sq om ?_;intro g5 cp5 w5 hrw5 hgA hat5 hgl5;have hob:=row2.own;have hz5:=hgA.size;(try simp at hz5);(try simp at hat5);have G5:w.grownBy w5 (some C.b):=yP (yD wg) hgA (fun x hx=>by have:=hob x hx;omega);have p5:=PS.own (C:=C) (k:=k2) (h:=h) (zw wg) ok hgA (fun x hx=>by have:=hob x hx;omega);have bl0_5:BL w5 w.heap.size (yA):=BL.own (yS wg) hgA (fun e=>by have:=hob _ e.symm;omega);have hl0_5:=bl0_5.lt;have zc0_5:=bl0_5.cell;have fz0_5:=bl0_5.frozen;have bl1_5:BL w5 w2.heap.size (.cells #[.int .i64 18,.string ⟨tx2.toArray⟩,.int .i64 0,.int .i64 (zp C.ts k).pos,.string ⟨#[]⟩,.int .i64 0,.slice ao2 kids2.length cp2] 25):=BL.own (yS wg) hgA (fun e=>by have:=hob _ e.symm;omega);have hl1_5:=bl1_5.lt;have zc1_5:=bl1_5.cell;have fz1_5:=bl1_5.frozen;have bl2_5:BL w5 w3.heap.size (.cells #[.int .i64 8,.string ⟨#[]⟩,.int .i64 0,.int .i64 0,.string ⟨#[]⟩,.int .i64 0,.slice none 0 0] 25):=BL.own (yS wg) hgA (fun e=>by have:=hob _ e.symm;omega);have hl2_5:=bl2_5.lt;have zc2_5:=bl2_5.cell;have fz2_5:=bl2_5.frozen;clear bl0_4;clear bl1_4 zc1_4;clear bl2_4 zc2_4;clear p4 hgA hob;have ne13:¬C.b=w5.heap.size:=om;have nf13:¬w5.heap.size=C.b:=om;have ne14:¬w.heap.size=w5.heap.size:=om;have nf14:¬w5.heap.size=w.heap.size:=om;have ne15:¬w2.heap.size=w5.heap.size:=om;have nf15:¬w5.heap.size=w2.heap.size:=om;have ne16:¬w3.heap.size=w5.heap.size:=om;have nf16:¬w5.heap.size=w3.heap.size:=om)))
  refine bodyPost_ret (v:=.agg #[.int .i64 18,.string ⟨tx2.toArray⟩,.int .i64 0,.int .i64 (zp C.ts k).pos,.string ⟨#[]⟩,.int .i64 0,.slice (some ⟨g5,0,none⟩) (kids2.length+1) cp5]) (by simp [results,Tryz.results112,go_sem, *]) rfl (yB (hi:=(World.heap _).size) (s:=0) (k':=k2) (tx:=tx2) (kids:=(kids2++[.mk 8 [] 0 0 []])) (by rw [←zk HR];simp only [dn,ub,zk HQ2,ef ce]) (zq.wide (hrw5 _ sq (Ag.one zB) (yr (aw4 zu sq) oz) (yr (aw3 zu sq) oz)) om lr) om ?_ ?_)
  ·exact yv (pw3 wg ok sq) ok oz
  ·exact yw (gw3 wg sq) oz
 go_wp2_with fail
 refine (yU C ok k2 h _ [61] (zw wg) ce).mono ?_
 rintro e w4 ⟨rfl,p4,hg⟩
 have hz4:=hg.size
 (try simp at hz4)
 have G4:w.grownBy w4 (some C.b):=zl (yD wg) hg
 replace row2:=zq.ag row2 (Ag.grown (yQ zu om) hg sq om) lr lr
 have bl0_4:BL w4 w.heap.size (yA):=BL.grown (yS wg) hg om
 have hl0_4:=bl0_4.lt
 have bl1_4:BL w4 w2.heap.size (yE 18 ⟨tx2.toArray⟩ 0 (zp C.ts k).pos ao2 kids2.length cp2):=BL.grown (yS wg) hg om
 have hl1_4:=bl1_4.lt
 have bl2_4:BL w4 w3.heap.size (yE 8 ⟨#[]⟩ 0 0 none 0 0):=BL.grown (yN om) hg om
 have hl2_4:=bl2_4.lt
 clear bl0_3 bl1_3 p3 hg
 have ⟨⟨ne9,nf9⟩,⟨ne10,nf10⟩,⟨ne11,nf11⟩,⟨ne12,nf12⟩⟩:NN C.b w4.heap.size∧NN w.heap.size w4.heap.size∧NN w2.heap.size w4.heap.size∧NN w3.heap.size w4.heap.size:=om
 go_wp2_with fail
 refine (ih.at.expr h (k2+1) _ wg (fun hx=>zk HO ((zk HR).symm.trans (by simp only [dn,ub,zk HQ2,et ce,hx])))).mono ?_
 rintro e w5 hp
 rcases hp with ⟨kd5,tx5,nm5,ps5,kids5,s5,k5,ao5,cp5,hq,rfl,hrow,p5,hg⟩ | ⟨pb,rule,hq,rfl,hg⟩
 rotate_left
 (exact ⟨rfl,zs (by rw [←zk HR];simp only [dn,ub,zk HQ2,et ce,hq]) (zl wg hg)⟩)
 have hz5:=hg.size
 (try simp at hz5)
 have G5:w.grownBy w5 (some C.b):=zl wg hg
 replace row2:=zq.ag row2 (Ag.grown zu hg om om) lr lr
 have bl0_5:BL w5 w.heap.size (yA):=BL.grown wg hg om
 have hl0_5:=bl0_5.lt
 have bl1_5:BL w5 w2.heap.size (yE 18 ⟨tx2.toArray⟩ 0 (zp C.ts k).pos ao2 kids2.length cp2):=BL.grown wg hg om
 have hl1_5:=bl1_5.lt
 have zc1_5:=bl1_5.cell
 have bl2_5:BL w5 w3.heap.size (yE 8 ⟨#[]⟩ 0 0 none 0 0):=BL.grown wg hg om
 have hl2_5:=bl2_5.lt
 have zc2_5:=bl2_5.cell
 have fz2_5:=bl2_5.frozen
 clear bl0_4 bl1_4 bl2_4 p4
 obtain ⟨lo5,hlo5,row5⟩:=hrow.named
 (try simp at hlo5)
 have HQ5:=zm hq
 clear hrow hq hg
 have ⟨⟨ne13,nf13⟩,⟨ne14,nf14⟩,⟨ne15,nf15⟩,⟨ne16,nf16⟩⟩:NN C.b w5.heap.size∧NN w.heap.size w5.heap.size∧NN w2.heap.size w5.heap.size∧NN w3.heap.size w5.heap.size:=om
 go_wp2_with (first | (at_builtin;(refine dG rfl (.tmp 19) (.tmp 21) rfl (lo:=lo2) (hi:=w2.heap.size) (ao:=ao2) (cp:=cp2) (l:=kids2) (t:=.mk kd5 tx5 nm5 ps5 kids5) (A:=lo5) (B:=w5.heap.size) (g0:=w5.heap.size) (cur:=#[.int .i64 kd5,.string ⟨tx5.toArray⟩,.int .i64 nm5,.int .i64 ps5,.string ⟨#[]⟩,.int .i64 0,.slice ao5 kids5.length cp5]) zH (zq.ag row2 (yQ (aw8 zu oz) sq) lr lr) zH (yN sq) ((Nd.mk (kd:=kd5) (tx:=tx5) (nm:=nm5) (ps:=ps5) row5).ag (yQ (yr zu oz) sq)) rfl iO hn2 sq sq om sq om ?_;intro g6 cp6 w6 hrw6 hgA hat6 hgl6;have hob:=row2.own;have hz6:=hgA.size;(try simp at hz6);(try simp at hat6);have G6:w.grownBy w6 (some C.b):=yP (yD (yw wg oz)) hgA (fun x hx=>by have:=hob x hx;omega);have p6:=PS.own (C:=C) (k:=k5) (h:=h) (zw (yv wg ok oz)) ok hgA (fun x hx=>by have:=hob x hx;omega);have bl0_6:BL w6 w.heap.size (yA):=BL.own (yS (bw7 wg oz)) hgA (fun e=>by have:=hob _ e.symm;omega);have hl0_6:=bl0_6.lt;have zc0_6:=bl0_6.cell;have fz0_6:=bl0_6.frozen;have bl1_6:BL w6 w2.heap.size (.cells #[.int .i64 18,.string ⟨tx2.toArray⟩,.int .i64 0,.int .i64 (zp C.ts k).pos,.string ⟨#[]⟩,.int .i64 0,.slice ao2 kids2.length cp2] 25):=BL.own (yS (bw7 wg oz)) hgA (fun e=>by have:=hob _ e.symm;omega);have hl1_6:=bl1_6.lt;have zc1_6:=bl1_6.cell;have fz1_6:=bl1_6.frozen;clear bl0_5;clear bl1_5 zc1_5;clear p5 hgA hob;have ne17:¬C.b=w6.heap.size:=om;have nf17:¬w6.heap.size=C.b:=om;have ne18:¬w.heap.size=w6.heap.size:=om;have nf18:¬w6.heap.size=w.heap.size:=om;have ne19:¬w2.heap.size=w6.heap.size:=om;have nf19:¬w6.heap.size=w2.heap.size:=om)))
 refine bodyPost_ret (v:=.agg #[.int .i64 18,.string ⟨tx2.toArray⟩,.int .i64 0,.int .i64 (zp C.ts k).pos,.string ⟨#[]⟩,.int .i64 0,.slice (some ⟨g6,0,none⟩) (kids2.length+1) cp6]) (by simp [results,Tryz.results112,go_sem, *]) rfl (yB (hi:=(World.heap _).size) (s:=0) (k':=k5) (tx:=tx2) (kids:=(kids2++[.mk kd5 tx5 nm5 ps5 kids5])) (by rw [←zk HR];simp only [dn,ub,zk HQ2,et ce,zk HQ5]) (zq.wide (hrw6 _ sq (Ag.one zB) (yr (aw4 zu sq) oz) (yr (aw3 zu sq) oz)) om lr) om ?_ ?_)
 ·exact yv (pw3 wg ok sq) ok oz
 ·exact yw (gw3 wg sq) oz
open Go.RowKit Lx Px
theorem comm_w (C:Ctx) (ok:C.Ok) (n:Nat) (ih:All C n):CN C 141 .comm #[.pointer (some ⟨C.b,0,none⟩)] (n+1):=by
 intro h k w p hout
 have hr:run C.ts (n+1) .comm h k=gZ C.ts (run C.ts n) h k:=rfl
 rw [hr] at hout ⊢
 clear hr
 generalize hR:gZ C.ts (run C.ts n) h k=r0 at hout ⊢
 have hbl:=p.lt
 have htb:=ok.lt
 have htf0:=dw
 have htf1:=dL
 have htf3:=bT
 have hmf:=ig
 have G0:=zo w (some C.b)
 have HR:=zm hR
 clear hR
 have HO:=zm hout
 clear hout
 go_enter Tryz.func141,Tryz.ntmps141
 go_wp2_with fail
 refine qc w ok k h (zy C ok k h _ (zw wg)) (zw wg) (yD wg) fun w1 p1 hg hz1 G1=>?_
 (try simp at hz1)
 have bl0_1:BL w1 w.heap.size (yA):=BL.grown (yN om) hg om
 have hl0_1:=bl0_1.lt
 clear hg
 have ⟨⟨ne1,nf1⟩,⟨ne2,nf2⟩,⟨ne3,nf3⟩⟩:NN C.b w.heap.size∧NN C.b w1.heap.size∧NN w.heap.size w1.heap.size:=om
 by_cases c0:yb C.ts k [[99,97,115,101]]=true
 rotate_left
 ·skip
  go_wp2_with fail
  refine qc w ok k h (yV C ok k h _ [99,97,115,101] (zw wg) (Bool.eq_false_iff.2 c0)) (zw wg) (yD wg) fun w2 p2 hg hz2 G2=>?_
  (try simp at hz2)
  have bl0_2:BL w2 w.heap.size (yA):=BL.grown (yS wg) hg om
  have hl0_2:=bl0_2.lt
  have bl1_2:BL w2 w1.heap.size (yE 26 ⟨#[100,101,102,97,117,108,116]⟩ 0 (zp C.ts k).pos none 0 0):=BL.grown (yN om) hg om
  have hl1_2:=bl1_2.lt
  clear bl0_1 p1 hg
  have ⟨⟨ne4,nf4⟩,⟨ne5,nf5⟩,⟨ne6,nf6⟩⟩:NN C.b w2.heap.size∧NN w.heap.size w2.heap.size∧NN w1.heap.size w2.heap.size:=om
  by_cases c1:yb C.ts k [[100,101,102,97,117,108,116]]=true
  rotate_left
  ·skip
   go_wp2_with fail
   refine qc w ok k h (yV C ok k h _ [100,101,102,97,117,108,116] wg (Bool.eq_false_iff.2 c1)) wg wg fun w3 p3 hg hz3 G3=>?_
   (try simp at hz3)
   have bl0_3:BL w3 w.heap.size (yA):=BL.grown wg hg om
   have hl0_3:=bl0_3.lt
   have bl1_3:BL w3 w1.heap.size (yE 26 ⟨#[100,101,102,97,117,108,116]⟩ 0 (zp C.ts k).pos none 0 0):=BL.grown wg hg om
   have hl1_3:=bl1_3.lt
   clear bl0_2 bl1_2 p2 hg
   have ⟨⟨ne7,nf7⟩,⟨ne8,nf8⟩,⟨ne9,nf9⟩⟩:NN C.b w3.heap.size∧NN w.heap.size w3.heap.size∧NN w1.heap.size w3.heap.size:=om
   go_wp2_with fail
   refine qc w ok k h (dA C ok k h _ ⟨#[99,111,109,109]⟩ wg) wg wg fun w4 p4 hg hz4 G4=>?_
   (try simp at hz4)
   have bl0_4:BL w4 w.heap.size (yA):=BL.grown wg hg om
   have hl0_4:=bl0_4.lt
   have bl1_4:BL w4 w1.heap.size (yE 26 ⟨#[100,101,102,97,117,108,116]⟩ 0 (zp C.ts k).pos none 0 0):=BL.grown wg hg om
   have hl1_4:=bl1_4.lt
   clear bl0_3 bl1_3 p3 hg
   have ⟨⟨ne10,nf10⟩,⟨ne11,nf11⟩,⟨ne12,nf12⟩⟩:NN C.b w4.heap.size∧NN w.heap.size w4.heap.size∧NN w1.heap.size w4.heap.size:=om
   go_wp2
   exact yp rfl (zs (by rw [←zk HR];simp only [gZ,lT,ub,ef c0,ef c1]) wg)
  go_wp2_with fail
  refine (yU C ok k h _ [100,101,102,97,117,108,116] wg c1).mono ?_
  rintro e w3 ⟨rfl,p3,hg⟩
  have hz3:=hg.size
  (try simp at hz3)
  have G3:w.grownBy w3 (some C.b):=zl wg hg
  have bl0_3:BL w3 w.heap.size (yA):=BL.grown wg hg om
  have hl0_3:=bl0_3.lt
  have bl1_3:BL w3 w1.heap.size (yE 26 ⟨#[100,101,102,97,117,108,116]⟩ 0 (zp C.ts k).pos none 0 0):=BL.grown wg hg om
  have hl1_3:=bl1_3.lt
  have zc1_3:=bl1_3.cell
  clear bl0_2 bl1_2 p2 hg
  have ⟨⟨ne7,nf7⟩,⟨ne8,nf8⟩,⟨ne9,nf9⟩⟩:NN C.b w3.heap.size∧NN w.heap.size w3.heap.size∧NN w1.heap.size w3.heap.size:=om
  have rown:zq w3 (w1.heap.size+1) (w1.heap.size+1) (.slice none 0 0) []:=zq.nil _ _ _
  go_wp2
  go_region_law (first | (refine iK rfl (.tmp 25) (.tmp 28) rfl (lo:=w1.heap.size+1) (hi:=w1.heap.size+1) (ao:=none) (cp:=0) (l:=[]) (t:=.mk kd4 tx4 nm4 ps4 kids4) (A:=lo4) (B:=w4.heap.size) (g0:=w4.heap.size) (cur:=#[.int .i64 kd4,.string ⟨tx4.toArray⟩,.int .i64 nm4,.int .i64 ps4,.string ⟨#[]⟩,.int .i64 0,.slice ao4 kids4.length cp4]) zH (zq.ag rown (yQ zu om) lr lr) zH (yN om) ((Nd.mk (kd:=kd4) (tx:=tx4) (nm:=nm4) (ps:=ps4) row4).ag (yQ zu sq)) rfl iO zK sq sq om sq om ?_;intro g5 cp5 w5 hrw5 hgA hat5 hgl5;have hob:=rown.own;have hz5:=hgA.size;(try simp at hz5);(try simp at hat5);have G5:w.grownBy w5 (some C.b):=yP (yD wg) hgA (fun x hx=>by have:=hob x hx;omega);have p5:=PS.own (C:=C) (k:=k4) (h:=h) (zw wg) ok hgA (fun x hx=>by have:=hob x hx;omega);have bl0_5:BL w5 w.heap.size (yA):=BL.own (yS wg) hgA (fun e=>by have:=hob _ e.symm;omega);have hl0_5:=bl0_5.lt;have zc0_5:=bl0_5.cell;have fz0_5:=bl0_5.frozen;have bl1_5:BL w5 w1.heap.size (.cells #[.int .i64 26,.string ⟨#[100,101,102,97,117,108,116]⟩,.int .i64 0,.int .i64 (zp C.ts k).pos,.string ⟨#[]⟩,.int .i64 0,.slice none 0 0] 25):=BL.own (yS wg) hgA (fun e=>by have:=hob _ e.symm;omega);have hl1_5:=bl1_5.lt;have zc1_5:=bl1_5.cell;have fz1_5:=bl1_5.frozen;clear bl0_4 zc0_4 fz0_4;clear bl1_4 zc1_4 fz1_4;clear p4 hgA hob;have ne13:¬C.b=w5.heap.size:=om;have nf13:¬w5.heap.size=C.b:=om;have ne14:¬w.heap.size=w5.heap.size:=om;have nf14:¬w5.heap.size=w.heap.size:=om;have ne15:¬w1.heap.size=w5.heap.size:=om;have nf15:¬w5.heap.size=w1.heap.size:=om) | (go_simp;go_at_call 152;(refine (ih.at.clauseBlock h (k+1) _ (pw1 wg) (fun hx=>zk HO ((zk HR).symm.trans (by simp only [gZ,lT,ub,ef c0,et c1,hx])))).mono ?_;rintro e w4 hp;rcases hp with ⟨kd4,tx4,nm4,ps4,kids4,s4,k4,ao4,cp4,hq,rfl,hrow,p4,hg⟩ | ⟨pb,rule,hq,rfl,hg⟩;rotate_left;(exact ⟨rfl,zs (by rw [←zk HR];simp only [gZ,lT,ub,ef c0,et c1,hq]) (zl (gw1 wg) hg)⟩);have hz4:=hg.size;(try simp at hz4);have G4:w.grownBy w4 (some C.b):=zl (gw1 wg) hg;replace rown:=zq.ag rown (Ag.grown (aw1 zu) hg sq om) lr lr;have bl0_4:BL w4 w.heap.size (yA):=BL.grown (bw1 wg) hg om;have hl0_4:=bl0_4.lt;have zc0_4:=bl0_4.cell;have fz0_4:=bl0_4.frozen;have bl1_4:BL w4 w1.heap.size (.cells #[.int .i64 26,.string ⟨#[100,101,102,97,117,108,116]⟩,.int .i64 0,.int .i64 (zp C.ts k).pos,.string ⟨#[]⟩,.int .i64 0,.slice none 0 0] 25):=BL.grown (bw1 wg) hg om;have hl1_4:=bl1_4.lt;have zc1_4:=bl1_4.cell;have fz1_4:=bl1_4.frozen;clear bl0_3;clear bl1_3 zc1_3;clear p3;obtain ⟨lo4,hlo4,row4⟩:=hrow.named;(try simp at hlo4);have HQ4:=zm hq;clear hrow hq;clear hg;have ne10:¬C.b=w4.heap.size:=om;have nf10:¬w4.heap.size=C.b:=om;have ne11:¬w.heap.size=w4.heap.size:=om;have nf11:¬w4.heap.size=w.heap.size:=om;have ne12:¬w1.heap.size=w4.heap.size:=om;have nf12:¬w4.heap.size=w1.heap.size:=om;skip)))
  all_goals
   go_wp2
   refine bodyPost_ret (v:=.agg #[.int .i64 26,.string ⟨#[100,101,102,97,117,108,116]⟩,.int .i64 0,.int .i64 (zp C.ts k).pos,.string ⟨#[]⟩,.int .i64 0,.slice (some ⟨g5,0,none⟩) (([]:List Tree).length+1) cp5]) (by simp [results,Tryz.results141,go_sem, *]) rfl (yB (hi:=(World.heap _).size) (s:=0) (k':=k4) (tx:=[100,101,102,97,117,108,116]) (kids:=[.mk kd4 tx4 nm4 ps4 kids4]) (by rw [←zk HR];simp only [gZ,lT,ub,ef c0,et c1,zk HQ4]) (zq.wide (hrw5 _ sq (Ag.one (yr (aw3 zu sq) oz)) (yr (aw3 zu sq) oz) (yr (aw3 zu sq) oz)) om lr) om ?_ ?_)
   ·exact yv (pw3 wg ok sq) ok oz
   ·exact yw (gw3 wg sq) oz
 go_wp2_with fail
 refine (yU C ok k h _ [99,97,115,101] (zw wg) c0).mono ?_
 rintro e w2 ⟨rfl,p2,hg⟩
 have hz2:=hg.size
 (try simp at hz2)
 have G2:w.grownBy w2 (some C.b):=zl (yD wg) hg
 have bl0_2:BL w2 w.heap.size (yA):=BL.grown (yS wg) hg om
 have hl0_2:=bl0_2.lt
 have bl1_2:BL w2 w1.heap.size (yE 26 ⟨#[100,101,102,97,117,108,116]⟩ 0 (zp C.ts k).pos none 0 0):=BL.grown (yN om) hg om
 have hl1_2:=bl1_2.lt
 clear bl0_1 p1 hg
 have ⟨⟨ne4,nf4⟩,⟨ne5,nf5⟩,⟨ne6,nf6⟩⟩:NN C.b w2.heap.size∧NN w.heap.size w2.heap.size∧NN w1.heap.size w2.heap.size:=om
 go_wp2_with fail
 refine (ih.at.commHead h (k+1) _ wg (fun hx=>zk HO ((zk HR).symm.trans (by simp only [gZ,lT,ub,et c0,hx])))).mono ?_
 rintro e w3 hp
 rcases hp with ⟨l3,s3,k3,ao3,cp3,hq,rfl,hrow,p3,hg⟩ | ⟨pb,rule,hq,rfl,hg⟩
 rotate_left
 (exact ⟨rfl,zs (by rw [←zk HR];simp only [gZ,lT,ub,et c0,hq]) (zl wg hg)⟩)
 have hz3:=hg.size
 (try simp at hz3)
 have G3:w.grownBy w3 (some C.b):=zl wg hg
 have bl0_3:BL w3 w.heap.size (yA):=BL.grown wg hg om
 have hl0_3:=bl0_3.lt
 have bl1_3:BL w3 w1.heap.size (yE 26 ⟨#[100,101,102,97,117,108,116]⟩ 0 (zp C.ts k).pos none 0 0):=BL.grown wg hg om
 have hl1_3:=bl1_3.lt
 have zc1_3:=bl1_3.cell
 have fz1_3:=bl1_3.frozen
 clear bl0_2 bl1_2 p2
 obtain ⟨lo3,hlo3,row3⟩:=hrow.named
 (try simp at hlo3)
 have HQ3:=zm hq
 clear hrow hq hg
 have ⟨⟨ne7,nf7⟩,⟨ne8,nf8⟩,⟨ne9,nf9⟩⟩:NN C.b w3.heap.size∧NN w.heap.size w3.heap.size∧NN w1.heap.size w3.heap.size:=om
 have bn3:BL ((w3.setCell ⟨w1.heap.size,1,none⟩ (.string ⟨(lT s3).toArray⟩)).setCell ⟨w1.heap.size,6,none⟩ (.slice ao3 l3.length cp3)) w1.heap.size (yE 26 ⟨(lT s3).toArray⟩ 0 (zp C.ts k).pos ao3 l3.length cp3):=(BL.mF (BL.mF bl1_3 rfl) rfl)
 go_wp2
 go_region_law (first | (refine iK rfl (.tmp 25) (.tmp 28) rfl (lo:=lo3) (hi:=w3.heap.size) (ao:=ao3) (cp:=cp3) (l:=l3) (t:=.mk kd4 tx4 nm4 ps4 kids4) (A:=lo4) (B:=w4.heap.size) (g0:=w4.heap.size) (cur:=#[.int .i64 kd4,.string ⟨tx4.toArray⟩,.int .i64 nm4,.int .i64 ps4,.string ⟨#[]⟩,.int .i64 0,.slice ao4 kids4.length cp4]) zH (zq.ag row3 (yQ zu om) lr lr) zH (yN om) ((Nd.mk (kd:=kd4) (tx:=tx4) (nm:=nm4) (ps:=ps4) row4).ag (yQ zu sq)) rfl iO hn3 sq sq om sq om ?_;intro g5 cp5 w5 hrw5 hgA hat5 hgl5;have hob:=row3.own;have hz5:=hgA.size;(try simp at hz5);(try simp at hat5);have G5:w.grownBy w5 (some C.b):=yP (yD wg) hgA (fun x hx=>by have:=hob x hx;omega);have p5:=PS.own (C:=C) (k:=k4) (h:=h) (zw wg) ok hgA (fun x hx=>by have:=hob x hx;omega);have bl0_5:BL w5 w.heap.size (yA):=BL.own (yS wg) hgA (fun e=>by have:=hob _ e.symm;omega);have hl0_5:=bl0_5.lt;have zc0_5:=bl0_5.cell;have fz0_5:=bl0_5.frozen;have bl1_5:BL w5 w1.heap.size (.cells #[.int .i64 26,.string ⟨(lT s3).toArray⟩,.int .i64 0,.int .i64 (zp C.ts k).pos,.string ⟨#[]⟩,.int .i64 0,.slice ao3 l3.length cp3] 25):=BL.own (yS wg) hgA (fun e=>by have:=hob _ e.symm;omega);have hl1_5:=bl1_5.lt;have zc1_5:=bl1_5.cell;have fz1_5:=bl1_5.frozen;clear bl0_4 zc0_4 fz0_4;clear bl1_4 zc1_4 fz1_4;clear p4 hgA hob;have ne13:¬C.b=w5.heap.size:=om;have nf13:¬w5.heap.size=C.b:=om;have ne14:¬w.heap.size=w5.heap.size:=om;have nf14:¬w5.heap.size=w.heap.size:=om;have ne15:¬w1.heap.size=w5.heap.size:=om;have nf15:¬w5.heap.size=w1.heap.size:=om) | (go_simp;go_at_call 152;(refine (ih.at.clauseBlock h k3 _ (pw1 (pw3 (pw3 wg ok sq) ok sq)) (fun hx=>zk HO ((zk HR).symm.trans (by simp only [gZ,lT,ub,et c0,zk HQ3,hx])))).mono ?_;rintro e w4 hp;rcases hp with ⟨kd4,tx4,nm4,ps4,kids4,s4,k4,ao4,cp4,hq,rfl,hrow,p4,hg⟩ | ⟨pb,rule,hq,rfl,hg⟩;rotate_left;(exact ⟨rfl,zs (by rw [←zk HR];simp only [gZ,lT,ub,et c0,zk HQ3,hq]) (zl (gw1 (gw3 (gw3 wg sq) sq)) hg)⟩);have hz4:=hg.size;(try simp at hz4);have G4:w.grownBy w4 (some C.b):=zl (gw1 (gw3 (gw3 wg sq) sq)) hg;replace row3:=zq.ag row3 (Ag.grown (aw1 (aw3 (aw3 zu sq) sq)) hg sq om) lr lr;have bl0_4:BL w4 w.heap.size (yA):=BL.grown (bw1 (bw3 (bw3 wg om) om)) hg om;have hl0_4:=bl0_4.lt;have zc0_4:=bl0_4.cell;have fz0_4:=bl0_4.frozen;have bl1_4:BL w4 w1.heap.size (.cells #[.int .i64 26,.string ⟨(lT s3).toArray⟩,.int .i64 0,.int .i64 (zp C.ts k).pos,.string ⟨#[]⟩,.int .i64 0,.slice ao3 l3.length cp3] 25):=BL.grown (bw1 wg) hg om;have hl1_4:=bl1_4.lt;have zc1_4:=bl1_4.cell;have fz1_4:=bl1_4.frozen;clear bl0_3;clear bl1_3 zc1_3 fz1_3;clear p3;obtain ⟨lo4,hlo4,row4⟩:=hrow.named;(try simp at hlo4);have HQ4:=zm hq;clear hrow hq;clear hg;have ne10:¬C.b=w4.heap.size:=om;have nf10:¬w4.heap.size=C.b:=om;have ne11:¬w.heap.size=w4.heap.size:=om;have nf11:¬w4.heap.size=w.heap.size:=om;have ne12:¬w1.heap.size=w4.heap.size:=om;have nf12:¬w4.heap.size=w1.heap.size:=om;have hn3:l3.length≤1000000:=(by have h1:=yq C.ts n .commHead h (k+1) l3 s3 k3 (zk HQ3);have h2:=ok.few;have h3:=p4.kl;have h4:=yq C.ts n .clauseBlock h k3 _ s4 k4 (zk HQ4);simp only [st,bnd] at h1 h4;omega))))
 all_goals
  go_wp2
  refine bodyPost_ret (v:=.agg #[.int .i64 26,.string ⟨(lT s3).toArray⟩,.int .i64 0,.int .i64 (zp C.ts k).pos,.string ⟨#[]⟩,.int .i64 0,.slice (some ⟨g5,0,none⟩) (l3.length+1) cp5]) (by simp [results,Tryz.results141,go_sem, *]) rfl (yB (hi:=(World.heap _).size) (s:=0) (k':=k4) (tx:=(lT s3)) (kids:=(l3++[.mk kd4 tx4 nm4 ps4 kids4])) (by rw [←zk HR];simp only [gZ,lT,ub,et c0,zk HQ3,zk HQ4]) (zq.wide (hrw5 _ sq (Ag.one (yr (aw3 zu sq) oz)) (yr (aw3 zu sq) oz) (yr (aw3 zu sq) oz)) om lr) om ?_ ?_)
  ·exact yv (pw3 wg ok sq) ok oz
  ·exact yw (gw3 wg sq) oz
end Go.Proofs.YtgbjpnnockoomaaGreatDoor
