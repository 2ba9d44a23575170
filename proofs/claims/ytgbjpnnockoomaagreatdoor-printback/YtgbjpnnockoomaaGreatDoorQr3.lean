import Derived.Test.YtgbjpnnockoomaaGreatDoorQg
import Derived.Test.YtgbjpnnockoomaaGreatDoorParB
import Derived.Test.YtgbjpnnockoomaaGreatDoorSteps
set_option linter.unusedVariables false
set_option linter.unusedSimpArgs false
set_option maxHeartbeats 4000000
set_option maxRecDepth 100000
namespace Go.Proofs.YtgbjpnnockoomaaGreatDoor
open Go.RowKit Lx Px
theorem acting_3T_w (C:Ctx) (ok:C.Ok) (n:Nat) (ih:All C n) (kd:Int) (tx:List UInt8) (nm ps:Int) (kids:List Tree) (s:Int) (ao:Option Addr) (cp:Nat):∀ (h:Bool) (k:Nat) (w:World) (lo hi:Nat),PS w C k h→C.b<lo→hi≤w.heap.size→lo≤w.heap.size→zq w lo hi (.slice ao kids.length cp) kids→(h3:s=3)→(c0:¬yb C.ts k [[58,61]]=true)→(c4:¬yb C.ts k [[61],[43,61],[45,61],[42,61]]=true)→(c2:yb C.ts k [[43,43],[45,45]]=true)→run C.ts (n+1) (.acting (.mk kd tx nm ps kids) s) h k≠.out→Calls Tryz.prog 132 #[.pointer (some ⟨C.b,0,none⟩),.agg #[.int .i64 kd,.string ⟨tx.toArray⟩,.int .i64 nm,.int .i64 ps,.string ⟨#[]⟩,.int .i64 0,.slice ao kids.length cp],.int .i64 s] w (iU C lo (run C.ts (n+1) (.acting (.mk kd tx nm ps kids) s) h k) h w):=by
 intro h k w lo hi p hblo hhi hlow rowa h3 c0 c4 c2 hout
 have hr:run C.ts (n+1) (.acting (.mk kd tx nm ps kids) s) h k=yO C.ts (run C.ts n) (.mk kd tx nm ps kids) s h k:=rfl
 rw [hr] at hout ⊢
 clear hr
 generalize hR:yO C.ts (run C.ts n) (.mk kd tx nm ps kids) s h k=r0 at hout ⊢
 have hbl:=p.lt
 have G0:=zo w (some C.b)
 have HR:=zm hR
 clear hR hout
 have b3:(s==3)=true:=by simp [h3]
 have hs2:2≤s:=om
 have H3:=zm h3
 clear h3
 go_enter Tryz.func132,Tryz.ntmps132
 go_wp2_with fail
 refine qc w ok k h (zy C ok k h _ (zw (zw wg))) (zw (zw wg)) (yD (yD wg)) fun w1 p1 hg hz1 G1=>?_
 (try simp at hz1)
 replace rowa:=zq.ag rowa (Ag.grown (yQ (yQ zu om) sq) hg sq om) lr lr
 have bl0_1:BL w1 (w.heap.size) (yE kd ⟨tx.toArray⟩ nm ps ao kids.length cp):=BL.grown (yS (yN om)) hg om
 have hl0_1:=bl0_1.lt
 have zc0_1:=bl0_1.cell
 have bl1_1:BL w1 (w.heap.size+1) (yA):=BL.grown (yN sq) hg om
 clear hg
 have nf2:¬w.heap.size+1=C.b:=om
 go_wp2_with fail
 refine qc w ok k h (yV C ok k h _ [58,61] (zw (zw (zw wg))) (Bool.eq_false_iff.2 c0)) (zw (zw (zw wg))) (yD (yD (yD wg))) fun w2 p2 hg _ G2=>?_
 replace rowa:=zq.ag rowa (Ag.grown (yQ (yQ (yQ zu om) sq) sq) hg sq om) lr lr
 have bl1_2:BL w2 (w.heap.size+1) (yA):=BL.grown (yS (yS (yS wg))) hg om
 have hl1_2:=bl1_2.lt
 have bl2_2:BL w2 (w1.heap.size+1) (yE kd ⟨tx.toArray⟩ nm ps ao kids.length cp):=BL.grown (yS (yN sq)) hg om
 have bl3_2:BL w2 (w1.heap.size+1+1) (yE 0 ⟨(zp C.ts k).text.toArray⟩ 0 (zp C.ts k).pos (some ⟨w1.heap.size+1,0,none⟩) 1 1):=BL.grown (yN sq) hg om
 clear bl0_1 zc0_1 bl1_1 p1 hg
 have ⟨nf7,nf8,ne13,nf16⟩:¬w1.heap.size+1=C.b∧¬w1.heap.size+1+1=C.b∧¬w.heap.size+1=w1.heap.size+1∧¬w1.heap.size+1+1=w1.heap.size+1:=om
 go_wp2_with fail
 refine qc w ok k h (isL C ok k h _ w2.heap.size [[61],[43,61],[45,61],[42,61]] dc wg zK) wg wg fun w3 p3 hg _ G3=>?_
 replace rowa:=zq.ag rowa (Ag.grown zu hg om om) lr lr
 have bl1_3:BL w3 (w.heap.size+1) (yA):=BL.grown wg hg om
 have hl1_3:=bl1_3.lt
 have bl2_3:BL w3 (w1.heap.size+1) (yE kd ⟨tx.toArray⟩ nm ps ao kids.length cp):=BL.grown wg hg om
 have bl3_3:BL w3 (w1.heap.size+1+1) (yE 0 ⟨(zp C.ts k).text.toArray⟩ 0 (zp C.ts k).pos (some ⟨w1.heap.size+1,0,none⟩) 1 1):=BL.grown wg hg om
 clear bl1_2 bl2_2 bl3_2 p2 hg
 go_wp2_with fail
 refine qc w ok k h (isL C ok k h _ w3.heap.size [[43,43],[45,45]] dc wg zK) wg wg fun w4 p4 hg _ G4=>?_
 replace rowa:=zq.ag rowa (Ag.grown zu hg om om) lr lr
 have bl1_4:BL w4 (w.heap.size+1) (yA):=BL.grown wg hg om
 have hl1_4:=bl1_4.lt
 have bl2_4:BL w4 (w1.heap.size+1) (yE kd ⟨tx.toArray⟩ nm ps ao kids.length cp):=BL.grown wg hg om
 have bl3_4:BL w4 (w1.heap.size+1+1) (yE 0 ⟨(zp C.ts k).text.toArray⟩ 0 (zp C.ts k).pos (some ⟨w1.heap.size+1,0,none⟩) 1 1):=BL.grown wg hg om
 clear bl1_3 bl2_3 bl3_3 p3 hg
 go_wp2_with fail
 refine (yR C ok k h _ wg (lu c2)).mono ?_
 rintro e w5 ⟨rfl,p5,hg⟩
 have G5:w.grownBy w5 (some C.b):=zl wg hg
 replace rowa:=zq.ag rowa (Ag.grown zu hg om om) lr lr
 have bl1_5:BL w5 (w.heap.size+1) (yA):=BL.grown wg hg om
 have hl1_5:=bl1_5.lt
 have zc1_5:=bl1_5.cell
 have fz1_5:=bl1_5.frozen
 have bl2_5:BL w5 (w1.heap.size+1) (yE kd ⟨tx.toArray⟩ nm ps ao kids.length cp):=BL.grown wg hg om
 have bl3_5:BL w5 (w1.heap.size+1+1) (yE 0 ⟨(zp C.ts k).text.toArray⟩ 0 (zp C.ts k).pos (some ⟨w1.heap.size+1,0,none⟩) 1 1):=BL.grown wg hg om
 have hl3_5:=bl3_5.lt
 have zc3_5:=bl3_5.cell
 have fz3_5:=bl3_5.frozen
 clear bl1_4 bl2_4 bl3_4 p4 hg
 go_wp2
 refine bodyPost_ret (v:=.tuple #[.agg #[.int .i64 20,.string ⟨(zp C.ts k).text.toArray⟩,.int .i64 0,.int .i64 (zp C.ts k).pos,.string ⟨#[]⟩,.int .i64 0,.slice (some ⟨w1.heap.size+1,0,none⟩) 1 1],.bool true]) zQ rfl (iY (hi:=w5.heap.size)  (k':=k+1) (tx:=(zp C.ts k).text) (kids:=[.mk kd tx nm ps kids])  (by rw [←zk HR];simp only [yO,ub,et (zk H3),et hs2,ef c0,ef c4,et c2]) (yh.toI (z:=w5.heap.size) (qR (kd:=kd) (tx:=tx) (nm:=nm) (ps:=ps) (cur:=#[.int .i64 kd,.string ⟨tx.toArray⟩,.int .i64 nm,.int .i64 ps,.string ⟨#[]⟩,.int .i64 0,.slice ao kids.length cp]) (bw7 (bw3 wg om) oz) (rowa.ag (aw8 (aw4 zu sq) oz) lr lr) rfl om om) om om om) sq ?_ ?_)
 ·exact yv (pw3 wg ok sq) ok oz
 ·exact yw (gw3 wg sq) oz
theorem acting_3S_w (C:Ctx) (ok:C.Ok) (n:Nat) (ih:All C n) (kd:Int) (tx:List UInt8) (nm ps:Int) (kids:List Tree) (s:Int) (ao:Option Addr) (cp:Nat):∀ (h:Bool) (k:Nat) (w:World) (lo hi:Nat),PS w C k h→C.b<lo→hi≤w.heap.size→lo≤w.heap.size→zq w lo hi (.slice ao kids.length cp) kids→(h3:s=3)→(c0:¬yb C.ts k [[58,61]]=true)→(c4:¬yb C.ts k [[61],[43,61],[45,61],[42,61]]=true)→(c2:¬yb C.ts k [[43,43],[45,45]]=true)→(csend:yb C.ts k [[60,45]]=true)→run C.ts (n+1) (.acting (.mk kd tx nm ps kids) s) h k≠.out→Calls Tryz.prog 132 #[.pointer (some ⟨C.b,0,none⟩),.agg #[.int .i64 kd,.string ⟨tx.toArray⟩,.int .i64 nm,.int .i64 ps,.string ⟨#[]⟩,.int .i64 0,.slice ao kids.length cp],.int .i64 s] w (iU C lo (run C.ts (n+1) (.acting (.mk kd tx nm ps kids) s) h k) h w):=by
 intro h k w lo hi p hblo hhi hlow rowa h3 c0 c4 c2 csend hout
 have hr:run C.ts (n+1) (.acting (.mk kd tx nm ps kids) s) h k=yO C.ts (run C.ts n) (.mk kd tx nm ps kids) s h k:=rfl
 rw [hr] at hout ⊢
 clear hr
 generalize hR:yO C.ts (run C.ts n) (.mk kd tx nm ps kids) s h k=r0 at hout ⊢
 have hbl:=p.lt
 have htb:=ok.lt
 have htf0:=dw
 have htf1:=dL
 have htf3:=bT
 have hmf:=ig
 have G0:=zo w (some C.b)
 have HR:=zm hR
 clear hR
 have HO:=zm hout
 clear hout
 have b3:(s==3)=true:=by simp [h3]
 have hs2:2≤s:=om
 have H3:=zm h3
 clear h3
 go_enter Tryz.func132,Tryz.ntmps132
 go_wp2_with fail
 refine qc w ok k h (zy C ok k h _ (zw (zw wg))) (zw (zw wg)) (yD (yD wg)) fun w1 p1 hg hz1 G1=>?_
 (try simp at hz1)
 replace rowa:=zq.ag rowa (Ag.grown (yQ (yQ zu om) sq) hg sq om) lr lr
 have bl0_1:BL w1 (w.heap.size) (yE kd ⟨tx.toArray⟩ nm ps ao kids.length cp):=BL.grown (yS (yN om)) hg om
 have hl0_1:=bl0_1.lt
 have zc0_1:=bl0_1.cell
 have bl1_1:BL w1 (w.heap.size+1) (yA):=BL.grown (yN sq) hg om
 have hl1_1:=bl1_1.lt
 clear hg
 have ⟨⟨ne1,nf1⟩,⟨ne2,nf2⟩,⟨ne3,nf3⟩,⟨ne4,nf4⟩,⟨ne5,nf5⟩,⟨ne6,nf6⟩⟩:NN C.b w.heap.size∧NN C.b (w.heap.size+1)∧NN C.b w1.heap.size∧NN w.heap.size (w.heap.size+1)∧NN w.heap.size w1.heap.size∧NN (w.heap.size+1) w1.heap.size:=om
 go_wp2_with fail
 refine qc w ok k h (yV C ok k h _ [58,61] (zw (zw (zw wg))) (Bool.eq_false_iff.2 c0)) (zw (zw (zw wg))) (yD (yD (yD wg))) fun w2 p2 hg hz2 G2=>?_
 (try simp at hz2)
 replace rowa:=zq.ag rowa (Ag.grown (yQ (yQ (yQ zu om) sq) sq) hg sq om) lr lr
 have bl0_2:BL w2 (w.heap.size) (yE kd ⟨tx.toArray⟩ nm ps ao kids.length cp):=BL.grown (yS (yS (yS wg))) hg om
 have hl0_2:=bl0_2.lt
 have bl1_2:BL w2 (w.heap.size+1) (yA):=BL.grown (yS (yS (yS wg))) hg om
 have hl1_2:=bl1_2.lt
 have bl2_2:BL w2 (w1.heap.size+1) (yE kd ⟨tx.toArray⟩ nm ps ao kids.length cp):=BL.grown (yS (yN sq)) hg om
 have hl2_2:=bl2_2.lt
 have bl3_2:BL w2 (w1.heap.size+1+1) (yE 0 ⟨(zp C.ts k).text.toArray⟩ 0 (zp C.ts k).pos (some ⟨w1.heap.size+1,0,none⟩) 1 1):=BL.grown (yN sq) hg om
 have hl3_2:=bl3_2.lt
 clear bl0_1 zc0_1 bl1_1 p1 hg
 have ⟨⟨ne7,nf7⟩,⟨ne8,nf8⟩,⟨ne9,nf9⟩,⟨ne10,nf10⟩,⟨ne11,nf11⟩,⟨ne12,nf12⟩,⟨ne13,nf13⟩,⟨ne14,nf14⟩,⟨ne15,nf15⟩,⟨ne16,nf16⟩,⟨ne17,nf17⟩,⟨ne18,nf18⟩⟩:NN C.b (w1.heap.size+1)∧NN C.b (w1.heap.size+1+1)∧NN C.b w2.heap.size∧NN w.heap.size (w1.heap.size+1)∧NN w.heap.size (w1.heap.size+1+1)∧NN w.heap.size w2.heap.size∧NN (w.heap.size+1) (w1.heap.size+1)∧NN (w.heap.size+1) (w1.heap.size+1+1)∧NN (w.heap.size+1) w2.heap.size∧NN (w1.heap.size+1) (w1.heap.size+1+1)∧NN (w1.heap.size+1) w2.heap.size∧NN (w1.heap.size+1+1) w2.heap.size:=om
 go_wp2_with fail
 refine qc w ok k h (isL C ok k h _ w2.heap.size [[61],[43,61],[45,61],[42,61]] dc wg zK) wg wg fun w3 p3 hg hz3 G3=>?_
 (try simp at hz3)
 replace rowa:=zq.ag rowa (Ag.grown zu hg om om) lr lr
 have bl0_3:BL w3 (w.heap.size) (yE kd ⟨tx.toArray⟩ nm ps ao kids.length cp):=BL.grown wg hg om
 have hl0_3:=bl0_3.lt
 have bl1_3:BL w3 (w.heap.size+1) (yA):=BL.grown wg hg om
 have hl1_3:=bl1_3.lt
 have bl2_3:BL w3 (w1.heap.size+1) (yE kd ⟨tx.toArray⟩ nm ps ao kids.length cp):=BL.grown wg hg om
 have hl2_3:=bl2_3.lt
 have bl3_3:BL w3 (w1.heap.size+1+1) (yE 0 ⟨(zp C.ts k).text.toArray⟩ 0 (zp C.ts k).pos (some ⟨w1.heap.size+1,0,none⟩) 1 1):=BL.grown wg hg om
 have hl3_3:=bl3_3.lt
 clear bl0_2 bl1_2 bl2_2 bl3_2 p2 hg
 have ⟨⟨ne19,nf19⟩,⟨ne20,nf20⟩,⟨ne21,nf21⟩,⟨ne22,nf22⟩,⟨ne23,nf23⟩⟩:NN C.b w3.heap.size∧NN w.heap.size w3.heap.size∧NN (w.heap.size+1) w3.heap.size∧NN (w1.heap.size+1) w3.heap.size∧NN (w1.heap.size+1+1) w3.heap.size:=om
 go_wp2_with fail
 refine qc w ok k h (isL C ok k h _ w3.heap.size [[43,43],[45,45]] dc wg zK) wg wg fun w4 p4 hg hz4 G4=>?_
 (try simp at hz4)
 replace rowa:=zq.ag rowa (Ag.grown zu hg om om) lr lr
 have bl0_4:BL w4 (w.heap.size) (yE kd ⟨tx.toArray⟩ nm ps ao kids.length cp):=BL.grown wg hg om
 have hl0_4:=bl0_4.lt
 have bl1_4:BL w4 (w.heap.size+1) (yA):=BL.grown wg hg om
 have hl1_4:=bl1_4.lt
 have bl2_4:BL w4 (w1.heap.size+1) (yE kd ⟨tx.toArray⟩ nm ps ao kids.length cp):=BL.grown wg hg om
 have hl2_4:=bl2_4.lt
 have bl3_4:BL w4 (w1.heap.size+1+1) (yE 0 ⟨(zp C.ts k).text.toArray⟩ 0 (zp C.ts k).pos (some ⟨w1.heap.size+1,0,none⟩) 1 1):=BL.grown wg hg om
 have hl3_4:=bl3_4.lt
 clear bl0_3 bl1_3 bl2_3 bl3_3 p3 hg
 have ⟨⟨ne24,nf24⟩,⟨ne25,nf25⟩,⟨ne26,nf26⟩,⟨ne27,nf27⟩,⟨ne28,nf28⟩⟩:NN C.b w4.heap.size∧NN w.heap.size w4.heap.size∧NN (w.heap.size+1) w4.heap.size∧NN (w1.heap.size+1) w4.heap.size∧NN (w1.heap.size+1+1) w4.heap.size:=om
 go_wp2_with fail
 refine (yU C ok k h _ [60,45] wg csend).mono ?_
 rintro e w5 ⟨rfl,p5,hg⟩
 have hz5:=hg.size
 (try simp at hz5)
 have G5:w.grownBy w5 (some C.b):=zl wg hg
 replace rowa:=zq.ag rowa (Ag.grown zu hg om om) lr lr
 have bl0_5:BL w5 (w.heap.size) (yE kd ⟨tx.toArray⟩ nm ps ao kids.length cp):=BL.grown wg hg om
 have hl0_5:=bl0_5.lt
 have bl1_5:BL w5 (w.heap.size+1) (yA):=BL.grown wg hg om
 have hl1_5:=bl1_5.lt
 have bl2_5:BL w5 (w1.heap.size+1) (yE kd ⟨tx.toArray⟩ nm ps ao kids.length cp):=BL.grown wg hg om
 have hl2_5:=bl2_5.lt
 have bl3_5:BL w5 (w1.heap.size+1+1) (yE 0 ⟨(zp C.ts k).text.toArray⟩ 0 (zp C.ts k).pos (some ⟨w1.heap.size+1,0,none⟩) 1 1):=BL.grown wg hg om
 have hl3_5:=bl3_5.lt
 have zc3_5:=bl3_5.cell
 have fz3_5:=bl3_5.frozen
 clear bl0_4 bl1_4 bl2_4 bl3_4 p4 hg
 have ⟨⟨ne29,nf29⟩,⟨ne30,nf30⟩,⟨ne31,nf31⟩,⟨ne32,nf32⟩,⟨ne33,nf33⟩⟩:NN C.b w5.heap.size∧NN w.heap.size w5.heap.size∧NN (w.heap.size+1) w5.heap.size∧NN (w1.heap.size+1) w5.heap.size∧NN (w1.heap.size+1+1) w5.heap.size:=om
 go_wp2
 go_region_law (first | (refine jX rfl (.tmp 79) (.tmp 82) rfl (lo:=lo) (hi:=hi) (p:=w1.heap.size+1) (q:=w1.heap.size+1+1) (ao:=some ⟨w1.heap.size+1,0,none⟩) (cp:=1) (l:=[.mk kd tx nm ps kids]) (t:=.mk kd6 tx6 nm6 ps6 kids6) (A:=lo6) (B:=w6.heap.size) (g0:=w6.heap.size) (cur:=#[.int .i64 kd6,.string ⟨tx6.toArray⟩,.int .i64 nm6,.int .i64 ps6,.string ⟨#[]⟩,.int .i64 0,.slice ao6 kids6.length cp6]) zH (qR (kd:=kd) (tx:=tx) (nm:=nm) (ps:=ps) (cur:=#[.int .i64 kd,.string ⟨tx.toArray⟩,.int .i64 nm,.int .i64 ps,.string ⟨#[]⟩,.int .i64 0,.slice ao kids.length cp]) (yS wg) (rowa.ag (yQ zu om) lr lr) rfl om om) zH (yN om) ((Nd.mk (kd:=kd6) (tx:=tx6) (nm:=nm6) (ps:=ps6) row6).ag (yQ zu sq)) rfl iO zK sq sq om sq om sq om om ?_;intro g7 cp7 w7 hrw7 hgA hat7 hgl7;have hob:∀ x,(Value.slice (some ⟨w1.heap.size+1,0,none⟩) ([.mk kd tx nm ps kids]:List Tree).length 1).ownBlock=some x→x=w1.heap.size+1:=(fun x hx=>by simp only [Value.ownBlock,Option.some.injEq] at hx;omega);have hz7:=hgA.size;(try simp at hz7);have hat:(lo≤g7∧g7<hi)∨(w1.heap.size+1≤g7∧g7<w1.heap.size+1+1)∨g7=w6.heap.size+1:=(by rcases hat7 with (e | e) | e;exact Or.inl e;exact Or.inr (Or.inl e);exact Or.inr (Or.inr (by simpa using e)));have G7:w.grownBy w7 (some C.b):=yP (yD wg) hgA (fun x hx=>by have:=hob x hx;omega);have p7:=PS.own (C:=C) (k:=k6) (h:=h) (zw wg) ok hgA (fun x hx=>by have:=hob x hx;omega);replace rowa:=zq.ag rowa (Ag.own (yQ zu om) hgA sq (fun x hx=>by have:=hob x hx;omega)) lr lr;have bl1_7:BL w7 (w.heap.size+1) (yA):=BL.own (yS wg) hgA (fun e=>by have:=hob _ e.symm;omega);have hl1_7:=bl1_7.lt;have zc1_7:=bl1_7.cell;have fz1_7:=bl1_7.frozen;have bl3_7:BL w7 (w1.heap.size+1+1) (.cells #[.int .i64 33,.string ⟨#[]⟩,.int .i64 0,.int .i64 (zp C.ts k).pos,.string ⟨#[]⟩,.int .i64 0,.slice (some ⟨w1.heap.size+1,0,none⟩) 1 1] 25):=BL.own (yS wg) hgA (fun e=>by have:=hob _ e.symm;omega);have hl3_7:=bl3_7.lt;have zc3_7:=bl3_7.cell;have fz3_7:=bl3_7.frozen;clear p6 hgA hob;have nz0:¬C.b=w7.heap.size:=om;have ny0:¬w7.heap.size=C.b:=om;have nz1:¬w.heap.size+1=w7.heap.size:=om;have ny1:¬w7.heap.size=w.heap.size+1:=om;have nz2:¬w1.heap.size+1+1=w7.heap.size:=om;have ny2:¬w7.heap.size=w1.heap.size+1+1:=om) | (go_simp;go_at_call 126;refine (ih.at.expr h (k+1) _ (pw1 (pw3 (pw3 wg ok sq) ok sq)) (fun hx=>zk HO ((zk HR).symm.trans (by simp only [yO,ub,et (zk H3),et hs2,ef c0,ef c4,ef c2,et csend,hx])))).mono ?_;rintro e w6 hp;rcases hp with ⟨kd6,tx6,nm6,ps6,kids6,s6,k6,ao6,cp6,hq,rfl,hrow,p6,hg⟩ | ⟨pb,rule,hq,rfl,hg⟩;rotate_left;(exact ⟨rfl,jl (by rw [←zk HR];simp only [yO,ub,et (zk H3),et hs2,ef c0,ef c4,ef c2,et csend,hq]) (zl (gw1 (gw3 (gw3 wg sq) sq)) hg)⟩);have hz6:=hg.size;(try simp at hz6);have G6:w.grownBy w6 (some C.b):=zl (gw1 (gw3 (gw3 wg sq) sq)) hg;replace rowa:=zq.ag rowa (Ag.grown (aw1 (aw4 (aw4 zu sq) sq)) hg sq om) lr lr;have bl0_6:BL w6 (w.heap.size) (.cells #[.int .i64 kd,.string ⟨tx.toArray⟩,.int .i64 nm,.int .i64 ps,.string ⟨#[]⟩,.int .i64 0,.slice ao kids.length cp] 25):=BL.grown (bw1 (bw3 (bw3 wg om) om)) hg om;have hl0_6:=bl0_6.lt;have zc0_6:=bl0_6.cell;have fz0_6:=bl0_6.frozen;have bl1_6:BL w6 (w.heap.size+1) (yA):=BL.grown (bw1 (bw3 (bw3 wg om) om)) hg om;have hl1_6:=bl1_6.lt;have zc1_6:=bl1_6.cell;have fz1_6:=bl1_6.frozen;have bl2_6:BL w6 (w1.heap.size+1) (.cells #[.int .i64 kd,.string ⟨tx.toArray⟩,.int .i64 nm,.int .i64 ps,.string ⟨#[]⟩,.int .i64 0,.slice ao kids.length cp] 25):=BL.grown (bw1 (bw3 (bw3 wg om) om)) hg om;have hl2_6:=bl2_6.lt;have zc2_6:=bl2_6.cell;have fz2_6:=bl2_6.frozen;have bl3_6:BL w6 (w1.heap.size+1+1) (.cells #[.int .i64 33,.string ⟨#[]⟩,.int .i64 0,.int .i64 (zp C.ts k).pos,.string ⟨#[]⟩,.int .i64 0,.slice (some ⟨w1.heap.size+1,0,none⟩) 1 1] 25):=BL.grown (bw1 (by apply BL.o5 wg;rfl)) hg om;have hl3_6:=bl3_6.lt;have zc3_6:=bl3_6.cell;have fz3_6:=bl3_6.frozen;clear bl0_5;clear bl1_5;clear bl2_5;clear bl3_5 zc3_5 fz3_5;clear p5;obtain ⟨lo6,hlo6,row6⟩:=hrow.named;(try simp at hlo6);have HQ6:=zm hq;clear hrow hq;clear hg;have ne34:¬C.b=w6.heap.size:=om;have nf34:¬w6.heap.size=C.b:=om;have ne35:¬w.heap.size=w6.heap.size:=om;have nf35:¬w6.heap.size=w.heap.size:=om;have ne36:¬w.heap.size+1=w6.heap.size:=om;have nf36:¬w6.heap.size=w.heap.size+1:=om;have ne37:¬w1.heap.size+1=w6.heap.size:=om;have nf37:¬w6.heap.size=w1.heap.size+1:=om;have ne38:¬w1.heap.size+1+1=w6.heap.size:=om;have nf38:¬w6.heap.size=w1.heap.size+1+1:=om))
 all_goals
  go_wp2
  refine bodyPost_ret (v:=.tuple #[.agg #[.int .i64 33,.string ⟨#[]⟩,.int .i64 0,.int .i64 (zp C.ts k).pos,.string ⟨#[]⟩,.int .i64 0,.slice (some ⟨g7,0,none⟩) (([.mk kd tx nm ps kids]:List Tree).length+1) cp7],.bool true]) zQ rfl (iY (hi:=(World.heap _).size)  (k':=k6) (tx:=[]) (kids:=[.mk kd tx nm ps kids,.mk kd6 tx6 nm6 ps6 kids6])  (by rw [←zk HR];simp only [yO,ub,et (zk H3),et hs2,ef c0,ef c4,ef c2,et csend,zk HQ6]) (hrw7 _ sq (Ag.one zB) (aw8 (aw4 zu sq) oz) (yr (aw4 zu sq) oz) (yr (aw3 zu sq) oz)) om ?_ ?_)
  ·exact yv (pw3 wg ok sq) ok oz
  ·exact yw (gw3 wg sq) oz
open Go.RowKit Lx Px
theorem acting_4T_w (C:Ctx) (ok:C.Ok) (n:Nat) (ih:All C n) (kd:Int) (tx:List UInt8) (nm ps:Int) (kids:List Tree) (s:Int) (ao:Option Addr) (cp:Nat):∀ (h:Bool) (k:Nat) (w:World) (lo hi:Nat),PS w C k h→C.b<lo→hi≤w.heap.size→lo≤w.heap.size→zq w lo hi (.slice ao kids.length cp) kids→(h3:¬s=3)→(h4:s=4)→(c4:¬yb C.ts k [[61],[43,61],[45,61],[42,61]]=true)→(c2:yb C.ts k [[43,43],[45,45]]=true)→run C.ts (n+1) (.acting (.mk kd tx nm ps kids) s) h k≠.out→Calls Tryz.prog 132 #[.pointer (some ⟨C.b,0,none⟩),.agg #[.int .i64 kd,.string ⟨tx.toArray⟩,.int .i64 nm,.int .i64 ps,.string ⟨#[]⟩,.int .i64 0,.slice ao kids.length cp],.int .i64 s] w (iU C lo (run C.ts (n+1) (.acting (.mk kd tx nm ps kids) s) h k) h w):=by
 intro h k w lo hi p hblo hhi hlow rowa h3 h4 c4 c2 hout
 have hr:run C.ts (n+1) (.acting (.mk kd tx nm ps kids) s) h k=yO C.ts (run C.ts n) (.mk kd tx nm ps kids) s h k:=rfl
 rw [hr] at hout ⊢
 clear hr
 generalize hR:yO C.ts (run C.ts n) (.mk kd tx nm ps kids) s h k=r0 at hout ⊢
 have hbl:=p.lt
 have G0:=zo w (some C.b)
 have HR:=zm hR
 clear hR hout
 have b3:(s==3)=false:=by simp [h3]
 have b4:(s==4)=true:=by simp [h4]
 have hs2:2≤s:=om
 have H4:=zm h4
 clear h4
 go_enter Tryz.func132,Tryz.ntmps132
 go_wp2_with fail
 refine qc w ok k h (zy C ok k h _ (zw (zw wg))) (zw (zw wg)) (yD (yD wg)) fun w1 p1 hg hz1 G1=>?_
 (try simp at hz1)
 replace rowa:=zq.ag rowa (Ag.grown (yQ (yQ zu om) sq) hg sq om) lr lr
 have bl0_1:BL w1 (w.heap.size) (yE kd ⟨tx.toArray⟩ nm ps ao kids.length cp):=BL.grown (yS (yN om)) hg om
 have hl0_1:=bl0_1.lt
 have zc0_1:=bl0_1.cell
 have bl1_1:BL w1 (w.heap.size+1) (yA):=BL.grown (yN sq) hg om
 clear hg
 have nf2:¬w.heap.size+1=C.b:=om
 go_wp2_with fail
 refine qc w ok k h (isL C ok k h _ (w1.heap.size+3) [[61],[43,61],[45,61],[42,61]] dc (zw (zw (zw wg))) zK) (zw (zw (zw wg))) (yD (yD (yD wg))) fun w2 p2 hg _ G2=>?_
 replace rowa:=zq.ag rowa (Ag.grown (yQ (yQ (yQ zu om) sq) sq) hg sq om) lr lr
 have bl1_2:BL w2 (w.heap.size+1) (yA):=BL.grown (yS (yS (yS wg))) hg om
 have hl1_2:=bl1_2.lt
 have bl2_2:BL w2 (w1.heap.size+1) (yE kd ⟨tx.toArray⟩ nm ps ao kids.length cp):=BL.grown (yS (yN sq)) hg om
 have bl3_2:BL w2 (w1.heap.size+1+1) (yE 0 ⟨(zp C.ts k).text.toArray⟩ 0 (zp C.ts k).pos (some ⟨w1.heap.size+1,0,none⟩) 1 1):=BL.grown (yN sq) hg om
 clear bl0_1 zc0_1 bl1_1 p1 hg
 have ⟨nf7,nf8,ne13,nf16⟩:¬w1.heap.size+1=C.b∧¬w1.heap.size+1+1=C.b∧¬w.heap.size+1=w1.heap.size+1∧¬w1.heap.size+1+1=w1.heap.size+1:=om
 go_wp2_with fail
 refine qc w ok k h (isL C ok k h _ w2.heap.size [[43,43],[45,45]] dc wg zK) wg wg fun w3 p3 hg _ G3=>?_
 replace rowa:=zq.ag rowa (Ag.grown zu hg om om) lr lr
 have bl1_3:BL w3 (w.heap.size+1) (yA):=BL.grown wg hg om
 have hl1_3:=bl1_3.lt
 have bl2_3:BL w3 (w1.heap.size+1) (yE kd ⟨tx.toArray⟩ nm ps ao kids.length cp):=BL.grown wg hg om
 have bl3_3:BL w3 (w1.heap.size+1+1) (yE 0 ⟨(zp C.ts k).text.toArray⟩ 0 (zp C.ts k).pos (some ⟨w1.heap.size+1,0,none⟩) 1 1):=BL.grown wg hg om
 clear bl1_2 bl2_2 bl3_2 p2 hg
 go_wp2_with fail
 refine (yR C ok k h _ wg (lu c2)).mono ?_
 rintro e w4 ⟨rfl,p4,hg⟩
 have G4:w.grownBy w4 (some C.b):=zl wg hg
 replace rowa:=zq.ag rowa (Ag.grown zu hg om om) lr lr
 have bl1_4:BL w4 (w.heap.size+1) (yA):=BL.grown wg hg om
 have hl1_4:=bl1_4.lt
 have zc1_4:=bl1_4.cell
 have fz1_4:=bl1_4.frozen
 have bl2_4:BL w4 (w1.heap.size+1) (yE kd ⟨tx.toArray⟩ nm ps ao kids.length cp):=BL.grown wg hg om
 have bl3_4:BL w4 (w1.heap.size+1+1) (yE 0 ⟨(zp C.ts k).text.toArray⟩ 0 (zp C.ts k).pos (some ⟨w1.heap.size+1,0,none⟩) 1 1):=BL.grown wg hg om
 have hl3_4:=bl3_4.lt
 have zc3_4:=bl3_4.cell
 have fz3_4:=bl3_4.frozen
 clear bl1_3 bl2_3 bl3_3 p3 hg
 go_wp2
 refine bodyPost_ret (v:=.tuple #[.agg #[.int .i64 20,.string ⟨(zp C.ts k).text.toArray⟩,.int .i64 0,.int .i64 (zp C.ts k).pos,.string ⟨#[]⟩,.int .i64 0,.slice (some ⟨w1.heap.size+1,0,none⟩) 1 1],.bool true]) zQ rfl (iY (hi:=w4.heap.size)  (k':=k+1) (tx:=(zp C.ts k).text) (kids:=[.mk kd tx nm ps kids])  (by rw [←zk HR];simp only [yO,ub,ef h3,et (zk H4),et hs2,ef c4,et c2]) (yh.toI (z:=w4.heap.size) (qR (kd:=kd) (tx:=tx) (nm:=nm) (ps:=ps) (cur:=#[.int .i64 kd,.string ⟨tx.toArray⟩,.int .i64 nm,.int .i64 ps,.string ⟨#[]⟩,.int .i64 0,.slice ao kids.length cp]) (bw7 (bw3 wg om) oz) (rowa.ag (aw8 (aw4 zu sq) oz) lr lr) rfl om om) om om om) sq ?_ ?_)
 ·exact yv (pw3 wg ok sq) ok oz
 ·exact yw (gw3 wg sq) oz
theorem acting_4S_w (C:Ctx) (ok:C.Ok) (n:Nat) (ih:All C n) (kd:Int) (tx:List UInt8) (nm ps:Int) (kids:List Tree) (s:Int) (ao:Option Addr) (cp:Nat):∀ (h:Bool) (k:Nat) (w:World) (lo hi:Nat),PS w C k h→C.b<lo→hi≤w.heap.size→lo≤w.heap.size→zq w lo hi (.slice ao kids.length cp) kids→(h3:¬s=3)→(h4:s=4)→(c4:¬yb C.ts k [[61],[43,61],[45,61],[42,61]]=true)→(c2:¬yb C.ts k [[43,43],[45,45]]=true)→(csend:yb C.ts k [[60,45]]=true)→run C.ts (n+1) (.acting (.mk kd tx nm ps kids) s) h k≠.out→Calls Tryz.prog 132 #[.pointer (some ⟨C.b,0,none⟩),.agg #[.int .i64 kd,.string ⟨tx.toArray⟩,.int .i64 nm,.int .i64 ps,.string ⟨#[]⟩,.int .i64 0,.slice ao kids.length cp],.int .i64 s] w (iU C lo (run C.ts (n+1) (.acting (.mk kd tx nm ps kids) s) h k) h w):=by
 intro h k w lo hi p hblo hhi hlow rowa h3 h4 c4 c2 csend hout
 have hr:run C.ts (n+1) (.acting (.mk kd tx nm ps kids) s) h k=yO C.ts (run C.ts n) (.mk kd tx nm ps kids) s h k:=rfl
 rw [hr] at hout ⊢
 clear hr
 generalize hR:yO C.ts (run C.ts n) (.mk kd tx nm ps kids) s h k=r0 at hout ⊢
 have hbl:=p.lt
 have htb:=ok.lt
 have htf0:=dw
 have htf1:=dL
 have htf3:=bT
 have hmf:=ig
 have G0:=zo w (some C.b)
 have HR:=zm hR
 clear hR
 have HO:=zm hout
 clear hout
 have b3:(s==3)=false:=by simp [h3]
 have b4:(s==4)=true:=by simp [h4]
 have hs2:2≤s:=om
 have H4:=zm h4
 clear h4
 go_enter Tryz.func132,Tryz.ntmps132
 go_wp2_with fail
 refine qc w ok k h (zy C ok k h _ (zw (zw wg))) (zw (zw wg)) (yD (yD wg)) fun w1 p1 hg hz1 G1=>?_
 (try simp at hz1)
 replace rowa:=zq.ag rowa (Ag.grown (yQ (yQ zu om) sq) hg sq om) lr lr
 have bl0_1:BL w1 (w.heap.size) (yE kd ⟨tx.toArray⟩ nm ps ao kids.length cp):=BL.grown (yS (yN om)) hg om
 have hl0_1:=bl0_1.lt
 have zc0_1:=bl0_1.cell
 have bl1_1:BL w1 (w.heap.size+1) (yA):=BL.grown (yN sq) hg om
 have hl1_1:=bl1_1.lt
 clear hg
 have ⟨⟨ne1,nf1⟩,⟨ne2,nf2⟩,⟨ne3,nf3⟩,⟨ne4,nf4⟩,⟨ne5,nf5⟩,⟨ne6,nf6⟩⟩:NN C.b w.heap.size∧NN C.b (w.heap.size+1)∧NN C.b w1.heap.size∧NN w.heap.size (w.heap.size+1)∧NN w.heap.size w1.heap.size∧NN (w.heap.size+1) w1.heap.size:=om
 go_wp2_with fail
 refine qc w ok k h (isL C ok k h _ (w1.heap.size+3) [[61],[43,61],[45,61],[42,61]] dc (zw (zw (zw wg))) zK) (zw (zw (zw wg))) (yD (yD (yD wg))) fun w2 p2 hg hz2 G2=>?_
 (try simp at hz2)
 replace rowa:=zq.ag rowa (Ag.grown (yQ (yQ (yQ zu om) sq) sq) hg sq om) lr lr
 have bl0_2:BL w2 (w.heap.size) (yE kd ⟨tx.toArray⟩ nm ps ao kids.length cp):=BL.grown (yS (yS (yS wg))) hg om
 have hl0_2:=bl0_2.lt
 have bl1_2:BL w2 (w.heap.size+1) (yA):=BL.grown (yS (yS (yS wg))) hg om
 have hl1_2:=bl1_2.lt
 have bl2_2:BL w2 (w1.heap.size+1) (yE kd ⟨tx.toArray⟩ nm ps ao kids.length cp):=BL.grown (yS (yN sq)) hg om
 have hl2_2:=bl2_2.lt
 have bl3_2:BL w2 (w1.heap.size+1+1) (yE 0 ⟨(zp C.ts k).text.toArray⟩ 0 (zp C.ts k).pos (some ⟨w1.heap.size+1,0,none⟩) 1 1):=BL.grown (yN sq) hg om
 have hl3_2:=bl3_2.lt
 clear bl0_1 zc0_1 bl1_1 p1 hg
 have ⟨⟨ne7,nf7⟩,⟨ne8,nf8⟩,⟨ne9,nf9⟩,⟨ne10,nf10⟩,⟨ne11,nf11⟩,⟨ne12,nf12⟩,⟨ne13,nf13⟩,⟨ne14,nf14⟩,⟨ne15,nf15⟩,⟨ne16,nf16⟩,⟨ne17,nf17⟩,⟨ne18,nf18⟩⟩:NN C.b (w1.heap.size+1)∧NN C.b (w1.heap.size+1+1)∧NN C.b w2.heap.size∧NN w.heap.size (w1.heap.size+1)∧NN w.heap.size (w1.heap.size+1+1)∧NN w.heap.size w2.heap.size∧NN (w.heap.size+1) (w1.heap.size+1)∧NN (w.heap.size+1) (w1.heap.size+1+1)∧NN (w.heap.size+1) w2.heap.size∧NN (w1.heap.size+1) (w1.heap.size+1+1)∧NN (w1.heap.size+1) w2.heap.size∧NN (w1.heap.size+1+1) w2.heap.size:=om
 go_wp2_with fail
 refine qc w ok k h (isL C ok k h _ w2.heap.size [[43,43],[45,45]] dc wg zK) wg wg fun w3 p3 hg hz3 G3=>?_
 (try simp at hz3)
 replace rowa:=zq.ag rowa (Ag.grown zu hg om om) lr lr
 have bl0_3:BL w3 (w.heap.size) (yE kd ⟨tx.toArray⟩ nm ps ao kids.length cp):=BL.grown wg hg om
 have hl0_3:=bl0_3.lt
 have bl1_3:BL w3 (w.heap.size+1) (yA):=BL.grown wg hg om
 have hl1_3:=bl1_3.lt
 have bl2_3:BL w3 (w1.heap.size+1) (yE kd ⟨tx.toArray⟩ nm ps ao kids.length cp):=BL.grown wg hg om
 have hl2_3:=bl2_3.lt
 have bl3_3:BL w3 (w1.heap.size+1+1) (yE 0 ⟨(zp C.ts k).text.toArray⟩ 0 (zp C.ts k).pos (some ⟨w1.heap.size+1,0,none⟩) 1 1):=BL.grown wg hg om
 have hl3_3:=bl3_3.lt
 clear bl0_2 bl1_2 bl2_2 bl3_2 p2 hg
 have ⟨⟨ne19,nf19⟩,⟨ne20,nf20⟩,⟨ne21,nf21⟩,⟨ne22,nf22⟩,⟨ne23,nf23⟩⟩:NN C.b w3.heap.size∧NN w.heap.size w3.heap.size∧NN (w.heap.size+1) w3.heap.size∧NN (w1.heap.size+1) w3.heap.size∧NN (w1.heap.size+1+1) w3.heap.size:=om
 go_wp2_with fail
 refine (yU C ok k h _ [60,45] wg csend).mono ?_
 rintro e w4 ⟨rfl,p4,hg⟩
 have hz4:=hg.size
 (try simp at hz4)
 have G4:w.grownBy w4 (some C.b):=zl wg hg
 replace rowa:=zq.ag rowa (Ag.grown zu hg om om) lr lr
 have bl0_4:BL w4 (w.heap.size) (yE kd ⟨tx.toArray⟩ nm ps ao kids.length cp):=BL.grown wg hg om
 have hl0_4:=bl0_4.lt
 have bl1_4:BL w4 (w.heap.size+1) (yA):=BL.grown wg hg om
 have hl1_4:=bl1_4.lt
 have bl2_4:BL w4 (w1.heap.size+1) (yE kd ⟨tx.toArray⟩ nm ps ao kids.length cp):=BL.grown wg hg om
 have hl2_4:=bl2_4.lt
 have bl3_4:BL w4 (w1.heap.size+1+1) (yE 0 ⟨(zp C.ts k).text.toArray⟩ 0 (zp C.ts k).pos (some ⟨w1.heap.size+1,0,none⟩) 1 1):=BL.grown wg hg om
 have hl3_4:=bl3_4.lt
 have zc3_4:=bl3_4.cell
 have fz3_4:=bl3_4.frozen
 clear bl0_3 bl1_3 bl2_3 bl3_3 p3 hg
 have ⟨⟨ne24,nf24⟩,⟨ne25,nf25⟩,⟨ne26,nf26⟩,⟨ne27,nf27⟩,⟨ne28,nf28⟩⟩:NN C.b w4.heap.size∧NN w.heap.size w4.heap.size∧NN (w.heap.size+1) w4.heap.size∧NN (w1.heap.size+1) w4.heap.size∧NN (w1.heap.size+1+1) w4.heap.size:=om
 go_wp2
 go_region_law (first | (refine jX rfl (.tmp 79) (.tmp 82) rfl (lo:=lo) (hi:=hi) (p:=w1.heap.size+1) (q:=w1.heap.size+1+1) (ao:=some ⟨w1.heap.size+1,0,none⟩) (cp:=1) (l:=[.mk kd tx nm ps kids]) (t:=.mk kd5 tx5 nm5 ps5 kids5) (A:=lo5) (B:=w5.heap.size) (g0:=w5.heap.size) (cur:=#[.int .i64 kd5,.string ⟨tx5.toArray⟩,.int .i64 nm5,.int .i64 ps5,.string ⟨#[]⟩,.int .i64 0,.slice ao5 kids5.length cp5]) zH (qR (kd:=kd) (tx:=tx) (nm:=nm) (ps:=ps) (cur:=#[.int .i64 kd,.string ⟨tx.toArray⟩,.int .i64 nm,.int .i64 ps,.string ⟨#[]⟩,.int .i64 0,.slice ao kids.length cp]) (yS wg) (rowa.ag (yQ zu om) lr lr) rfl om om) zH (yN om) ((Nd.mk (kd:=kd5) (tx:=tx5) (nm:=nm5) (ps:=ps5) row5).ag (yQ zu sq)) rfl iO zK sq sq om sq om sq om om ?_;intro g6 cp6 w6 hrw6 hgA hat6 hgl6;have hob:∀ x,(Value.slice (some ⟨w1.heap.size+1,0,none⟩) ([.mk kd tx nm ps kids]:List Tree).length 1).ownBlock=some x→x=w1.heap.size+1:=(fun x hx=>by simp only [Value.ownBlock,Option.some.injEq] at hx;omega);have hz6:=hgA.size;(try simp at hz6);have hat:(lo≤g6∧g6<hi)∨(w1.heap.size+1≤g6∧g6<w1.heap.size+1+1)∨g6=w5.heap.size+1:=(by rcases hat6 with (e | e) | e;exact Or.inl e;exact Or.inr (Or.inl e);exact Or.inr (Or.inr (by simpa using e)));have G6:w.grownBy w6 (some C.b):=yP (yD wg) hgA (fun x hx=>by have:=hob x hx;omega);have p6:=PS.own (C:=C) (k:=k5) (h:=h) (zw wg) ok hgA (fun x hx=>by have:=hob x hx;omega);replace rowa:=zq.ag rowa (Ag.own (yQ zu om) hgA sq (fun x hx=>by have:=hob x hx;omega)) lr lr;have bl1_6:BL w6 (w.heap.size+1) (yA):=BL.own (yS wg) hgA (fun e=>by have:=hob _ e.symm;omega);have hl1_6:=bl1_6.lt;have zc1_6:=bl1_6.cell;have fz1_6:=bl1_6.frozen;have bl3_6:BL w6 (w1.heap.size+1+1) (.cells #[.int .i64 33,.string ⟨#[]⟩,.int .i64 0,.int .i64 (zp C.ts k).pos,.string ⟨#[]⟩,.int .i64 0,.slice (some ⟨w1.heap.size+1,0,none⟩) 1 1] 25):=BL.own (yS wg) hgA (fun e=>by have:=hob _ e.symm;omega);have hl3_6:=bl3_6.lt;have zc3_6:=bl3_6.cell;have fz3_6:=bl3_6.frozen;clear p5 hgA hob;have nz0:¬C.b=w6.heap.size:=om;have ny0:¬w6.heap.size=C.b:=om;have nz1:¬w.heap.size+1=w6.heap.size:=om;have ny1:¬w6.heap.size=w.heap.size+1:=om;have nz2:¬w1.heap.size+1+1=w6.heap.size:=om;have ny2:¬w6.heap.size=w1.heap.size+1+1:=om) | (go_simp;go_at_call 126;refine (ih.at.expr h (k+1) _ (pw1 (pw3 (pw3 wg ok sq) ok sq)) (fun hx=>zk HO ((zk HR).symm.trans (by simp only [yO,ub,ef h3,et (zk H4),et hs2,ef c4,ef c2,et csend,hx])))).mono ?_;rintro e w5 hp;rcases hp with ⟨kd5,tx5,nm5,ps5,kids5,s5,k5,ao5,cp5,hq,rfl,hrow,p5,hg⟩ | ⟨pb,rule,hq,rfl,hg⟩;rotate_left;(exact ⟨rfl,jl (by rw [←zk HR];simp only [yO,ub,ef h3,et (zk H4),et hs2,ef c4,ef c2,et csend,hq]) (zl (gw1 (gw3 (gw3 wg sq) sq)) hg)⟩);have hz5:=hg.size;(try simp at hz5);have G5:w.grownBy w5 (some C.b):=zl (gw1 (gw3 (gw3 wg sq) sq)) hg;replace rowa:=zq.ag rowa (Ag.grown (aw1 (aw4 (aw4 zu sq) sq)) hg sq om) lr lr;have bl0_5:BL w5 (w.heap.size) (.cells #[.int .i64 kd,.string ⟨tx.toArray⟩,.int .i64 nm,.int .i64 ps,.string ⟨#[]⟩,.int .i64 0,.slice ao kids.length cp] 25):=BL.grown (bw1 (bw3 (bw3 wg om) om)) hg om;have hl0_5:=bl0_5.lt;have zc0_5:=bl0_5.cell;have fz0_5:=bl0_5.frozen;have bl1_5:BL w5 (w.heap.size+1) (yA):=BL.grown (bw1 (bw3 (bw3 wg om) om)) hg om;have hl1_5:=bl1_5.lt;have zc1_5:=bl1_5.cell;have fz1_5:=bl1_5.frozen;have bl2_5:BL w5 (w1.heap.size+1) (.cells #[.int .i64 kd,.string ⟨tx.toArray⟩,.int .i64 nm,.int .i64 ps,.string ⟨#[]⟩,.int .i64 0,.slice ao kids.length cp] 25):=BL.grown (bw1 (bw3 (bw3 wg om) om)) hg om;have hl2_5:=bl2_5.lt;have zc2_5:=bl2_5.cell;have fz2_5:=bl2_5.frozen;have bl3_5:BL w5 (w1.heap.size+1+1) (.cells #[.int .i64 33,.string ⟨#[]⟩,.int .i64 0,.int .i64 (zp C.ts k).pos,.string ⟨#[]⟩,.int .i64 0,.slice (some ⟨w1.heap.size+1,0,none⟩) 1 1] 25):=BL.grown (bw1 (by apply BL.o5 wg;rfl)) hg om;have hl3_5:=bl3_5.lt;have zc3_5:=bl3_5.cell;have fz3_5:=bl3_5.frozen;clear bl0_4;clear bl1_4;clear bl2_4;clear bl3_4 zc3_4 fz3_4;clear p4;obtain ⟨lo5,hlo5,row5⟩:=hrow.named;(try simp at hlo5);have HQ5:=zm hq;clear hrow hq;clear hg;have ne29:¬C.b=w5.heap.size:=om;have nf29:¬w5.heap.size=C.b:=om;have ne30:¬w.heap.size=w5.heap.size:=om;have nf30:¬w5.heap.size=w.heap.size:=om;have ne31:¬w.heap.size+1=w5.heap.size:=om;have nf31:¬w5.heap.size=w.heap.size+1:=om;have ne32:¬w1.heap.size+1=w5.heap.size:=om;have nf32:¬w5.heap.size=w1.heap.size+1:=om;have ne33:¬w1.heap.size+1+1=w5.heap.size:=om;have nf33:¬w5.heap.size=w1.heap.size+1+1:=om))
 all_goals
  go_wp2
  refine bodyPost_ret (v:=.tuple #[.agg #[.int .i64 33,.string ⟨#[]⟩,.int .i64 0,.int .i64 (zp C.ts k).pos,.string ⟨#[]⟩,.int .i64 0,.slice (some ⟨g6,0,none⟩) (([.mk kd tx nm ps kids]:List Tree).length+1) cp6],.bool true]) zQ rfl (iY (hi:=(World.heap _).size)  (k':=k5) (tx:=[]) (kids:=[.mk kd tx nm ps kids,.mk kd5 tx5 nm5 ps5 kids5])  (by rw [←zk HR];simp only [yO,ub,ef h3,et (zk H4),et hs2,ef c4,ef c2,et csend,zk HQ5]) (hrw6 _ sq (Ag.one zB) (aw8 (aw4 zu sq) oz) (yr (aw4 zu sq) oz) (yr (aw3 zu sq) oz)) om ?_ ?_)
  ·exact yv (pw3 wg ok sq) ok oz
  ·exact yw (gw3 wg sq) oz
open Go.RowKit Lx Px
theorem vM (C:Ctx) (ok:C.Ok) (n:Nat) (ih:All C n):CNt C 129 .selectStmt #[.pointer (some ⟨C.b,0,none⟩)] (n+1):=by
 intro h k w p h6 hout
 have hr:run C.ts (n+1) .selectStmt h k=bP C.ts (run C.ts n) h k:=rfl
 rw [hr] at hout ⊢
 clear hr
 generalize hR:bP C.ts (run C.ts n) h k=r0 at hout ⊢
 have H6:=zm h6
 clear h6
 have hbl:=p.lt
 have htf3:=bT
 have G0:=zo w (some C.b)
 have HR:=zm hR
 clear hR
 have HO:=zm hout
 clear hout
 go_enter Tryz.func129,Tryz.ntmps129
 go_wp2_with fail
 refine (yR C ok k h _ (zw wg) (zk H6)).mono ?_
 rintro e w1 ⟨rfl,p1,hg⟩
 have hz1:=hg.size
 (try simp at hz1)
 have G1:w.grownBy w1 (some C.b):=zl (yD wg) hg
 have bl0_1:BL w1 w.heap.size (yA):=BL.grown (yN om) hg om
 clear hg
 have nf1:¬w.heap.size=C.b:=om
 go_wp2_with fail
 refine (ih.at.clausesT h (k+1) _ wg (fun hx=>zk HO ((zk HR).symm.trans (by simp only [bP,ub,hx])))).mono ?_
 rintro e w2 hp
 rcases hp with ⟨l2,s2,k2,ao2,cp2,hq,rfl,hrow,p2,hg⟩ | ⟨pb,rule,hq,rfl,hg⟩
 rotate_left
 (exact ⟨rfl,zs (by rw [←zk HR];simp only [bP,ub,hq]) (zl wg hg)⟩)
 have G2:w.grownBy w2 (some C.b):=zl wg hg
 have bl0_2:BL w2 w.heap.size (yA):=BL.grown wg hg om
 have zc0_2:=bl0_2.cell
 have fz0_2:=bl0_2.frozen
 clear bl0_1 p1
 obtain ⟨lo2,hlo2,row2⟩:=hrow.named
 (try simp at hlo2)
 have HQ2:=zm hq
 clear hrow hq hg
 go_wp2
 refine bodyPost_ret (v:=.agg #[.int .i64 25,.string ⟨#[]⟩,.int .i64 0,.int .i64 (zp C.ts k).pos,.string ⟨#[]⟩,.int .i64 0,.slice ao2 l2.length cp2]) (by simp [results,Tryz.results129,go_sem, *]) rfl (yB (hi:=w2.heap.size) (s:=0) (k':=k2) (tx:=[]) (kids:=l2) (by rw [←zk HR];simp only [bP,ub,zk HQ2]) (row2.ag (yr zu oz) om lr) sq ?_ ?_)
 ·exact yv wg ok oz
 ·exact yw wg oz
theorem callStmt_w (C:Ctx) (ok:C.Ok) (n:Nat) (ih:All C n) (kd:Int):CNt C 117 (.callStmt kd) #[.pointer (some ⟨C.b,0,none⟩),.int .i64 kd] (n+1):=by
 intro h k w p h6 hout
 have hr:run C.ts (n+1) (.callStmt kd) h k=dB C.ts (run C.ts n) kd h k:=rfl
 rw [hr] at hout ⊢
 clear hr
 generalize hR:dB C.ts (run C.ts n) kd h k=r0 at hout ⊢
 have H6:=zm h6
 clear h6
 have hbl:=p.lt
 have htf3:=bT
 have G0:=zo w (some C.b)
 have HR:=zm hR
 clear hR
 have HO:=zm hout
 clear hout
 go_enter Tryz.func117,Tryz.ntmps117
 go_wp2_with fail
 refine (yR C ok k h _ (zw wg) (zk H6)).mono ?_
 rintro e w1 ⟨rfl,p1,hg⟩
 have hz1:=hg.size
 (try simp at hz1)
 have G1:w.grownBy w1 (some C.b):=zl (yD wg) hg
 have bl0_1:BL w1 w.heap.size (yA):=BL.grown (yN om) hg om
 clear hg
 have nf1:¬w.heap.size=C.b:=om
 go_wp2_with fail
 refine (ih.at.primary h (k+1) _ wg (fun hx=>zk HO ((zk HR).symm.trans (by simp only [dB,ub,hx])))).mono ?_
 rintro e w2 hp
 rcases hp with ⟨kd2,tx2,nm2,ps2,kids2,s2,k2,ao2,cp2,hq,rfl,hrow,p2,hg⟩ | ⟨pb,rule,hq,rfl,hg⟩
 rotate_left
 (exact ⟨rfl,zs (by rw [←zk HR];simp only [dB,ub,hq]) (zl wg hg)⟩)
 have G2:w.grownBy w2 (some C.b):=zl wg hg
 have bl0_2:BL w2 w.heap.size (yA):=BL.grown wg hg om
 have hl0_2:=bl0_2.lt
 have zc0_2:=bl0_2.cell
 have fz0_2:=bl0_2.frozen
 clear bl0_1 p1
 obtain ⟨lo2,hlo2,row2⟩:=hrow.named
 (try simp at hlo2)
 have HQ2:=zm hq
 clear hrow hq hg
 by_cases c5:s2=5
 rotate_left
 ·skip
  have b5:(s2==5)=false:=by simp [c5]
  go_wp2_with fail
  refine (dA C ok k2 h _ ⟨#[99,97,108,108]⟩ (zw wg)).mono ?_
  rintro e w3 ⟨rfl,hgq⟩
  have hg:=zn (r:=some C.b) hgq
  clear hgq
  have G3:w.grownBy w3 (some C.b):=zl (yD wg) hg
  clear bl0_2 zc0_2 fz0_2 p2 hg
  go_wp2
  exact yp rfl (zs (by rw [←zk HR];simp only [dB,ub,zk HQ2,ef c5]) wg)
 have b5:(s2==5)=true:=by simp [c5]
 have C5:=zm c5
 clear c5
 go_wp2
 refine bodyPost_ret (v:=.agg #[.int .i64 kd,.string ⟨#[]⟩,.int .i64 0,.int .i64 (zp C.ts k).pos,.string ⟨#[]⟩,.int .i64 0,.slice (some ⟨w2.heap.size+1,0,none⟩) 1 1]) (by simp [results,Tryz.results117,go_sem, *]) rfl (yB (hi:=w2.heap.size+2) (s:=0) (k':=k2) (tx:=[]) (kids:=[.mk kd2 tx2 nm2 ps2 kids2]) (by rw [←zk HR];simp only [dB,ub,zk HQ2,et (zk C5)]) (rowB (cur:=#[.int .i64 kd2,.string ⟨tx2.toArray⟩,.int .i64 nm2,.int .i64 ps2,.string ⟨#[]⟩,.int .i64 0,.slice ao2 kids2.length cp2]) (yN sq) ((Nd.mk (kd:=kd2) (tx:=tx2) (nm:=nm2) (ps:=ps2) row2).ag (yQ (yQ (yr zu oz) sq) sq)) rfl om om om om (.inr om)) sq ?_ ?_)
 ·exact zw (zw (yv wg ok oz))
 ·exact yD (yD (yw wg oz))
theorem vJ (C:Ctx) (ok:C.Ok) (n:Nat) (ih:All C n):CNt C 116 .returnStmt #[.pointer (some ⟨C.b,0,none⟩)] (n+1):=by
 intro h k w p h6 hout
 have hr:run C.ts (n+1) .returnStmt h k=bC C.ts (run C.ts n) h k:=rfl
 rw [hr] at hout ⊢
 clear hr
 generalize hR:bC C.ts (run C.ts n) h k=r0 at hout ⊢
 have H6:=zm h6
 clear h6
 have hbl:=p.lt
 have htf3:=bT
 have G0:=zo w (some C.b)
 have HR:=zm hR
 clear hR
 have HO:=zm hout
 clear hout
 go_enter Tryz.func116,Tryz.ntmps116
 go_wp2_with fail
 refine (yR C ok k h _ (zw wg) (zk H6)).mono ?_
 rintro e w1 ⟨rfl,p1,hg⟩
 have G1:w.grownBy w1 (some C.b):=zl (yD wg) hg
 have bl0_1:BL w1 w.heap.size (yA):=BL.grown (yN om) hg om
 clear hg
 have nf1:¬w.heap.size=C.b:=om
 go_wp2_with fail
 refine qc w ok (k+1) h (dh _) wg wg fun w2 p2 hg _ G2=>?_
 have bl0_2:BL w2 w.heap.size (yA):=BL.grown wg hg om
 have hl0_2:=bl0_2.lt
 clear bl0_1 p1 hg
 have nf4:¬w2.heap.size=C.b:=om
 by_cases cb:behind C.ts (k+1)=true
 rotate_left
 ·skip
  go_wp2_with fail
  refine qc w ok (k+1) h (ku C ok (k+1) h _ (zw wg)) (zw wg) (yD wg) fun w3 p3 hg hz3 G3=>?_
  (try simp at hz3)
  have bl0_3:BL w3 w.heap.size (yA):=BL.grown (yS wg) hg om
  have hl0_3:=bl0_3.lt
  have bl1_3:BL w3 w2.heap.size (yE 8 ⟨#[]⟩ 0 0 none 0 0):=BL.grown (yN om) hg om
  clear bl0_2 p2 hg
  go_wp2_with fail
  refine (ih.at.expr h (k+1) _ wg (fun hx=>zk HO ((zk HR).symm.trans (by simp only [bC,ub,ef cb,hx])))).mono ?_
  rintro e w4 hp
  rcases hp with ⟨kd4,tx4,nm4,ps4,kids4,s4,k4,ao4,cp4,hq,rfl,hrow,p4,hg⟩ | ⟨pb,rule,hq,rfl,hg⟩
  rotate_left
  (exact ⟨rfl,zs (by rw [←zk HR];simp only [bC,ub,ef cb,hq]) (zl wg hg)⟩)
  have G4:w.grownBy w4 (some C.b):=zl wg hg
  have bl0_4:BL w4 w.heap.size (yA):=BL.grown wg hg om
  have hl0_4:=bl0_4.lt
  have zc0_4:=bl0_4.cell
  have fz0_4:=bl0_4.frozen
  have bl1_4:BL w4 w2.heap.size (yE 8 ⟨#[]⟩ 0 0 none 0 0):=BL.grown wg hg om
  have zc1_4:=bl1_4.cell
  have fz1_4:=bl1_4.frozen
  clear bl0_3 bl1_3 p3
  obtain ⟨lo4,hlo4,row4⟩:=hrow.named
  (try simp at hlo4)
  have HQ4:=zm hq
  clear hrow hq hg
  go_wp2
  refine bodyPost_ret (v:=.agg #[.int .i64 30,.string ⟨#[]⟩,.int .i64 0,.int .i64 (zp C.ts k).pos,.string ⟨#[]⟩,.int .i64 0,.slice (some ⟨w4.heap.size,0,none⟩) 1 1]) (by simp [results,Tryz.results116,go_sem, *]) rfl (yB (hi:=w4.heap.size+1) (s:=0) (k':=k4) (tx:=[]) (kids:=[.mk kd4 tx4 nm4 ps4 kids4]) (by rw [←zk HR];simp only [bC,ub,ef cb,zk HQ4]) (rowB (cur:=#[.int .i64 kd4,.string ⟨tx4.toArray⟩,.int .i64 nm4,.int .i64 ps4,.string ⟨#[]⟩,.int .i64 0,.slice ao4 kids4.length cp4]) (yN sq) ((Nd.mk (kd:=kd4) (tx:=tx4) (nm:=nm4) (ps:=ps4) row4).ag (yQ (yr (yr zu oz) oz) sq)) rfl om om om om (.inr om)) sq ?_ ?_)
  ·exact zw (yv (yv wg ok oz) ok oz)
  ·exact yD (yw (yw wg oz) oz)
 go_wp2_with fail
 refine qc w ok (k+1) h (ku C ok (k+1) h _ (zw wg)) (zw wg) (yD wg) fun w3 p3 hg _ G3=>?_
 have bl0_3:BL w3 w.heap.size (yA):=BL.grown (yS wg) hg om
 have hl0_3:=bl0_3.lt
 have zc0_3:=bl0_3.cell
 have fz0_3:=bl0_3.frozen
 have bl1_3:BL w3 w2.heap.size (yE 8 ⟨#[]⟩ 0 0 none 0 0):=BL.grown (yN om) hg om
 have zc1_3:=bl1_3.cell
 clear bl0_2 p2 hg
 go_wp2
 refine bodyPost_ret (v:=.agg #[.int .i64 30,.string ⟨#[]⟩,.int .i64 0,.int .i64 (zp C.ts k).pos,.string ⟨#[]⟩,.int .i64 0,.slice (some ⟨w3.heap.size,0,none⟩) 1 1]) (by simp [results,Tryz.results116,go_sem, *]) rfl (yB (hi:=w3.heap.size+1) (s:=0) (k':=k+1) (tx:=[]) (kids:=[.mk 8 [] 0 0 []]) (by rw [←zk HR];simp only [bC,ub,et cb]) (rowB (cur:=#[.int .i64 8,.string ⟨#[]⟩,.int .i64 0,.int .i64 0,.string ⟨#[]⟩,.int .i64 0,.slice none 0 0]) (yN sq) (Nd.mk (kd:=8) (tx:=[]) (nm:=0) (ps:=0) (zq.nil _ w.heap.size w.heap.size)) rfl om om om om (.inr om)) sq ?_ ?_)
 ·exact zw (yv wg ok oz)
 ·exact yD (yw wg oz)
theorem forStmt_w (C:Ctx) (ok:C.Ok) (n:Nat) (ih:All C n):CNt C 127 .forStmt #[.pointer (some ⟨C.b,0,none⟩)] (n+1):=by
 intro h k w p h6 hout
 have hr:run C.ts (n+1) .forStmt h k=dQ C.ts (run C.ts n) h k:=rfl
 rw [hr] at hout ⊢
 clear hr
 generalize hR:dQ C.ts (run C.ts n) h k=r0 at hout ⊢
 have H6:=zm h6
 clear h6
 have hbl:=p.lt
 have htb:=ok.lt
 have htf0:=dw
 have htf1:=dL
 have htf3:=bT
 have hmf:=ig
 have G0:=zo w (some C.b)
 have HR:=zm hR
 clear hR
 have HO:=zm hout
 clear hout
 go_enter Tryz.func127,Tryz.ntmps127
 go_wp2_with fail
 refine (yR C ok k h _ (zw wg) (zk H6)).mono ?_
 rintro e w1 ⟨rfl,p1,hg⟩
 have hz1:=hg.size
 (try simp at hz1)
 have G1:w.grownBy w1 (some C.b):=zl (yD wg) hg
 have bl0_1:BL w1 w.heap.size (yA):=BL.grown (yN om) hg om
 have hl0_1:=bl0_1.lt
 clear hg
 have ⟨⟨ne1,nf1⟩,⟨ne2,nf2⟩,⟨ne3,nf3⟩⟩:NN C.b w.heap.size∧NN C.b w1.heap.size∧NN w.heap.size w1.heap.size:=om
 go_wp2_with fail
 refine (ou C ok 138 #[.pointer (some ⟨C.b,0,none⟩)] #[] en103 (run C.ts n .forHead true (k+1)) true h (k+1) _ wg (fun w0 _ q0=>ih.at.forHead true (k+1) w0 q0 (fun hx=>zk HO ((zk HR).symm.trans (by simp only [dQ,ub,hx]))))).mono ?_
 rintro e w2 hp
 rcases hp with ⟨l2,s2,k2,ao2,cp2,hq,rfl,hrow,p2,hg⟩ | ⟨pb,rule,hq,rfl,hg⟩
 rotate_left
 (exact ⟨rfl,zs (by rw [←zk HR];simp only [dQ,ub,hq]) (zl wg hg)⟩)
 have hz2:=hg.size
 (try simp at hz2)
 have G2:w.grownBy w2 (some C.b):=zl wg hg
 have bl0_2:BL w2 w.heap.size (yA):=BL.grown wg hg om
 have hl0_2:=bl0_2.lt
 clear bl0_1 p1
 obtain ⟨lo2,hlo2,row2⟩:=hrow.named
 (try simp at hlo2)
 have HQ2:=zm hq
 clear hrow hq hg
 have ⟨⟨ne4,nf4⟩,⟨ne5,nf5⟩⟩:NN C.b w2.heap.size∧NN w.heap.size w2.heap.size:=om
 go_wp2_with fail
 refine (ih.at.block h k2 _ wg (fun hx=>zk HO ((zk HR).symm.trans (by simp only [dQ,ub,zk HQ2,hx])))).mono ?_
 rintro e w3 hp
 rcases hp with ⟨kd3,tx3,nm3,ps3,kids3,s3,k3,ao3,cp3,hq,rfl,hrow,p3,hg⟩ | ⟨pb,rule,hq,rfl,hg⟩
 rotate_left
 (exact ⟨rfl,zs (by rw [←zk HR];simp only [dQ,ub,zk HQ2,hq]) (zl wg hg)⟩)
 have hz3:=hg.size
 (try simp at hz3)
 have G3:w.grownBy w3 (some C.b):=zl wg hg
 replace row2:=zq.ag row2 (Ag.grown zu hg om om) lr lr
 have bl0_3:BL w3 w.heap.size (yA):=BL.grown wg hg om
 have hl0_3:=bl0_3.lt
 clear bl0_2 p2
 obtain ⟨lo3,hlo3,row3⟩:=hrow.named
 (try simp at hlo3)
 have HQ3:=zm hq
 clear hrow hq hg
 have ⟨⟨ne6,nf6⟩,⟨ne7,nf7⟩⟩:NN C.b w3.heap.size∧NN w.heap.size w3.heap.size:=om
 have hn2:l2.length≤1000000:=(by have h1:=yq C.ts n .forHead true (k+1) l2 s2 k2 (zk HQ2);have h2:=ok.few;have h3:=p3.kl;have h4:=yq C.ts n .block h k2 _ s3 k3 (zk HQ3);simp only [st,bnd] at h1 h4;omega)
 go_wp2_with (first | (at_builtin;(refine dG rfl (.tmp 13) (.tmp 16) rfl (lo:=lo2) (hi:=w2.heap.size) (ao:=ao2) (cp:=cp2) (l:=l2) (t:=.mk kd3 tx3 nm3 ps3 kids3) (A:=lo3) (B:=w3.heap.size) (g0:=w3.heap.size) (cur:=#[.int .i64 kd3,.string ⟨tx3.toArray⟩,.int .i64 nm3,.int .i64 ps3,.string ⟨#[]⟩,.int .i64 0,.slice ao3 kids3.length cp3]) zH (zq.ag row2 (yQ zu om) lr lr) zH (yN om) ((Nd.mk (kd:=kd3) (tx:=tx3) (nm:=nm3) (ps:=ps3) row3).ag (yQ zu sq)) rfl iO hn2 sq sq om sq om ?_;intro g4 cp4 w4 hrw4 hgA hat4 hgl4;have hob:=row2.own;have hz4:=hgA.size;(try simp at hz4);(try simp at hat4);have G4:w.grownBy w4 (some C.b):=yP (yD wg) hgA (fun x hx=>by have:=hob x hx;omega);have p4:=PS.own (C:=C) (k:=k3) (h:=h) (zw wg) ok hgA (fun x hx=>by have:=hob x hx;omega);have bl0_4:BL w4 w.heap.size (yA):=BL.own (yS wg) hgA (fun e=>by have:=hob _ e.symm;omega);have hl0_4:=bl0_4.lt;have zc0_4:=bl0_4.cell;have fz0_4:=bl0_4.frozen;clear bl0_3;clear p3 hgA hob;have ne8:¬C.b=w4.heap.size:=om;have nf8:¬w4.heap.size=C.b:=om;have ne9:¬w.heap.size=w4.heap.size:=om;have nf9:¬w4.heap.size=w.heap.size:=om)))
 have row4:=hrw4 w4 lr rfl (Ag.refl _ _ _) (Ag.refl _ _ _)
 clear hrw4
 refine bodyPost_ret (v:=.agg #[.int .i64 22,.string ⟨#[]⟩,.int .i64 0,.int .i64 (zp C.ts k).pos,.string ⟨#[]⟩,.int .i64 0,.slice (some ⟨g4,0,none⟩) (l2.length+1) cp4]) (by simp [results,Tryz.results127,go_sem, *]) rfl (yB (hi:=w4.heap.size) (s:=0) (k':=k3) (tx:=[]) (kids:=(l2++[.mk kd3 tx3 nm3 ps3 kids3])) (by rw [←zk HR];simp only [dQ,ub,zk HQ2,zk HQ3]) (row4.ag (yr zu oz) om lr) sq ?_ ?_)
 ·exact yv wg ok oz
 ·exact yw wg oz
end Go.Proofs.YtgbjpnnockoomaaGreatDoor
