import Derived.Test.YtgbjpnnockoomaaGreatDoorQg
set_option linter.unusedVariables false
set_option linter.unusedSimpArgs false
set_option maxHeartbeats 4000000
set_option maxRecDepth 100000
namespace Go.Proofs.YtgbjpnnockoomaaGreatDoor
open Go.RowKit Lx Px
theorem forHead_w (C:Ctx) (ok:C.Ok) (n:Nat) (ih:All C n):CL C 138 .forHead #[.pointer (some ⟨C.b,0,none⟩)] (n+1):=by
 intro h k w p hout
 have hr:run C.ts (n+1) .forHead h k=yY C.ts (run C.ts n) h k:=rfl
 rw [hr] at hout ⊢
 clear hr
 generalize hR:yY C.ts (run C.ts n) h k=r0 at hout ⊢
 have hbl:=p.lt
 have htb:=ok.lt
 have htf0:=dw
 have htf1:=dL
 have htf3:=bT
 have hmf:=ig
 have G0:=zo w (some C.b)
 have HR:=zm hR
 clear hR
 have HO:=zm hout
 clear hout
 go_enter Tryz.func138,Tryz.ntmps138
 by_cases c0:yb C.ts k [[123]]=true
 ·skip
  go_wp2_with fail
  refine qc w ok k h (isL C ok k h _ w.heap.size [[123]] dc wg rfl) wg wg fun w1 p1 hg hz1 G1=>?_
  (try simp at hz1)
  clear hg
  have ⟨ne1,nf1⟩:NN C.b w1.heap.size:=om
  go_wp2_with fail
  refine qc w ok k h (dh _) wg wg fun w2 p2 hg hz2 G2=>?_
  (try simp at hz2)
  clear p1 hg
  have ⟨ne2,nf2⟩:NN C.b w2.heap.size:=om
  go_wp2_with fail
  refine qc w ok k h (dh _) wg wg fun w3 p3 hg hz3 G3=>?_
  (try simp at hz3)
  clear p2 hg
  have ⟨ne3,nf3⟩:NN C.b w3.heap.size:=om
  go_wp2_with fail
  refine qc w ok k h (dh _) wg wg fun w4 p4 hg hz4 G4=>?_
  (try simp at hz4)
  clear p3 hg
  have ⟨ne4,nf4⟩:NN C.b w4.heap.size:=om
  go_wp2
  go_ret
  refine yg (hi:=w4.heap.size+1) (s:=0) (k':=k) (l:=[.mk 8 [] 0 0 [],.mk 8 [] 0 0 [],.mk 8 [] 0 0 []]) (by rw [←zk HR];simp only [yY,yn,ya,ub,et c0]) (jI (n:=3) (cur:=#[.int .i64 8,.string ⟨#[]⟩,.int .i64 0,.int .i64 0,.string ⟨#[]⟩,.int .i64 0,.slice none 0 0,.int .i64 8,.string ⟨#[]⟩,.int .i64 0,.int .i64 0,.string ⟨#[]⟩,.int .i64 0,.slice none 0 0,.int .i64 8,.string ⟨#[]⟩,.int .i64 0,.int .i64 0,.string ⟨#[]⟩,.int .i64 0,.slice none 0 0]) (yN om) rfl rfl dc om om (Kids.snoc (Kids.snoc (Kids.one (Nd.mk (kd:=8) (tx:=[]) (nm:=0) (ps:=0) (zq.nil _ w.heap.size w.heap.size)) om om (.inr om)) (Nd.mk (kd:=8) (tx:=[]) (nm:=0) (ps:=0) (zq.nil _ w.heap.size w.heap.size)) om om (.inr om)) (Nd.mk (kd:=8) (tx:=[]) (nm:=0) (ps:=0) (zq.nil _ w.heap.size w.heap.size)) om om (.inr om))) sq ?_ ?_
  ·exact zw wg
  ·exact yD wg
 go_wp2_with fail
 refine qc w ok k h (isL C ok k h _ w.heap.size [[123]] dc wg rfl) wg wg fun w1 p1 hg hz1 G1=>?_
 (try simp at hz1)
 clear hg
 have ⟨ne1,nf1⟩:NN C.b w1.heap.size:=om
 go_wp2_with fail
 refine qc w ok k h (dh _) wg wg fun w2 p2 hg hz2 G2=>?_
 (try simp at hz2)
 clear p1 hg
 have ⟨ne2,nf2⟩:NN C.b w2.heap.size:=om
 go_wp2_with fail
 refine qc w ok k h (dh _) wg wg fun w3 p3 hg hz3 G3=>?_
 (try simp at hz3)
 clear p2 hg
 have ⟨ne3,nf3⟩:NN C.b w3.heap.size:=om
 go_wp2_with fail
 refine qc w ok k h (dh _) wg wg fun w4 p4 hg hz4 G4=>?_
 (try simp at hz4)
 clear p3 hg
 have ⟨ne4,nf4⟩:NN C.b w4.heap.size:=om
 by_cases c1:yb C.ts k [[59]]=true
 ·skip
  go_wp2_with fail
  refine qc w ok k h (isL C ok k h _ (w4.heap.size+3) [[59]] dc (zw (zw (zw wg))) zK) (zw (zw (zw wg))) (yD (yD (yD wg))) fun w5 p5 hg hz5 G5=>?_
  (try simp at hz5)
  have bl0_5:BL w5 (w4.heap.size) (yE 8 ⟨#[]⟩ 0 0 none 0 0):=BL.grown (yS (yS (yN om))) hg om
  have hl0_5:=bl0_5.lt
  have bl1_5:BL w5 (w4.heap.size+1) (yE 8 ⟨#[]⟩ 0 0 none 0 0):=BL.grown (yS (yN sq)) hg om
  have hl1_5:=bl1_5.lt
  have bl2_5:BL w5 (w4.heap.size+2) (yE 8 ⟨#[]⟩ 0 0 none 0 0):=BL.grown (yN sq) hg om
  have hl2_5:=bl2_5.lt
  clear p4 hg
  have ⟨⟨ne5,nf5⟩,⟨ne6,nf6⟩,⟨ne7,nf7⟩,⟨ne8,nf8⟩,⟨ne9,nf9⟩,⟨ne10,nf10⟩,⟨ne11,nf11⟩,⟨ne12,nf12⟩,⟨ne13,nf13⟩⟩:NN C.b (w4.heap.size+1)∧NN C.b (w4.heap.size+2)∧NN C.b w5.heap.size∧NN w4.heap.size (w4.heap.size+1)∧NN w4.heap.size (w4.heap.size+2)∧NN w4.heap.size w5.heap.size∧NN (w4.heap.size+1) (w4.heap.size+2)∧NN (w4.heap.size+1) w5.heap.size∧NN (w4.heap.size+2) w5.heap.size:=om
  go_wp2_with fail
  refine (yJ C ok k h _ ⟨#[102,111,114]⟩ [59] wg c1).mono ?_
  rintro e w6 ⟨rfl,p6,hg⟩
  have hz6:=hg.size
  (try simp at hz6)
  have G6:w.grownBy w6 (some C.b):=zl wg hg
  have bl0_6:BL w6 (w4.heap.size) (yE 8 ⟨#[]⟩ 0 0 none 0 0):=BL.grown wg hg om
  have hl0_6:=bl0_6.lt
  have bl1_6:BL w6 (w4.heap.size+1) (yE 8 ⟨#[]⟩ 0 0 none 0 0):=BL.grown wg hg om
  have hl1_6:=bl1_6.lt
  have bl2_6:BL w6 (w4.heap.size+2) (yE 8 ⟨#[]⟩ 0 0 none 0 0):=BL.grown wg hg om
  have hl2_6:=bl2_6.lt
  clear bl0_5 bl1_5 bl2_5 p5 hg
  have ⟨⟨ne14,nf14⟩,⟨ne15,nf15⟩,⟨ne16,nf16⟩,⟨ne17,nf17⟩⟩:NN C.b w6.heap.size∧NN w4.heap.size w6.heap.size∧NN (w4.heap.size+1) w6.heap.size∧NN (w4.heap.size+2) w6.heap.size:=om
  by_cases cv:yb C.ts (k+1) [[59]]=true
  ·skip
   go_wp2_with fail
   refine qc w ok (k+1) h (isL C ok (k+1) h _ w6.heap.size [[59]] dc wg zK) wg wg fun w7 p7 hg hz7 G7=>?_
   (try simp at hz7)
   have bl0_7:BL w7 (w4.heap.size) (yE 8 ⟨#[]⟩ 0 0 none 0 0):=BL.grown wg hg om
   have hl0_7:=bl0_7.lt
   have bl1_7:BL w7 (w4.heap.size+1) (yE 8 ⟨#[]⟩ 0 0 none 0 0):=BL.grown wg hg om
   have hl1_7:=bl1_7.lt
   have bl2_7:BL w7 (w4.heap.size+2) (yE 8 ⟨#[]⟩ 0 0 none 0 0):=BL.grown wg hg om
   have hl2_7:=bl2_7.lt
   clear bl0_6 bl1_6 bl2_6 p6 hg
   have ⟨⟨ne18,nf18⟩,⟨ne19,nf19⟩,⟨ne20,nf20⟩,⟨ne21,nf21⟩⟩:NN C.b w7.heap.size∧NN w4.heap.size w7.heap.size∧NN (w4.heap.size+1) w7.heap.size∧NN (w4.heap.size+2) w7.heap.size:=om
   go_wp2_with fail
   refine (yJ C ok (k+1) h _ ⟨#[102,111,114]⟩ [59] wg cv).mono ?_
   rintro e w8 ⟨rfl,p8,hg⟩
   have hz8:=hg.size
   (try simp at hz8)
   have G8:w.grownBy w8 (some C.b):=zl wg hg
   have bl0_8:BL w8 (w4.heap.size) (yE 8 ⟨#[]⟩ 0 0 none 0 0):=BL.grown wg hg om
   have hl0_8:=bl0_8.lt
   have bl1_8:BL w8 (w4.heap.size+1) (yE 8 ⟨#[]⟩ 0 0 none 0 0):=BL.grown wg hg om
   have hl1_8:=bl1_8.lt
   have bl2_8:BL w8 (w4.heap.size+2) (yE 8 ⟨#[]⟩ 0 0 none 0 0):=BL.grown wg hg om
   have hl2_8:=bl2_8.lt
   clear bl0_7 bl1_7 bl2_7 p7 hg
   have ⟨⟨ne22,nf22⟩,⟨ne23,nf23⟩,⟨ne24,nf24⟩,⟨ne25,nf25⟩⟩:NN C.b w8.heap.size∧NN w4.heap.size w8.heap.size∧NN (w4.heap.size+1) w8.heap.size∧NN (w4.heap.size+2) w8.heap.size:=om
   by_cases cx:yb C.ts ((k+1)+1) [[123]]=true
   ·skip
    go_wp2_with fail
    refine (isL C ok ((k+1)+1) h _ w8.heap.size [[123]] dc wg zK).mono ?_
    rintro e w9 ⟨rfl,hgq⟩
    have p9:=PS.quiet (C:=C) (k:=((k+1)+1)) (h:=h) wg hgq
    have hg:=zn (r:=some C.b) hgq
    clear hgq
    have hz9:=hg.size
    (try simp at hz9)
    have G9:w.grownBy w9 (some C.b):=zl wg hg
    have bl0_9:BL w9 (w4.heap.size) (yE 8 ⟨#[]⟩ 0 0 none 0 0):=BL.grown wg hg om
    have hl0_9:=bl0_9.lt
    have zc0_9:=bl0_9.cell
    have bl1_9:BL w9 (w4.heap.size+1) (yE 8 ⟨#[]⟩ 0 0 none 0 0):=BL.grown wg hg om
    have hl1_9:=bl1_9.lt
    have zc1_9:=bl1_9.cell
    have bl2_9:BL w9 (w4.heap.size+2) (yE 8 ⟨#[]⟩ 0 0 none 0 0):=BL.grown wg hg om
    have hl2_9:=bl2_9.lt
    have zc2_9:=bl2_9.cell
    clear bl0_8 bl1_8 bl2_8 p8 hg
    have ⟨⟨ne26,nf26⟩,⟨ne27,nf27⟩,⟨ne28,nf28⟩,⟨ne29,nf29⟩⟩:NN C.b w9.heap.size∧NN w4.heap.size w9.heap.size∧NN (w4.heap.size+1) w9.heap.size∧NN (w4.heap.size+2) w9.heap.size:=om
    go_wp2
    go_ret
    refine yg (hi:=w9.heap.size+1) (s:=0) (k':=((k+1)+1)) (l:=[.mk 8 [] 0 0 [],.mk 8 [] 0 0 [],.mk 8 [] 0 0 []]) (by rw [←zk HR];simp only [yY,yn,ya,ub,ef c0,et c1,et cv,et cx]) (jI (n:=3) (cur:=#[.int .i64 8,.string ⟨#[]⟩,.int .i64 0,.int .i64 0,.string ⟨#[]⟩,.int .i64 0,.slice none 0 0,.int .i64 8,.string ⟨#[]⟩,.int .i64 0,.int .i64 0,.string ⟨#[]⟩,.int .i64 0,.slice none 0 0,.int .i64 8,.string ⟨#[]⟩,.int .i64 0,.int .i64 0,.string ⟨#[]⟩,.int .i64 0,.slice none 0 0]) (yN om) rfl rfl dc om om (Kids.snoc (Kids.snoc (Kids.one (Nd.mk (kd:=8) (tx:=[]) (nm:=0) (ps:=0) (zq.nil _ w.heap.size w.heap.size)) om om (.inr om)) (Nd.mk (kd:=8) (tx:=[]) (nm:=0) (ps:=0) (zq.nil _ w.heap.size w.heap.size)) om om (.inr om)) (Nd.mk (kd:=8) (tx:=[]) (nm:=0) (ps:=0) (zq.nil _ w.heap.size w.heap.size)) om om (.inr om))) sq ?_ ?_
    ·exact zw wg
    ·exact yD wg
   go_wp2_with fail
   refine (isL C ok ((k+1)+1) h _ w8.heap.size [[123]] dc wg zK).mono ?_
   rintro e w9 ⟨rfl,hgq⟩
   have p9:=PS.quiet (C:=C) (k:=((k+1)+1)) (h:=h) wg hgq
   have hg:=zn (r:=some C.b) hgq
   clear hgq
   have hz9:=hg.size
   (try simp at hz9)
   have G9:w.grownBy w9 (some C.b):=zl wg hg
   have bl0_9:BL w9 (w4.heap.size) (yE 8 ⟨#[]⟩ 0 0 none 0 0):=BL.grown wg hg om
   have hl0_9:=bl0_9.lt
   have bl1_9:BL w9 (w4.heap.size+1) (yE 8 ⟨#[]⟩ 0 0 none 0 0):=BL.grown wg hg om
   have hl1_9:=bl1_9.lt
   have bl2_9:BL w9 (w4.heap.size+2) (yE 8 ⟨#[]⟩ 0 0 none 0 0):=BL.grown wg hg om
   have hl2_9:=bl2_9.lt
   clear bl0_8 bl1_8 bl2_8 p8 hg
   have ⟨⟨ne26,nf26⟩,⟨ne27,nf27⟩,⟨ne28,nf28⟩,⟨ne29,nf29⟩⟩:NN C.b w9.heap.size∧NN w4.heap.size w9.heap.size∧NN (w4.heap.size+1) w9.heap.size∧NN (w4.heap.size+2) w9.heap.size:=om
   go_wp2_with fail
   refine (ih.at.simple h ((k+1)+1) _ wg (fun hx=>zk HO ((zk HR).symm.trans (by simp only [yY,yn,ya,ub,ef c0,et c1,et cv,ef cx,hx])))).mono ?_
   rintro e w10 hp
   rcases hp with ⟨kd10,tx10,nm10,ps10,kids10,s10,k10,ao10,cp10,hq,rfl,hrow,p10,hg⟩ | ⟨pb,rule,hq,rfl,hg⟩
   rotate_left
   (exact ⟨rfl,yK (by rw [←zk HR];simp only [yY,yn,ya,ub,ef c0,et c1,et cv,ef cx,hq]) (zl wg hg)⟩)
   have hz10:=hg.size
   (try simp at hz10)
   have G10:w.grownBy w10 (some C.b):=zl wg hg
   have bl0_10:BL w10 (w4.heap.size) (yE 8 ⟨#[]⟩ 0 0 none 0 0):=BL.grown wg hg om
   have hl0_10:=bl0_10.lt
   have zc0_10:=bl0_10.cell
   have bl1_10:BL w10 (w4.heap.size+1) (yE 8 ⟨#[]⟩ 0 0 none 0 0):=BL.grown wg hg om
   have hl1_10:=bl1_10.lt
   have zc1_10:=bl1_10.cell
   have bl2_10:BL w10 (w4.heap.size+2) (yE 8 ⟨#[]⟩ 0 0 none 0 0):=BL.grown wg hg om
   have hl2_10:=bl2_10.lt
   have zc2_10:=bl2_10.cell
   have fz2_10:=bl2_10.frozen
   clear bl0_9 bl1_9 bl2_9 p9
   obtain ⟨lo10,hlo10,row10⟩:=hrow.named
   (try simp at hlo10)
   have HQ10:=zm hq
   clear hrow hq hg
   have ⟨⟨ne30,nf30⟩,⟨ne31,nf31⟩,⟨ne32,nf32⟩,⟨ne33,nf33⟩⟩:NN C.b w10.heap.size∧NN w4.heap.size w10.heap.size∧NN (w4.heap.size+1) w10.heap.size∧NN (w4.heap.size+2) w10.heap.size:=om
   go_wp2
   go_ret
   refine yg (hi:=w10.heap.size+1) (s:=0) (k':=k10) (l:=[.mk 8 [] 0 0 [],.mk 8 [] 0 0 [],.mk kd10 tx10 nm10 ps10 kids10]) (by rw [←zk HR];simp only [yY,yn,ya,ub,ef c0,et c1,et cv,ef cx,zk HQ10]) (jI (n:=3) (cur:=#[.int .i64 8,.string ⟨#[]⟩,.int .i64 0,.int .i64 0,.string ⟨#[]⟩,.int .i64 0,.slice none 0 0,.int .i64 8,.string ⟨#[]⟩,.int .i64 0,.int .i64 0,.string ⟨#[]⟩,.int .i64 0,.slice none 0 0,.int .i64 kd10,.string ⟨tx10.toArray⟩,.int .i64 nm10,.int .i64 ps10,.string ⟨#[]⟩,.int .i64 0,.slice ao10 kids10.length cp10]) (yN sq) rfl rfl dc om om (Kids.snoc (Kids.snoc (Kids.one (Nd.mk (kd:=8) (tx:=[]) (nm:=0) (ps:=0) (zq.nil _ w.heap.size w.heap.size)) om om (.inr om)) (Nd.mk (kd:=8) (tx:=[]) (nm:=0) (ps:=0) (zq.nil _ w.heap.size w.heap.size)) om om (.inr om)) ((Nd.mk (kd:=kd10) (tx:=tx10) (nm:=nm10) (ps:=ps10) row10).ag (yQ (yr zu oz) sq)) om om (.inr om))) sq ?_ ?_
   ·exact zw (yv wg ok oz)
   ·exact yD (yw wg oz)
  go_wp2_with fail
  refine qc w ok (k+1) h (isL C ok (k+1) h _ w6.heap.size [[59]] dc wg zK) wg wg fun w7 p7 hg hz7 G7=>?_
  (try simp at hz7)
  have bl0_7:BL w7 (w4.heap.size) (yE 8 ⟨#[]⟩ 0 0 none 0 0):=BL.grown wg hg om
  have hl0_7:=bl0_7.lt
  have bl1_7:BL w7 (w4.heap.size+1) (yE 8 ⟨#[]⟩ 0 0 none 0 0):=BL.grown wg hg om
  have hl1_7:=bl1_7.lt
  have bl2_7:BL w7 (w4.heap.size+2) (yE 8 ⟨#[]⟩ 0 0 none 0 0):=BL.grown wg hg om
  have hl2_7:=bl2_7.lt
  clear bl0_6 bl1_6 bl2_6 p6 hg
  have ⟨⟨ne18,nf18⟩,⟨ne19,nf19⟩,⟨ne20,nf20⟩,⟨ne21,nf21⟩⟩:NN C.b w7.heap.size∧NN w4.heap.size w7.heap.size∧NN (w4.heap.size+1) w7.heap.size∧NN (w4.heap.size+2) w7.heap.size:=om
  go_wp2_with fail
  refine (ih.at.expr h (k+1) _ wg (fun hx=>zk HO ((zk HR).symm.trans (by simp only [yY,yn,ya,ub,ef c0,et c1,ef cv,hx])))).mono ?_
  rintro e w8 hp
  rcases hp with ⟨kd8,tx8,nm8,ps8,kids8,s8,k8,ao8,cp8,hq,rfl,hrow,p8,hg⟩ | ⟨pb,rule,hq,rfl,hg⟩
  rotate_left
  (exact ⟨rfl,yK (by rw [←zk HR];simp only [yY,yn,ya,ub,ef c0,et c1,ef cv,hq]) (zl wg hg)⟩)
  have hz8:=hg.size
  (try simp at hz8)
  have G8:w.grownBy w8 (some C.b):=zl wg hg
  have bl0_8:BL w8 (w4.heap.size) (yE 8 ⟨#[]⟩ 0 0 none 0 0):=BL.grown wg hg om
  have hl0_8:=bl0_8.lt
  have bl1_8:BL w8 (w4.heap.size+1) (yE 8 ⟨#[]⟩ 0 0 none 0 0):=BL.grown wg hg om
  have hl1_8:=bl1_8.lt
  have zc1_8:=bl1_8.cell
  have fz1_8:=bl1_8.frozen
  have bl2_8:BL w8 (w4.heap.size+2) (yE 8 ⟨#[]⟩ 0 0 none 0 0):=BL.grown wg hg om
  have hl2_8:=bl2_8.lt
  clear bl0_7 bl1_7 bl2_7 p7
  obtain ⟨lo8,hlo8,row8⟩:=hrow.named
  (try simp at hlo8)
  have HQ8:=zm hq
  clear hrow hq hg
  have ⟨⟨ne22,nf22⟩,⟨ne23,nf23⟩,⟨ne24,nf24⟩,⟨ne25,nf25⟩⟩:NN C.b w8.heap.size∧NN w4.heap.size w8.heap.size∧NN (w4.heap.size+1) w8.heap.size∧NN (w4.heap.size+2) w8.heap.size:=om
  by_cases cy:yb C.ts k8 [[59]]=true
  rotate_left
  ·skip
   go_wp2_with fail
   refine (yX C ok k8 h _ ⟨#[102,111,114]⟩ [59] (yv wg ok oz) (Bool.eq_false_iff.2 cy)).mono ?_
   rintro e w9 ⟨rfl,hgq⟩
   exact ⟨rfl,yK (by rw [←zk HR];simp only [yY,yn,ya,ub,ef c0,et c1,ef cv,zk HQ8,ef cy]) (zl (yw wg oz) (zn hgq))⟩
  go_wp2_with fail
  refine (yJ C ok k8 h _ ⟨#[102,111,114]⟩ [59] (yv wg ok oz) cy).mono ?_
  rintro e w9 ⟨rfl,p9,hg⟩
  have hz9:=hg.size
  (try simp at hz9)
  have G9:w.grownBy w9 (some C.b):=zl (yw wg oz) hg
  replace row8:=zq.ag row8 (Ag.grown (yr zu oz) hg sq om) lr lr
  have bl0_9:BL w9 (w4.heap.size) (yE 8 ⟨#[]⟩ 0 0 none 0 0):=BL.grown (bw7 wg oz) hg om
  have hl0_9:=bl0_9.lt
  have bl1_9:BL w9 (w4.heap.size+1) (yE kd8 ⟨tx8.toArray⟩ nm8 ps8 ao8 kids8.length cp8):=BL.grown zT hg om
  have hl1_9:=bl1_9.lt
  have bl2_9:BL w9 (w4.heap.size+2) (yE 8 ⟨#[]⟩ 0 0 none 0 0):=BL.grown (bw7 wg oz) hg om
  have hl2_9:=bl2_9.lt
  clear bl0_8 bl1_8 zc1_8 fz1_8 bl2_8 p8 hg
  have ⟨⟨ne26,nf26⟩,⟨ne27,nf27⟩,⟨ne28,nf28⟩,⟨ne29,nf29⟩⟩:NN C.b w9.heap.size∧NN w4.heap.size w9.heap.size∧NN (w4.heap.size+1) w9.heap.size∧NN (w4.heap.size+2) w9.heap.size:=om
  by_cases cx:yb C.ts (k8+1) [[123]]=true
  ·skip
   go_wp2_with fail
   refine qc w ok (k8+1) h (isL C ok (k8+1) h _ w9.heap.size [[123]] dc wg zK) wg wg fun w10 p10 hg hz10 G10=>?_
   (try simp at hz10)
   replace row8:=zq.ag row8 (Ag.grown zu hg om om) lr lr
   have bl0_10:BL w10 (w4.heap.size) (yE 8 ⟨#[]⟩ 0 0 none 0 0):=BL.grown wg hg om
   have hl0_10:=bl0_10.lt
   have zc0_10:=bl0_10.cell
   have bl1_10:BL w10 (w4.heap.size+1) (yE kd8 ⟨tx8.toArray⟩ nm8 ps8 ao8 kids8.length cp8):=BL.grown wg hg om
   have hl1_10:=bl1_10.lt
   have zc1_10:=bl1_10.cell
   have bl2_10:BL w10 (w4.heap.size+2) (yE 8 ⟨#[]⟩ 0 0 none 0 0):=BL.grown wg hg om
   have hl2_10:=bl2_10.lt
   have zc2_10:=bl2_10.cell
   clear bl0_9 bl1_9 bl2_9 p9 hg
   have ⟨⟨ne30,nf30⟩,⟨ne31,nf31⟩,⟨ne32,nf32⟩,⟨ne33,nf33⟩⟩:NN C.b w10.heap.size∧NN w4.heap.size w10.heap.size∧NN (w4.heap.size+1) w10.heap.size∧NN (w4.heap.size+2) w10.heap.size:=om
   go_wp2
   go_ret
   refine yg (hi:=w10.heap.size+1) (s:=0) (k':=(k8+1)) (l:=[.mk 8 [] 0 0 [],.mk kd8 tx8 nm8 ps8 kids8,.mk 8 [] 0 0 []]) (by rw [←zk HR];simp only [yY,yn,ya,ub,ef c0,et c1,ef cv,zk HQ8,et cy,et cx]) (jI (n:=3) (cur:=#[.int .i64 8,.string ⟨#[]⟩,.int .i64 0,.int .i64 0,.string ⟨#[]⟩,.int .i64 0,.slice none 0 0,.int .i64 kd8,.string ⟨tx8.toArray⟩,.int .i64 nm8,.int .i64 ps8,.string ⟨#[]⟩,.int .i64 0,.slice ao8 kids8.length cp8,.int .i64 8,.string ⟨#[]⟩,.int .i64 0,.int .i64 0,.string ⟨#[]⟩,.int .i64 0,.slice none 0 0]) (yN om) rfl rfl dc om om (Kids.snoc (Kids.snoc (Kids.one (Nd.mk (kd:=8) (tx:=[]) (nm:=0) (ps:=0) (zq.nil _ w.heap.size w.heap.size)) om om (.inr om)) ((Nd.mk (kd:=kd8) (tx:=tx8) (nm:=nm8) (ps:=ps8) row8).ag (yQ zu om)) om om (.inr om)) (Nd.mk (kd:=8) (tx:=[]) (nm:=0) (ps:=0) (zq.nil _ w.heap.size w.heap.size)) om om (.inr om))) sq ?_ ?_
   ·exact zw wg
   ·exact yD wg
  go_wp2_with fail
  refine qc w ok (k8+1) h (isL C ok (k8+1) h _ w9.heap.size [[123]] dc wg zK) wg wg fun w10 p10 hg hz10 G10=>?_
  (try simp at hz10)
  replace row8:=zq.ag row8 (Ag.grown zu hg om om) lr lr
  have bl0_10:BL w10 (w4.heap.size) (yE 8 ⟨#[]⟩ 0 0 none 0 0):=BL.grown wg hg om
  have hl0_10:=bl0_10.lt
  have bl1_10:BL w10 (w4.heap.size+1) (yE kd8 ⟨tx8.toArray⟩ nm8 ps8 ao8 kids8.length cp8):=BL.grown wg hg om
  have hl1_10:=bl1_10.lt
  have bl2_10:BL w10 (w4.heap.size+2) (yE 8 ⟨#[]⟩ 0 0 none 0 0):=BL.grown wg hg om
  have hl2_10:=bl2_10.lt
  clear bl0_9 bl1_9 bl2_9 p9 hg
  have ⟨⟨ne30,nf30⟩,⟨ne31,nf31⟩,⟨ne32,nf32⟩,⟨ne33,nf33⟩⟩:NN C.b w10.heap.size∧NN w4.heap.size w10.heap.size∧NN (w4.heap.size+1) w10.heap.size∧NN (w4.heap.size+2) w10.heap.size:=om
  go_wp2_with fail
  refine (ih.at.simple h (k8+1) _ wg (fun hx=>zk HO ((zk HR).symm.trans (by simp only [yY,yn,ya,ub,ef c0,et c1,ef cv,zk HQ8,et cy,ef cx,hx])))).mono ?_
  rintro e w11 hp
  rcases hp with ⟨kd11,tx11,nm11,ps11,kids11,s11,k11,ao11,cp11,hq,rfl,hrow,p11,hg⟩ | ⟨pb,rule,hq,rfl,hg⟩
  rotate_left
  (exact ⟨rfl,yK (by rw [←zk HR];simp only [yY,yn,ya,ub,ef c0,et c1,ef cv,zk HQ8,et cy,ef cx,hq]) (zl wg hg)⟩)
  have hz11:=hg.size
  (try simp at hz11)
  have G11:w.grownBy w11 (some C.b):=zl wg hg
  replace row8:=zq.ag row8 (Ag.grown zu hg om om) lr lr
  have bl0_11:BL w11 (w4.heap.size) (yE 8 ⟨#[]⟩ 0 0 none 0 0):=BL.grown wg hg om
  have hl0_11:=bl0_11.lt
  have zc0_11:=bl0_11.cell
  have bl1_11:BL w11 (w4.heap.size+1) (yE kd8 ⟨tx8.toArray⟩ nm8 ps8 ao8 kids8.length cp8):=BL.grown wg hg om
  have hl1_11:=bl1_11.lt
  have zc1_11:=bl1_11.cell
  have bl2_11:BL w11 (w4.heap.size+2) (yE 8 ⟨#[]⟩ 0 0 none 0 0):=BL.grown wg hg om
  have hl2_11:=bl2_11.lt
  have zc2_11:=bl2_11.cell
  have fz2_11:=bl2_11.frozen
  clear bl0_10 bl1_10 bl2_10 p10
  obtain ⟨lo11,hlo11,row11⟩:=hrow.named
  (try simp at hlo11)
  have HQ11:=zm hq
  clear hrow hq hg
  have ⟨⟨ne34,nf34⟩,⟨ne35,nf35⟩,⟨ne36,nf36⟩,⟨ne37,nf37⟩⟩:NN C.b w11.heap.size∧NN w4.heap.size w11.heap.size∧NN (w4.heap.size+1) w11.heap.size∧NN (w4.heap.size+2) w11.heap.size:=om
  go_wp2
  go_ret
  refine yg (hi:=w11.heap.size+1) (s:=0) (k':=k11) (l:=[.mk 8 [] 0 0 [],.mk kd8 tx8 nm8 ps8 kids8,.mk kd11 tx11 nm11 ps11 kids11]) (by rw [←zk HR];simp only [yY,yn,ya,ub,ef c0,et c1,ef cv,zk HQ8,et cy,ef cx,zk HQ11]) (jI (n:=3) (cur:=#[.int .i64 8,.string ⟨#[]⟩,.int .i64 0,.int .i64 0,.string ⟨#[]⟩,.int .i64 0,.slice none 0 0,.int .i64 kd8,.string ⟨tx8.toArray⟩,.int .i64 nm8,.int .i64 ps8,.string ⟨#[]⟩,.int .i64 0,.slice ao8 kids8.length cp8,.int .i64 kd11,.string ⟨tx11.toArray⟩,.int .i64 nm11,.int .i64 ps11,.string ⟨#[]⟩,.int .i64 0,.slice ao11 kids11.length cp11]) (yN sq) rfl rfl dc om om (Kids.snoc (Kids.snoc (Kids.one (Nd.mk (kd:=8) (tx:=[]) (nm:=0) (ps:=0) (zq.nil _ w.heap.size w.heap.size)) om om (.inr om)) ((Nd.mk (kd:=kd8) (tx:=tx8) (nm:=nm8) (ps:=ps8) row8).ag (yQ (yr zu oz) sq)) om om (.inr om)) ((Nd.mk (kd:=kd11) (tx:=tx11) (nm:=nm11) (ps:=ps11) row11).ag (yQ (yr zu oz) sq)) om om (.inr om))) sq ?_ ?_
  ·exact zw (yv wg ok oz)
  ·exact yD (yw wg oz)
 go_wp2_with fail
 refine qc w ok k h (isL C ok k h _ (w4.heap.size+3) [[59]] dc (zw (zw (zw wg))) zK) (zw (zw (zw wg))) (yD (yD (yD wg))) fun w5 p5 hg hz5 G5=>?_
 (try simp at hz5)
 have bl0_5:BL w5 (w4.heap.size) (yE 8 ⟨#[]⟩ 0 0 none 0 0):=BL.grown (yS (yS (yN om))) hg om
 have hl0_5:=bl0_5.lt
 have bl1_5:BL w5 (w4.heap.size+1) (yE 8 ⟨#[]⟩ 0 0 none 0 0):=BL.grown (yS (yN sq)) hg om
 have hl1_5:=bl1_5.lt
 have bl2_5:BL w5 (w4.heap.size+2) (yE 8 ⟨#[]⟩ 0 0 none 0 0):=BL.grown (yN sq) hg om
 have hl2_5:=bl2_5.lt
 clear p4 hg
 have ⟨⟨ne5,nf5⟩,⟨ne6,nf6⟩,⟨ne7,nf7⟩,⟨ne8,nf8⟩,⟨ne9,nf9⟩,⟨ne10,nf10⟩,⟨ne11,nf11⟩,⟨ne12,nf12⟩,⟨ne13,nf13⟩⟩:NN C.b (w4.heap.size+1)∧NN C.b (w4.heap.size+2)∧NN C.b w5.heap.size∧NN w4.heap.size (w4.heap.size+1)∧NN w4.heap.size (w4.heap.size+2)∧NN w4.heap.size w5.heap.size∧NN (w4.heap.size+1) (w4.heap.size+2)∧NN (w4.heap.size+1) w5.heap.size∧NN (w4.heap.size+2) w5.heap.size:=om
 go_wp2_with fail
 refine (ih.at.forLead h k _ wg (fun hx=>zk HO ((zk HR).symm.trans (by simp only [yY,yn,ya,ub,ef c0,ef c1,hx])))).mono ?_
 rintro e w6 hp
 rcases hp with ⟨kd6,tx6,nm6,ps6,kids6,s6,k6,ao6,cp6,hq,rfl,hrow,p6,hg⟩ | ⟨pb,rule,hq,rfl,hg⟩
 rotate_left
 (exact ⟨rfl,yK (by rw [←zk HR];simp only [yY,yn,ya,ub,ef c0,ef c1,hq]) (zl wg hg)⟩)
 have hz6:=hg.size
 (try simp at hz6)
 have G6:w.grownBy w6 (some C.b):=zl wg hg
 have bl0_6:BL w6 (w4.heap.size) (yE 8 ⟨#[]⟩ 0 0 none 0 0):=BL.grown wg hg om
 have hl0_6:=bl0_6.lt
 have zc0_6:=bl0_6.cell
 have fz0_6:=bl0_6.frozen
 have bl1_6:BL w6 (w4.heap.size+1) (yE 8 ⟨#[]⟩ 0 0 none 0 0):=BL.grown wg hg om
 have hl1_6:=bl1_6.lt
 have bl2_6:BL w6 (w4.heap.size+2) (yE 8 ⟨#[]⟩ 0 0 none 0 0):=BL.grown wg hg om
 have hl2_6:=bl2_6.lt
 clear bl0_5 bl1_5 bl2_5 p5
 obtain ⟨lo6,hlo6,row6⟩:=hrow.named
 (try simp at hlo6)
 have HQ6:=zm hq
 clear hrow hq hg
 have ⟨⟨ne14,nf14⟩,⟨ne15,nf15⟩,⟨ne16,nf16⟩,⟨ne17,nf17⟩⟩:NN C.b w6.heap.size∧NN w4.heap.size w6.heap.size∧NN (w4.heap.size+1) w6.heap.size∧NN (w4.heap.size+2) w6.heap.size:=om
 by_cases c6:s6=1
 rotate_left
 ·skip
  have b6:decide (s6=1)=false:=by simp [c6]
  go_wp2
  go_region_held2 (fun w'=>w'.cell? ⟨w6.heap.size,0,none⟩=some (.int .i64 kd6)∧w'.cell? ⟨w6.heap.size,1,none⟩=some (.string ⟨tx6.toArray⟩)∧w'.cell? ⟨w6.heap.size,2,none⟩=some (.int .i64 nm6)∧w'.cell? ⟨w6.heap.size,3,none⟩=some (.int .i64 ps6)∧w'.cell? ⟨w6.heap.size,4,none⟩=some (.string ⟨#[]⟩)∧w'.cell? ⟨w6.heap.size,5,none⟩=some (.int .i64 0)∧w'.cell? ⟨w6.heap.size,6,none⟩=some (.slice ao6 kids6.length cp6)) (go_keep) (first | (go_at_call 88;(refine (dh _).mono ?_;rintro e w7 ⟨rfl,hgq⟩;have p7:=PS.quiet (C:=C) (k:=k6) (h:=h) (by first | with_reducible exact pw1 (zw wg) | with_reducible assumption) hgq;have hg:=zn (r:=some C.b) hgq;have hz7:=hg.size;(try simp at hz7);have G7:w.grownBy w7 (some C.b):=zl (by first | with_reducible exact gw1 (yD wg) | with_reducible assumption) hg;replace row6:=zq.ag row6 (Ag.grown (by first | with_reducible exact aw1 (yQ zu sq) | with_reducible exact zu) hg oz om) lr lr;have blp:BL w7 w6.heap.size (.cells #[.int .i64 kd6,.string ⟨tx6.toArray⟩,.int .i64 nm6,.int .i64 ps6,.string ⟨#[]⟩,.int .i64 0,.slice ao6 kids6.length cp6] 25):=BL.grown (by first | with_reducible exact bw1 (yN om) | with_reducible assumption) hg om;have zcp:=blp.cell;have hlp:=blp.lt;clear hg hgq)))
  go_wp2
  go_ret
  refine yg (hi:=w7.heap.size+1) (s:=0) (k':=k6) (l:=[.mk 8 [] 0 0 [],.mk kd6 tx6 nm6 ps6 kids6,.mk 8 [] 0 0 []]) (by rw [←zk HR];simp only [yY,yn,ya,ub,ef c0,ef c1,zk HQ6,ef c6]) (jI (n:=3) (cur:=#[.int .i64 8,.string ⟨#[]⟩,.int .i64 0,.int .i64 0,.string ⟨#[]⟩,.int .i64 0,.slice none 0 0,.int .i64 kd6,.string ⟨tx6.toArray⟩,.int .i64 nm6,.int .i64 ps6,.string ⟨#[]⟩,.int .i64 0,.slice ao6 kids6.length cp6,.int .i64 8,.string ⟨#[]⟩,.int .i64 0,.int .i64 0,.string ⟨#[]⟩,.int .i64 0,.slice none 0 0]) (yN om) rfl rfl dc om om (Kids.snoc (Kids.snoc (Kids.one (Nd.mk (kd:=8) (tx:=[]) (nm:=0) (ps:=0) (zq.nil _ w.heap.size w.heap.size)) om om (.inr om)) ((Nd.mk (kd:=kd6) (tx:=tx6) (nm:=nm6) (ps:=ps6) row6).ag (yQ zu om)) om om (.inr om)) (Nd.mk (kd:=8) (tx:=[]) (nm:=0) (ps:=0) (zq.nil _ w.heap.size w.heap.size)) om om (.inr om))) sq ?_ ?_
  ·exact zw wg
  ·exact yD wg
 have b6:decide (s6=1)=true:=by simp [c6]
 have C6:=zm c6
 clear c6
 by_cases cw:yb C.ts k6 [[59]]=true
 rotate_left
 ·skip
  go_wp2_with fail
  refine (yX C ok k6 h _ ⟨#[102,111,114]⟩ [59] (zw (yv wg ok oz)) (Bool.eq_false_iff.2 cw)).mono ?_
  rintro e w7 ⟨rfl,hgq⟩
  exact ⟨rfl,yK (by rw [←zk HR];simp only [yY,yn,ya,ub,ef c0,ef c1,zk HQ6,et (zk C6),ef cw]) (zl (yD (yw wg oz)) (zn hgq))⟩
 go_wp2_with fail
 refine (yJ C ok k6 h _ ⟨#[102,111,114]⟩ [59] (zw (yv wg ok oz)) cw).mono ?_
 rintro e w7 ⟨rfl,p7,hg⟩
 have hz7:=hg.size
 (try simp at hz7)
 have G7:w.grownBy w7 (some C.b):=zl (yD (yw wg oz)) hg
 replace row6:=zq.ag row6 (Ag.grown (yQ (yr zu oz) sq) hg sq om) lr lr
 have bl0_7:BL w7 (w4.heap.size) (yE kd6 ⟨tx6.toArray⟩ nm6 ps6 ao6 kids6.length cp6):=BL.grown (yS zT) hg om
 have hl0_7:=bl0_7.lt
 have bl1_7:BL w7 (w4.heap.size+1) (yE 8 ⟨#[]⟩ 0 0 none 0 0):=BL.grown (yS (bw7 wg oz)) hg om
 have hl1_7:=bl1_7.lt
 have bl2_7:BL w7 (w4.heap.size+2) (yE 8 ⟨#[]⟩ 0 0 none 0 0):=BL.grown (yS (bw7 wg oz)) hg om
 have hl2_7:=bl2_7.lt
 have bl3_7:BL w7 (w6.heap.size) (yE kd6 ⟨tx6.toArray⟩ nm6 ps6 ao6 kids6.length cp6):=BL.grown (yN sq) hg om
 have hl3_7:=bl3_7.lt
 clear bl0_6 zc0_6 fz0_6 bl1_6 bl2_6 p6 hg
 have ⟨⟨ne18,nf18⟩,⟨ne19,nf19⟩,⟨ne20,nf20⟩,⟨ne21,nf21⟩,⟨ne22,nf22⟩⟩:NN C.b w7.heap.size∧NN w4.heap.size w7.heap.size∧NN (w4.heap.size+1) w7.heap.size∧NN (w4.heap.size+2) w7.heap.size∧NN w6.heap.size w7.heap.size:=om
 by_cases cv:yb C.ts (k6+1) [[59]]=true
 ·skip
  go_wp2_with fail
  refine qc w ok (k6+1) h (isL C ok (k6+1) h _ w7.heap.size [[59]] dc wg zK) wg wg fun w8 p8 hg hz8 G8=>?_
  (try simp at hz8)
  replace row6:=zq.ag row6 (Ag.grown zu hg om om) lr lr
  have bl0_8:BL w8 (w4.heap.size) (yE kd6 ⟨tx6.toArray⟩ nm6 ps6 ao6 kids6.length cp6):=BL.grown wg hg om
  have hl0_8:=bl0_8.lt
  have bl1_8:BL w8 (w4.heap.size+1) (yE 8 ⟨#[]⟩ 0 0 none 0 0):=BL.grown wg hg om
  have hl1_8:=bl1_8.lt
  have bl2_8:BL w8 (w4.heap.size+2) (yE 8 ⟨#[]⟩ 0 0 none 0 0):=BL.grown wg hg om
  have hl2_8:=bl2_8.lt
  have bl3_8:BL w8 (w6.heap.size) (yE kd6 ⟨tx6.toArray⟩ nm6 ps6 ao6 kids6.length cp6):=BL.grown wg hg om
  have hl3_8:=bl3_8.lt
  clear bl0_7 bl1_7 bl2_7 bl3_7 p7 hg
  have ⟨⟨ne23,nf23⟩,⟨ne24,nf24⟩,⟨ne25,nf25⟩,⟨ne26,nf26⟩,⟨ne27,nf27⟩⟩:NN C.b w8.heap.size∧NN w4.heap.size w8.heap.size∧NN (w4.heap.size+1) w8.heap.size∧NN (w4.heap.size+2) w8.heap.size∧NN w6.heap.size w8.heap.size:=om
  go_wp2_with fail
  refine (yJ C ok (k6+1) h _ ⟨#[102,111,114]⟩ [59] wg cv).mono ?_
  rintro e w9 ⟨rfl,p9,hg⟩
  have hz9:=hg.size
  (try simp at hz9)
  have G9:w.grownBy w9 (some C.b):=zl wg hg
  replace row6:=zq.ag row6 (Ag.grown zu hg om om) lr lr
  have bl0_9:BL w9 (w4.heap.size) (yE kd6 ⟨tx6.toArray⟩ nm6 ps6 ao6 kids6.length cp6):=BL.grown wg hg om
  have hl0_9:=bl0_9.lt
  have bl1_9:BL w9 (w4.heap.size+1) (yE 8 ⟨#[]⟩ 0 0 none 0 0):=BL.grown wg hg om
  have hl1_9:=bl1_9.lt
  have bl2_9:BL w9 (w4.heap.size+2) (yE 8 ⟨#[]⟩ 0 0 none 0 0):=BL.grown wg hg om
  have hl2_9:=bl2_9.lt
  have bl3_9:BL w9 (w6.heap.size) (yE kd6 ⟨tx6.toArray⟩ nm6 ps6 ao6 kids6.length cp6):=BL.grown wg hg om
  have hl3_9:=bl3_9.lt
  clear bl0_8 bl1_8 bl2_8 bl3_8 p8 hg
  have ⟨⟨ne28,nf28⟩,⟨ne29,nf29⟩,⟨ne30,nf30⟩,⟨ne31,nf31⟩,⟨ne32,nf32⟩⟩:NN C.b w9.heap.size∧NN w4.heap.size w9.heap.size∧NN (w4.heap.size+1) w9.heap.size∧NN (w4.heap.size+2) w9.heap.size∧NN w6.heap.size w9.heap.size:=om
  by_cases cx:yb C.ts ((k6+1)+1) [[123]]=true
  ·skip
   go_wp2_with fail
   refine (isL C ok ((k6+1)+1) h _ w9.heap.size [[123]] dc wg zK).mono ?_
   rintro e w10 ⟨rfl,hgq⟩
   have p10:=PS.quiet (C:=C) (k:=((k6+1)+1)) (h:=h) wg hgq
   have hg:=zn (r:=some C.b) hgq
   clear hgq
   have hz10:=hg.size
   (try simp at hz10)
   have G10:w.grownBy w10 (some C.b):=zl wg hg
   replace row6:=zq.ag row6 (Ag.grown zu hg om om) lr lr
   have bl0_10:BL w10 (w4.heap.size) (yE kd6 ⟨tx6.toArray⟩ nm6 ps6 ao6 kids6.length cp6):=BL.grown wg hg om
   have hl0_10:=bl0_10.lt
   have zc0_10:=bl0_10.cell
   have bl1_10:BL w10 (w4.heap.size+1) (yE 8 ⟨#[]⟩ 0 0 none 0 0):=BL.grown wg hg om
   have hl1_10:=bl1_10.lt
   have zc1_10:=bl1_10.cell
   have bl2_10:BL w10 (w4.heap.size+2) (yE 8 ⟨#[]⟩ 0 0 none 0 0):=BL.grown wg hg om
   have hl2_10:=bl2_10.lt
   have zc2_10:=bl2_10.cell
   have bl3_10:BL w10 (w6.heap.size) (yE kd6 ⟨tx6.toArray⟩ nm6 ps6 ao6 kids6.length cp6):=BL.grown wg hg om
   have hl3_10:=bl3_10.lt
   clear bl0_9 bl1_9 bl2_9 bl3_9 p9 hg
   have ⟨⟨ne33,nf33⟩,⟨ne34,nf34⟩,⟨ne35,nf35⟩,⟨ne36,nf36⟩,⟨ne37,nf37⟩⟩:NN C.b w10.heap.size∧NN w4.heap.size w10.heap.size∧NN (w4.heap.size+1) w10.heap.size∧NN (w4.heap.size+2) w10.heap.size∧NN w6.heap.size w10.heap.size:=om
   go_wp2
   go_ret
   refine yg (hi:=w10.heap.size+1) (s:=0) (k':=((k6+1)+1)) (l:=[.mk kd6 tx6 nm6 ps6 kids6,.mk 8 [] 0 0 [],.mk 8 [] 0 0 []]) (by rw [←zk HR];simp only [yY,yn,ya,ub,ef c0,ef c1,zk HQ6,et (zk C6),et cw,et cv,et cx]) (jI (n:=3) (cur:=#[.int .i64 kd6,.string ⟨tx6.toArray⟩,.int .i64 nm6,.int .i64 ps6,.string ⟨#[]⟩,.int .i64 0,.slice ao6 kids6.length cp6,.int .i64 8,.string ⟨#[]⟩,.int .i64 0,.int .i64 0,.string ⟨#[]⟩,.int .i64 0,.slice none 0 0,.int .i64 8,.string ⟨#[]⟩,.int .i64 0,.int .i64 0,.string ⟨#[]⟩,.int .i64 0,.slice none 0 0]) (yN om) rfl rfl dc om om (Kids.snoc (Kids.snoc (Kids.one ((Nd.mk (kd:=kd6) (tx:=tx6) (nm:=nm6) (ps:=ps6) row6).ag (yQ zu om)) om om (.inr om)) (Nd.mk (kd:=8) (tx:=[]) (nm:=0) (ps:=0) (zq.nil _ w.heap.size w.heap.size)) om om (.inr om)) (Nd.mk (kd:=8) (tx:=[]) (nm:=0) (ps:=0) (zq.nil _ w.heap.size w.heap.size)) om om (.inr om))) sq ?_ ?_
   ·exact zw wg
   ·exact yD wg
  go_wp2_with fail
  refine (isL C ok ((k6+1)+1) h _ w9.heap.size [[123]] dc wg zK).mono ?_
  rintro e w10 ⟨rfl,hgq⟩
  have p10:=PS.quiet (C:=C) (k:=((k6+1)+1)) (h:=h) wg hgq
  have hg:=zn (r:=some C.b) hgq
  clear hgq
  have hz10:=hg.size
  (try simp at hz10)
  have G10:w.grownBy w10 (some C.b):=zl wg hg
  replace row6:=zq.ag row6 (Ag.grown zu hg om om) lr lr
  have bl0_10:BL w10 (w4.heap.size) (yE kd6 ⟨tx6.toArray⟩ nm6 ps6 ao6 kids6.length cp6):=BL.grown wg hg om
  have hl0_10:=bl0_10.lt
  have bl1_10:BL w10 (w4.heap.size+1) (yE 8 ⟨#[]⟩ 0 0 none 0 0):=BL.grown wg hg om
  have hl1_10:=bl1_10.lt
  have bl2_10:BL w10 (w4.heap.size+2) (yE 8 ⟨#[]⟩ 0 0 none 0 0):=BL.grown wg hg om
  have hl2_10:=bl2_10.lt
  have bl3_10:BL w10 (w6.heap.size) (yE kd6 ⟨tx6.toArray⟩ nm6 ps6 ao6 kids6.length cp6):=BL.grown wg hg om
  have hl3_10:=bl3_10.lt
  clear bl0_9 bl1_9 bl2_9 bl3_9 p9 hg
  have ⟨⟨ne33,nf33⟩,⟨ne34,nf34⟩,⟨ne35,nf35⟩,⟨ne36,nf36⟩,⟨ne37,nf37⟩⟩:NN C.b w10.heap.size∧NN w4.heap.size w10.heap.size∧NN (w4.heap.size+1) w10.heap.size∧NN (w4.heap.size+2) w10.heap.size∧NN w6.heap.size w10.heap.size:=om
  go_wp2_with fail
  refine (ih.at.simple h ((k6+1)+1) _ wg (fun hx=>zk HO ((zk HR).symm.trans (by simp only [yY,yn,ya,ub,ef c0,ef c1,zk HQ6,et (zk C6),et cw,et cv,ef cx,hx])))).mono ?_
  rintro e w11 hp
  rcases hp with ⟨kd11,tx11,nm11,ps11,kids11,s11,k11,ao11,cp11,hq,rfl,hrow,p11,hg⟩ | ⟨pb,rule,hq,rfl,hg⟩
  rotate_left
  (exact ⟨rfl,yK (by rw [←zk HR];simp only [yY,yn,ya,ub,ef c0,ef c1,zk HQ6,et (zk C6),et cw,et cv,ef cx,hq]) (zl wg hg)⟩)
  have hz11:=hg.size
  (try simp at hz11)
  have G11:w.grownBy w11 (some C.b):=zl wg hg
  replace row6:=zq.ag row6 (Ag.grown zu hg om om) lr lr
  have bl0_11:BL w11 (w4.heap.size) (yE kd6 ⟨tx6.toArray⟩ nm6 ps6 ao6 kids6.length cp6):=BL.grown wg hg om
  have hl0_11:=bl0_11.lt
  have zc0_11:=bl0_11.cell
  have bl1_11:BL w11 (w4.heap.size+1) (yE 8 ⟨#[]⟩ 0 0 none 0 0):=BL.grown wg hg om
  have hl1_11:=bl1_11.lt
  have zc1_11:=bl1_11.cell
  have bl2_11:BL w11 (w4.heap.size+2) (yE 8 ⟨#[]⟩ 0 0 none 0 0):=BL.grown wg hg om
  have hl2_11:=bl2_11.lt
  have zc2_11:=bl2_11.cell
  have fz2_11:=bl2_11.frozen
  have bl3_11:BL w11 (w6.heap.size) (yE kd6 ⟨tx6.toArray⟩ nm6 ps6 ao6 kids6.length cp6):=BL.grown wg hg om
  have hl3_11:=bl3_11.lt
  clear bl0_10 bl1_10 bl2_10 bl3_10 p10
  obtain ⟨lo11,hlo11,row11⟩:=hrow.named
  (try simp at hlo11)
  have HQ11:=zm hq
  clear hrow hq hg
  have ⟨⟨ne38,nf38⟩,⟨ne39,nf39⟩,⟨ne40,nf40⟩,⟨ne41,nf41⟩,⟨ne42,nf42⟩⟩:NN C.b w11.heap.size∧NN w4.heap.size w11.heap.size∧NN (w4.heap.size+1) w11.heap.size∧NN (w4.heap.size+2) w11.heap.size∧NN w6.heap.size w11.heap.size:=om
  go_wp2
  go_ret
  refine yg (hi:=w11.heap.size+1) (s:=0) (k':=k11) (l:=[.mk kd6 tx6 nm6 ps6 kids6,.mk 8 [] 0 0 [],.mk kd11 tx11 nm11 ps11 kids11]) (by rw [←zk HR];simp only [yY,yn,ya,ub,ef c0,ef c1,zk HQ6,et (zk C6),et cw,et cv,ef cx,zk HQ11]) (jI (n:=3) (cur:=#[.int .i64 kd6,.string ⟨tx6.toArray⟩,.int .i64 nm6,.int .i64 ps6,.string ⟨#[]⟩,.int .i64 0,.slice ao6 kids6.length cp6,.int .i64 8,.string ⟨#[]⟩,.int .i64 0,.int .i64 0,.string ⟨#[]⟩,.int .i64 0,.slice none 0 0,.int .i64 kd11,.string ⟨tx11.toArray⟩,.int .i64 nm11,.int .i64 ps11,.string ⟨#[]⟩,.int .i64 0,.slice ao11 kids11.length cp11]) (yN sq) rfl rfl dc om om (Kids.snoc (Kids.snoc (Kids.one ((Nd.mk (kd:=kd6) (tx:=tx6) (nm:=nm6) (ps:=ps6) row6).ag (yQ (yr zu oz) sq)) om om (.inr om)) (Nd.mk (kd:=8) (tx:=[]) (nm:=0) (ps:=0) (zq.nil _ w.heap.size w.heap.size)) om om (.inr om)) ((Nd.mk (kd:=kd11) (tx:=tx11) (nm:=nm11) (ps:=ps11) row11).ag (yQ (yr zu oz) sq)) om om (.inr om))) sq ?_ ?_
  ·exact zw (yv wg ok oz)
  ·exact yD (yw wg oz)
 go_wp2_with fail
 refine qc w ok (k6+1) h (isL C ok (k6+1) h _ w7.heap.size [[59]] dc wg zK) wg wg fun w8 p8 hg hz8 G8=>?_
 (try simp at hz8)
 replace row6:=zq.ag row6 (Ag.grown zu hg om om) lr lr
 have bl0_8:BL w8 (w4.heap.size) (yE kd6 ⟨tx6.toArray⟩ nm6 ps6 ao6 kids6.length cp6):=BL.grown wg hg om
 have hl0_8:=bl0_8.lt
 have bl1_8:BL w8 (w4.heap.size+1) (yE 8 ⟨#[]⟩ 0 0 none 0 0):=BL.grown wg hg om
 have hl1_8:=bl1_8.lt
 have bl2_8:BL w8 (w4.heap.size+2) (yE 8 ⟨#[]⟩ 0 0 none 0 0):=BL.grown wg hg om
 have hl2_8:=bl2_8.lt
 have bl3_8:BL w8 (w6.heap.size) (yE kd6 ⟨tx6.toArray⟩ nm6 ps6 ao6 kids6.length cp6):=BL.grown wg hg om
 have hl3_8:=bl3_8.lt
 clear bl0_7 bl1_7 bl2_7 bl3_7 p7 hg
 have ⟨⟨ne23,nf23⟩,⟨ne24,nf24⟩,⟨ne25,nf25⟩,⟨ne26,nf26⟩,⟨ne27,nf27⟩⟩:NN C.b w8.heap.size∧NN w4.heap.size w8.heap.size∧NN (w4.heap.size+1) w8.heap.size∧NN (w4.heap.size+2) w8.heap.size∧NN w6.heap.size w8.heap.size:=om
 go_wp2_with fail
 refine (ih.at.expr h (k6+1) _ wg (fun hx=>zk HO ((zk HR).symm.trans (by simp only [yY,yn,ya,ub,ef c0,ef c1,zk HQ6,et (zk C6),et cw,ef cv,hx])))).mono ?_
 rintro e w9 hp
 rcases hp with ⟨kd9,tx9,nm9,ps9,kids9,s9,k9,ao9,cp9,hq,rfl,hrow,p9,hg⟩ | ⟨pb,rule,hq,rfl,hg⟩
 rotate_left
 (exact ⟨rfl,yK (by rw [←zk HR];simp only [yY,yn,ya,ub,ef c0,ef c1,zk HQ6,et (zk C6),et cw,ef cv,hq]) (zl wg hg)⟩)
 have hz9:=hg.size
 (try simp at hz9)
 have G9:w.grownBy w9 (some C.b):=zl wg hg
 replace row6:=zq.ag row6 (Ag.grown zu hg om om) lr lr
 have bl0_9:BL w9 (w4.heap.size) (yE kd6 ⟨tx6.toArray⟩ nm6 ps6 ao6 kids6.length cp6):=BL.grown wg hg om
 have hl0_9:=bl0_9.lt
 have bl1_9:BL w9 (w4.heap.size+1) (yE 8 ⟨#[]⟩ 0 0 none 0 0):=BL.grown wg hg om
 have hl1_9:=bl1_9.lt
 have zc1_9:=bl1_9.cell
 have fz1_9:=bl1_9.frozen
 have bl2_9:BL w9 (w4.heap.size+2) (yE 8 ⟨#[]⟩ 0 0 none 0 0):=BL.grown wg hg om
 have hl2_9:=bl2_9.lt
 have bl3_9:BL w9 (w6.heap.size) (yE kd6 ⟨tx6.toArray⟩ nm6 ps6 ao6 kids6.length cp6):=BL.grown wg hg om
 have hl3_9:=bl3_9.lt
 clear bl0_8 bl1_8 bl2_8 bl3_8 p8
 obtain ⟨lo9,hlo9,row9⟩:=hrow.named
 (try simp at hlo9)
 have HQ9:=zm hq
 clear hrow hq hg
 have ⟨⟨ne28,nf28⟩,⟨ne29,nf29⟩,⟨ne30,nf30⟩,⟨ne31,nf31⟩,⟨ne32,nf32⟩⟩:NN C.b w9.heap.size∧NN w4.heap.size w9.heap.size∧NN (w4.heap.size+1) w9.heap.size∧NN (w4.heap.size+2) w9.heap.size∧NN w6.heap.size w9.heap.size:=om
 by_cases cy:yb C.ts k9 [[59]]=true
 rotate_left
 ·skip
  go_wp2_with fail
  refine (yX C ok k9 h _ ⟨#[102,111,114]⟩ [59] (yv wg ok oz) (Bool.eq_false_iff.2 cy)).mono ?_
  rintro e w10 ⟨rfl,hgq⟩
  exact ⟨rfl,yK (by rw [←zk HR];simp only [yY,yn,ya,ub,ef c0,ef c1,zk HQ6,et (zk C6),et cw,ef cv,zk HQ9,ef cy]) (zl (yw wg oz) (zn hgq))⟩
 go_wp2_with fail
 refine (yJ C ok k9 h _ ⟨#[102,111,114]⟩ [59] (yv wg ok oz) cy).mono ?_
 rintro e w10 ⟨rfl,p10,hg⟩
 have hz10:=hg.size
 (try simp at hz10)
 have G10:w.grownBy w10 (some C.b):=zl (yw wg oz) hg
 replace row6:=zq.ag row6 (Ag.grown (yr zu oz) hg sq om) lr lr
 replace row9:=zq.ag row9 (Ag.grown (yr zu oz) hg sq om) lr lr
 have bl0_10:BL w10 (w4.heap.size) (yE kd6 ⟨tx6.toArray⟩ nm6 ps6 ao6 kids6.length cp6):=BL.grown (bw7 wg oz) hg om
 have hl0_10:=bl0_10.lt
 have bl1_10:BL w10 (w4.heap.size+1) (yE kd9 ⟨tx9.toArray⟩ nm9 ps9 ao9 kids9.length cp9):=BL.grown zT hg om
 have hl1_10:=bl1_10.lt
 have bl2_10:BL w10 (w4.heap.size+2) (yE 8 ⟨#[]⟩ 0 0 none 0 0):=BL.grown (bw7 wg oz) hg om
 have hl2_10:=bl2_10.lt
 have bl3_10:BL w10 (w6.heap.size) (yE kd6 ⟨tx6.toArray⟩ nm6 ps6 ao6 kids6.length cp6):=BL.grown (bw7 wg oz) hg om
 have hl3_10:=bl3_10.lt
 clear bl0_9 bl1_9 zc1_9 fz1_9 bl2_9 bl3_9 p9 hg
 have ⟨⟨ne33,nf33⟩,⟨ne34,nf34⟩,⟨ne35,nf35⟩,⟨ne36,nf36⟩,⟨ne37,nf37⟩⟩:NN C.b w10.heap.size∧NN w4.heap.size w10.heap.size∧NN (w4.heap.size+1) w10.heap.size∧NN (w4.heap.size+2) w10.heap.size∧NN w6.heap.size w10.heap.size:=om
 by_cases cx:yb C.ts (k9+1) [[123]]=true
 ·skip
  go_wp2_with fail
  refine qc w ok (k9+1) h (isL C ok (k9+1) h _ w10.heap.size [[123]] dc wg zK) wg wg fun w11 p11 hg hz11 G11=>?_
  (try simp at hz11)
  replace row6:=zq.ag row6 (Ag.grown zu hg om om) lr lr
  replace row9:=zq.ag row9 (Ag.grown zu hg om om) lr lr
  have bl0_11:BL w11 (w4.heap.size) (yE kd6 ⟨tx6.toArray⟩ nm6 ps6 ao6 kids6.length cp6):=BL.grown wg hg om
  have hl0_11:=bl0_11.lt
  have zc0_11:=bl0_11.cell
  have bl1_11:BL w11 (w4.heap.size+1) (yE kd9 ⟨tx9.toArray⟩ nm9 ps9 ao9 kids9.length cp9):=BL.grown wg hg om
  have hl1_11:=bl1_11.lt
  have zc1_11:=bl1_11.cell
  have bl2_11:BL w11 (w4.heap.size+2) (yE 8 ⟨#[]⟩ 0 0 none 0 0):=BL.grown wg hg om
  have hl2_11:=bl2_11.lt
  have zc2_11:=bl2_11.cell
  have bl3_11:BL w11 (w6.heap.size) (yE kd6 ⟨tx6.toArray⟩ nm6 ps6 ao6 kids6.length cp6):=BL.grown wg hg om
  have hl3_11:=bl3_11.lt
  clear bl0_10 bl1_10 bl2_10 bl3_10 p10 hg
  have ⟨⟨ne38,nf38⟩,⟨ne39,nf39⟩,⟨ne40,nf40⟩,⟨ne41,nf41⟩,⟨ne42,nf42⟩⟩:NN C.b w11.heap.size∧NN w4.heap.size w11.heap.size∧NN (w4.heap.size+1) w11.heap.size∧NN (w4.heap.size+2) w11.heap.size∧NN w6.heap.size w11.heap.size:=om
  go_wp2
  go_ret
  refine yg (hi:=w11.heap.size+1) (s:=0) (k':=(k9+1)) (l:=[.mk kd6 tx6 nm6 ps6 kids6,.mk kd9 tx9 nm9 ps9 kids9,.mk 8 [] 0 0 []]) (by rw [←zk HR];simp only [yY,yn,ya,ub,ef c0,ef c1,zk HQ6,et (zk C6),et cw,ef cv,zk HQ9,et cy,et cx]) (jI (n:=3) (cur:=#[.int .i64 kd6,.string ⟨tx6.toArray⟩,.int .i64 nm6,.int .i64 ps6,.string ⟨#[]⟩,.int .i64 0,.slice ao6 kids6.length cp6,.int .i64 kd9,.string ⟨tx9.toArray⟩,.int .i64 nm9,.int .i64 ps9,.string ⟨#[]⟩,.int .i64 0,.slice ao9 kids9.length cp9,.int .i64 8,.string ⟨#[]⟩,.int .i64 0,.int .i64 0,.string ⟨#[]⟩,.int .i64 0,.slice none 0 0]) (yN om) rfl rfl dc om om (Kids.snoc (Kids.snoc (Kids.one ((Nd.mk (kd:=kd6) (tx:=tx6) (nm:=nm6) (ps:=ps6) row6).ag (yQ zu om)) om om (.inr om)) ((Nd.mk (kd:=kd9) (tx:=tx9) (nm:=nm9) (ps:=ps9) row9).ag (yQ zu om)) om om (.inr om)) (Nd.mk (kd:=8) (tx:=[]) (nm:=0) (ps:=0) (zq.nil _ w.heap.size w.heap.size)) om om (.inr om))) sq ?_ ?_
  ·exact zw wg
  ·exact yD wg
 go_wp2_with fail
 refine qc w ok (k9+1) h (isL C ok (k9+1) h _ w10.heap.size [[123]] dc wg zK) wg wg fun w11 p11 hg hz11 G11=>?_
 (try simp at hz11)
 replace row6:=zq.ag row6 (Ag.grown zu hg om om) lr lr
 replace row9:=zq.ag row9 (Ag.grown zu hg om om) lr lr
 have bl0_11:BL w11 (w4.heap.size) (yE kd6 ⟨tx6.toArray⟩ nm6 ps6 ao6 kids6.length cp6):=BL.grown wg hg om
 have hl0_11:=bl0_11.lt
 have bl1_11:BL w11 (w4.heap.size+1) (yE kd9 ⟨tx9.toArray⟩ nm9 ps9 ao9 kids9.length cp9):=BL.grown wg hg om
 have hl1_11:=bl1_11.lt
 have bl2_11:BL w11 (w4.heap.size+2) (yE 8 ⟨#[]⟩ 0 0 none 0 0):=BL.grown wg hg om
 have hl2_11:=bl2_11.lt
 have bl3_11:BL w11 (w6.heap.size) (yE kd6 ⟨tx6.toArray⟩ nm6 ps6 ao6 kids6.length cp6):=BL.grown wg hg om
 have hl3_11:=bl3_11.lt
 clear bl0_10 bl1_10 bl2_10 bl3_10 p10 hg
 have ⟨⟨ne38,nf38⟩,⟨ne39,nf39⟩,⟨ne40,nf40⟩,⟨ne41,nf41⟩,⟨ne42,nf42⟩⟩:NN C.b w11.heap.size∧NN w4.heap.size w11.heap.size∧NN (w4.heap.size+1) w11.heap.size∧NN (w4.heap.size+2) w11.heap.size∧NN w6.heap.size w11.heap.size:=om
 go_wp2_with fail
 refine (ih.at.simple h (k9+1) _ wg (fun hx=>zk HO ((zk HR).symm.trans (by simp only [yY,yn,ya,ub,ef c0,ef c1,zk HQ6,et (zk C6),et cw,ef cv,zk HQ9,et cy,ef cx,hx])))).mono ?_
 rintro e w12 hp
 rcases hp with ⟨kd12,tx12,nm12,ps12,kids12,s12,k12,ao12,cp12,hq,rfl,hrow,p12,hg⟩ | ⟨pb,rule,hq,rfl,hg⟩
 rotate_left
 (exact ⟨rfl,yK (by rw [←zk HR];simp only [yY,yn,ya,ub,ef c0,ef c1,zk HQ6,et (zk C6),et cw,ef cv,zk HQ9,et cy,ef cx,hq]) (zl wg hg)⟩)
 have hz12:=hg.size
 (try simp at hz12)
 have G12:w.grownBy w12 (some C.b):=zl wg hg
 replace row6:=zq.ag row6 (Ag.grown zu hg om om) lr lr
 replace row9:=zq.ag row9 (Ag.grown zu hg om om) lr lr
 have bl0_12:BL w12 (w4.heap.size) (yE kd6 ⟨tx6.toArray⟩ nm6 ps6 ao6 kids6.length cp6):=BL.grown wg hg om
 have hl0_12:=bl0_12.lt
 have zc0_12:=bl0_12.cell
 have bl1_12:BL w12 (w4.heap.size+1) (yE kd9 ⟨tx9.toArray⟩ nm9 ps9 ao9 kids9.length cp9):=BL.grown wg hg om
 have hl1_12:=bl1_12.lt
 have zc1_12:=bl1_12.cell
 have bl2_12:BL w12 (w4.heap.size+2) (yE 8 ⟨#[]⟩ 0 0 none 0 0):=BL.grown wg hg om
 have hl2_12:=bl2_12.lt
 have zc2_12:=bl2_12.cell
 have fz2_12:=bl2_12.frozen
 have bl3_12:BL w12 (w6.heap.size) (yE kd6 ⟨tx6.toArray⟩ nm6 ps6 ao6 kids6.length cp6):=BL.grown wg hg om
 have hl3_12:=bl3_12.lt
 clear bl0_11 bl1_11 bl2_11 bl3_11 p11
 obtain ⟨lo12,hlo12,row12⟩:=hrow.named
 (try simp at hlo12)
 have HQ12:=zm hq
 clear hrow hq hg
 have ⟨⟨ne43,nf43⟩,⟨ne44,nf44⟩,⟨ne45,nf45⟩,⟨ne46,nf46⟩,⟨ne47,nf47⟩⟩:NN C.b w12.heap.size∧NN w4.heap.size w12.heap.size∧NN (w4.heap.size+1) w12.heap.size∧NN (w4.heap.size+2) w12.heap.size∧NN w6.heap.size w12.heap.size:=om
 go_wp2
 go_ret
 refine yg (hi:=w12.heap.size+1) (s:=0) (k':=k12) (l:=[.mk kd6 tx6 nm6 ps6 kids6,.mk kd9 tx9 nm9 ps9 kids9,.mk kd12 tx12 nm12 ps12 kids12]) (by rw [←zk HR];simp only [yY,yn,ya,ub,ef c0,ef c1,zk HQ6,et (zk C6),et cw,ef cv,zk HQ9,et cy,ef cx,zk HQ12]) (jI (n:=3) (cur:=#[.int .i64 kd6,.string ⟨tx6.toArray⟩,.int .i64 nm6,.int .i64 ps6,.string ⟨#[]⟩,.int .i64 0,.slice ao6 kids6.length cp6,.int .i64 kd9,.string ⟨tx9.toArray⟩,.int .i64 nm9,.int .i64 ps9,.string ⟨#[]⟩,.int .i64 0,.slice ao9 kids9.length cp9,.int .i64 kd12,.string ⟨tx12.toArray⟩,.int .i64 nm12,.int .i64 ps12,.string ⟨#[]⟩,.int .i64 0,.slice ao12 kids12.length cp12]) (yN sq) rfl rfl dc om om (Kids.snoc (Kids.snoc (Kids.one ((Nd.mk (kd:=kd6) (tx:=tx6) (nm:=nm6) (ps:=ps6) row6).ag (yQ (yr zu oz) sq)) om om (.inr om)) ((Nd.mk (kd:=kd9) (tx:=tx9) (nm:=nm9) (ps:=ps9) row9).ag (yQ (yr zu oz) sq)) om om (.inr om)) ((Nd.mk (kd:=kd12) (tx:=tx12) (nm:=nm12) (ps:=ps12) row12).ag (yQ (yr zu oz) sq)) om om (.inr om))) sq ?_ ?_
 ·exact zw (yv wg ok oz)
 ·exact yD (yw wg oz)
end Go.Proofs.YtgbjpnnockoomaaGreatDoor
