import Derived.Test.YtgbjpnnockoomaaGreatDoorQg
import Derived.Test.YtgbjpnnockoomaaGreatDoorParB
import Derived.Test.YtgbjpnnockoomaaGreatDoorSteps
set_option linter.unusedVariables false
set_option linter.unusedSimpArgs false
set_option maxHeartbeats 4000000
set_option maxRecDepth 100000
namespace Go.Proofs.YtgbjpnnockoomaaGreatDoor
open Go.RowKit Lx Px
theorem decl_w (C:Ctx) (ok:C.Ok) (n:Nat) (ih:All C n):CN C 29 .decl #[.pointer (some ⟨C.b,0,none⟩)] (n+1):=by
 intro h k w p hout
 have hr:run C.ts (n+1) .decl h k=fZ C.ts (run C.ts n) h k:=rfl
 rw [hr] at hout ⊢
 clear hr
 generalize hR:fZ C.ts (run C.ts n) h k=r0 at hout ⊢
 have hbl:=p.lt
 have htf1:=dL
 have htf3:=bT
 have G0:=zo w (some C.b)
 have HR:=zm hR
 clear hR
 have HO:=zm hout
 clear hout
 by_cases stype:yI C.ts k=[116,121,112,101]
 ·skip
  have h6:=zm (dH stype)
  go_enter Tryz.func29,Tryz.ntmps29
  go_wp2_with fail
  refine qc w ok k h (yc C ok k h _ (zw wg)) (zw wg) (yD wg) fun w1 p1 hg hz1 G1=>?_
  (try simp at hz1)
  have bl0_1:BL w1 w.heap.size (yA):=BL.grown (yN om) hg om
  clear hg
  have nf1:¬w.heap.size=C.b:=om
  go_wp2_with fail
  refine (ih.at.typeDecl h k _ wg (zk h6) (fun hx=>zk HO ((zk HR).symm.trans (by simp only [fZ,ub,et stype,hx])))).mono ?_
  rintro e w2 hp
  rcases hp with ⟨kd2,tx2,nm2,ps2,kids2,s2,k2,ao2,cp2,hq,rfl,hrow,p2,hg⟩ | ⟨pb,rule,hq,rfl,hg⟩
  rotate_left
  (exact ⟨rfl,zs (by rw [←zk HR];simp only [fZ,ub,et stype,hq]) (zl wg hg)⟩)
  have G2:w.grownBy w2 (some C.b):=zl wg hg
  have bl0_2:BL w2 w.heap.size (yA):=BL.grown wg hg om
  have zc0_2:=bl0_2.cell
  have fz0_2:=bl0_2.frozen
  clear bl0_1 p1
  obtain ⟨lo2,hlo2,row2⟩:=hrow.named
  (try simp at hlo2)
  have HQ2:=zm hq
  clear hrow hq hg
  go_wp2
  refine bodyPost_ret (v:=.agg #[.int .i64 kd2,.string ⟨tx2.toArray⟩,.int .i64 nm2,.int .i64 ps2,.string ⟨#[]⟩,.int .i64 0,.slice ao2 kids2.length cp2]) (by simp [results,Tryz.results29,go_sem, *]) rfl (yB (hi:=w2.heap.size) (s:=s2) (k':=k2) (tx:=tx2) (kids:=kids2) (by rw [←zk HR];simp only [fZ,ub,et stype,zk HQ2]) (row2.ag (yr zu oz) om lr) sq ?_ ?_)
  ·exact yv wg ok oz
  ·exact yw wg oz
 by_cases svar:yI C.ts k=[118,97,114]
 ·skip
  have h6:=zm (dH svar)
  go_enter Tryz.func29,Tryz.ntmps29
  go_wp2_with fail
  refine qc w ok k h (yc C ok k h _ (zw wg)) (zw wg) (yD wg) fun w1 p1 hg _ G1=>?_
  have bl0_1:BL w1 w.heap.size (yA):=BL.grown (yN om) hg om
  clear hg
  have nf1:¬w.heap.size=C.b:=om
  go_wp2_with fail
  refine (yR C ok k h _ wg (zk h6)).mono ?_
  rintro e w2 ⟨rfl,p2,hg⟩
  have G2:w.grownBy w2 (some C.b):=zl wg hg
  have bl0_2:BL w2 w.heap.size (yA):=BL.grown wg hg om
  have hl0_2:=bl0_2.lt
  clear bl0_1 p1 hg
  go_wp2_with fail
  refine (ih.at.named 3 h (k+1) _ wg (fun hx=>zk HO ((zk HR).symm.trans (by simp only [fZ,ub,ef stype,et svar,hx])))).mono ?_
  rintro e w3 hp
  rcases hp with ⟨kd3,tx3,nm3,ps3,kids3,s3,k3,ao3,cp3,hq,rfl,hrow,p3,hg⟩ | ⟨pb,rule,hq,rfl,hg⟩
  rotate_left
  (exact ⟨rfl,zs (by rw [←zk HR];simp only [fZ,ub,ef stype,et svar,hq]) (zl wg hg)⟩)
  have G3:w.grownBy w3 (some C.b):=zl wg hg
  have bl0_3:BL w3 w.heap.size (yA):=BL.grown wg hg om
  have hl0_3:=bl0_3.lt
  have zc0_3:=bl0_3.cell
  have fz0_3:=bl0_3.frozen
  clear bl0_2 p2
  obtain ⟨lo3,hlo3,row3⟩:=hrow.named
  (try simp at hlo3)
  have HQ3:=zm hq
  clear hrow hq hg
  obtain ⟨e1,e2⟩:=oW (zk HQ3)
  subst e1
  subst e2
  go_wp2
  refine bodyPost_ret (v:=.agg #[.int .i64 3,.string ⟨tx3.toArray⟩,.int .i64 0,.int .i64 (zp C.ts k).pos,.string ⟨#[]⟩,.int .i64 0,.slice ao3 kids3.length cp3]) (by simp [results,Tryz.results29,go_sem, *]) rfl (yB (hi:=w3.heap.size) (s:=0) (k':=k3) (tx:=tx3) (kids:=kids3) (by rw [←zk HR];simp only [fZ,ub,ef stype,et svar,zk HQ3]) (row3.ag (yQ (yr zu oz) sq) om lr) sq ?_ ?_)
  ·exact zw (yv wg ok oz)
  ·exact yD (yw wg oz)
 by_cases sfunc:yI C.ts k=[102,117,110,99]
 ·skip
  have h6:=zm (dH sfunc)
  go_enter Tryz.func29,Tryz.ntmps29
  go_wp2_with fail
  refine qc w ok k h (yc C ok k h _ (zw wg)) (zw wg) (yD wg) fun w1 p1 hg _ G1=>?_
  have bl0_1:BL w1 w.heap.size (yA):=BL.grown (yN om) hg om
  clear hg
  have nf1:¬w.heap.size=C.b:=om
  go_wp2_with fail
  refine (yR C ok k h _ wg (zk h6)).mono ?_
  rintro e w2 ⟨rfl,p2,hg⟩
  have G2:w.grownBy w2 (some C.b):=zl wg hg
  have bl0_2:BL w2 w.heap.size (yA):=BL.grown wg hg om
  clear bl0_1 p1 hg
  by_cases n1:(zp C.ts (k+1)).kind=1
  rotate_left
  ·skip
   go_wp2_with fail
   refine (kH C ok (k+1) h _ ⟨#[100,101,99,108]⟩ wg n1).mono ?_
   rintro e w3 ⟨rfl,hgq⟩
   exact ⟨rfl,zs (by rw [←zk HR];simp only [fZ,ub,ef stype,ef svar,et sfunc,ef n1]) (zl wg (zn hgq))⟩
  have Hn1:=zm n1
  clear n1
  go_wp2_with fail
  refine (jB C ok (k+1) h _ ⟨#[100,101,99,108]⟩ wg (zk Hn1)).mono ?_
  rintro e w3 ⟨rfl,p3,hg⟩
  have G3:w.grownBy w3 (some C.b):=zl wg hg
  have bl0_3:BL w3 w.heap.size (yA):=BL.grown wg hg om
  have hl0_3:=bl0_3.lt
  clear bl0_2 p2 hg
  go_wp2_with fail
  refine (ih.at.function h (k+1+1) _ wg (fun hx=>zk HO ((zk HR).symm.trans (by simp only [fZ,ub,ef stype,ef svar,et sfunc,et (zk Hn1),hx])))).mono ?_
  rintro e w4 hp
  rcases hp with ⟨l4,s4,k4,ao4,cp4,hq,rfl,hrow,p4,hg⟩ | ⟨pb,rule,hq,rfl,hg⟩
  rotate_left
  (exact ⟨rfl,zs (by rw [←zk HR];simp only [fZ,ub,ef stype,ef svar,et sfunc,et (zk Hn1),hq]) (zl wg hg)⟩)
  have G4:w.grownBy w4 (some C.b):=zl wg hg
  have bl0_4:BL w4 w.heap.size (yA):=BL.grown wg hg om
  have zc0_4:=bl0_4.cell
  have fz0_4:=bl0_4.frozen
  clear bl0_3 p3
  obtain ⟨lo4,hlo4,row4⟩:=hrow.named
  (try simp at hlo4)
  have HQ4:=zm hq
  clear hrow hq hg
  go_wp2
  refine bodyPost_ret (v:=.agg #[.int .i64 4,.string ⟨(zp C.ts (k+1)).text.toArray⟩,.int .i64 0,.int .i64 (zp C.ts k).pos,.string ⟨#[]⟩,.int .i64 0,.slice ao4 l4.length cp4]) (by simp [results,Tryz.results29,go_sem, *]) rfl (yB (hi:=w4.heap.size) (s:=0) (k':=k4) (tx:=(zp C.ts (k+1)).text) (kids:=l4) (by rw [←zk HR];simp only [fZ,ub,ef stype,ef svar,et sfunc,et (zk Hn1),zk HQ4]) (row4.ag (yr zu oz) om lr) sq ?_ ?_)
  ·exact yv wg ok oz
  ·exact yw wg oz
 have bstype:(yI C.ts k==[116,121,112,101])=false:=beq_eq_false_iff_ne.2 stype
 have bsvar:(yI C.ts k==[118,97,114])=false:=beq_eq_false_iff_ne.2 svar
 have bsfunc:(yI C.ts k==[102,117,110,99])=false:=beq_eq_false_iff_ne.2 sfunc
 go_enter Tryz.func29,Tryz.ntmps29
 go_wp2_with fail
 refine qc w ok k h (yc C ok k h _ (zw wg)) (zw wg) (yD wg) fun w1 p1 hg _ G1=>?_
 clear hg
 go_wp2_with fail
 refine (dA C ok k h _ ⟨#[100,101,99,108]⟩ wg).mono ?_
 rintro e w2 ⟨rfl,hgq⟩
 have hg:=zn (r:=some C.b) hgq
 clear hgq
 have G2:w.grownBy w2 (some C.b):=zl wg hg
 clear p1 hg
 go_wp2
 exact yp rfl (zs (by rw [←zk HR];simp only [fZ,ub,ef stype,ef svar,ef sfunc]) wg)
theorem ifStmt_w (C:Ctx) (ok:C.Ok) (n:Nat) (ih:All C n):CNt C 113 .ifStmt #[.pointer (some ⟨C.b,0,none⟩)] (n+1):=by
 intro h k w p h6 hout
 have hr:run C.ts (n+1) .ifStmt h k=cu C.ts (run C.ts n) h k:=rfl
 rw [hr] at hout ⊢
 clear hr
 generalize hR:cu C.ts (run C.ts n) h k=r0 at hout ⊢
 have H6:=zm h6
 clear h6
 have hbl:=p.lt
 have htf3:=bT
 have G0:=zo w (some C.b)
 have HR:=zm hR
 clear hR
 have HO:=zm hout
 clear hout
 go_enter Tryz.func113,Tryz.ntmps113
 go_wp2_with fail
 refine (yR C ok k h _ (zw wg) (zk H6)).mono ?_
 rintro e w1 ⟨rfl,p1,hg⟩
 have hz1:=hg.size
 (try simp at hz1)
 have G1:w.grownBy w1 (some C.b):=zl (yD wg) hg
 have bl0_1:BL w1 w.heap.size (yA):=BL.grown (yN om) hg om
 clear hg
 have nf1:¬w.heap.size=C.b:=om
 go_wp2_with fail
 refine (iT C ok 126 #[.pointer (some ⟨C.b,0,none⟩)] #[] uI (run C.ts n .expr true (k+1)) true h (k+1) _ wg (fun w0 _ q0=>ih.at.expr true (k+1) w0 q0 (fun hx=>zk HO ((zk HR).symm.trans (by simp only [cu,ub,hx]))))).mono ?_
 rintro e w2 hp
 rcases hp with ⟨kd2,tx2,nm2,ps2,kids2,s2,k2,ao2,cp2,hq,rfl,hrow,p2,hg⟩ | ⟨pb,rule,hq,rfl,hg⟩
 rotate_left
 (exact ⟨rfl,zs (by rw [←zk HR];simp only [cu,ub,hq]) (zl wg hg)⟩)
 have G2:w.grownBy w2 (some C.b):=zl wg hg
 have bl0_2:BL w2 w.heap.size (yA):=BL.grown wg hg om
 have hl0_2:=bl0_2.lt
 clear bl0_1 p1
 obtain ⟨lo2,hlo2,row2⟩:=hrow.named
 (try simp at hlo2)
 have HQ2:=zm hq
 clear hrow hq hg
 have nf4:¬w2.heap.size=C.b:=om
 go_wp2_with fail
 refine (ih.at.block h k2 _ (zw wg) (fun hx=>zk HO ((zk HR).symm.trans (by simp only [cu,ub,zk HQ2,hx])))).mono ?_
 rintro e w3 hp
 rcases hp with ⟨kd3,tx3,nm3,ps3,kids3,s3,k3,ao3,cp3,hq,rfl,hrow,p3,hg⟩ | ⟨pb,rule,hq,rfl,hg⟩
 rotate_left
 (exact ⟨rfl,zs (by rw [←zk HR];simp only [cu,ub,zk HQ2,hq]) (zl (yD wg) hg)⟩)
 have hz3:=hg.size
 (try simp at hz3)
 have G3:w.grownBy w3 (some C.b):=zl (yD wg) hg
 replace row2:=zq.ag row2 (Ag.grown (yQ zu sq) hg sq om) lr lr
 have bl0_3:BL w3 w.heap.size (yA):=BL.grown (yS wg) hg om
 have hl0_3:=bl0_3.lt
 have bl1_3:BL w3 w2.heap.size (yE kd2 ⟨tx2.toArray⟩ nm2 ps2 ao2 kids2.length cp2):=BL.grown (yN om) hg om
 clear bl0_2 p2
 obtain ⟨lo3,hlo3,row3⟩:=hrow.named
 (try simp at hlo3)
 have HQ3:=zm hq
 clear hrow hq hg
 have nf6:¬w3.heap.size=C.b:=om
 go_wp2_with fail
 refine qc w ok k3 h (dh _) (zw wg) (yD wg) fun w4 p4 hg hz4 G4=>?_
 (try simp at hz4)
 replace row2:=zq.ag row2 (Ag.grown (yQ zu om) hg sq om) lr lr
 replace row3:=zq.ag row3 (Ag.grown (yQ zu sq) hg sq om) lr lr
 have bl0_4:BL w4 w.heap.size (yA):=BL.grown (yS wg) hg om
 have hl0_4:=bl0_4.lt
 have bl1_4:BL w4 w2.heap.size (yE kd2 ⟨tx2.toArray⟩ nm2 ps2 ao2 kids2.length cp2):=BL.grown (yS wg) hg om
 have hl1_4:=bl1_4.lt
 have bl2_4:BL w4 w3.heap.size (yE kd3 ⟨tx3.toArray⟩ nm3 ps3 ao3 kids3.length cp3):=BL.grown (yN om) hg om
 clear bl0_3 bl1_3 p3 hg
 have nf9:¬w4.heap.size=C.b:=om
 by_cases ce:yb C.ts k3 [[101,108,115,101]]=true
 rotate_left
 ·skip
  go_wp2_with fail
  refine qc w ok k3 h (yV C ok k3 h _ [101,108,115,101] (zw wg) (Bool.eq_false_iff.2 ce)) (zw wg) (yD wg) fun w5 p5 hg _ G5=>?_
  replace row2:=zq.ag row2 (Ag.grown (yQ zu om) hg sq om) lr lr
  replace row3:=zq.ag row3 (Ag.grown (yQ zu om) hg sq om) lr lr
  have bl0_5:BL w5 w.heap.size (yA):=BL.grown (yS wg) hg om
  have hl0_5:=bl0_5.lt
  have zc0_5:=bl0_5.cell
  have fz0_5:=bl0_5.frozen
  have bl1_5:BL w5 w2.heap.size (yE kd2 ⟨tx2.toArray⟩ nm2 ps2 ao2 kids2.length cp2):=BL.grown (yS wg) hg om
  have hl1_5:=bl1_5.lt
  have zc1_5:=bl1_5.cell
  have bl2_5:BL w5 w3.heap.size (yE kd3 ⟨tx3.toArray⟩ nm3 ps3 ao3 kids3.length cp3):=BL.grown (yS wg) hg om
  have hl2_5:=bl2_5.lt
  have zc2_5:=bl2_5.cell
  have bl3_5:BL w5 w4.heap.size (yE 8 ⟨#[]⟩ 0 0 none 0 0):=BL.grown (yN om) hg om
  have zc3_5:=bl3_5.cell
  clear bl0_4 bl1_4 bl2_4 p4 hg
  go_wp2
  refine bodyPost_ret (v:=.agg #[.int .i64 21,.string ⟨#[]⟩,.int .i64 0,.int .i64 (zp C.ts k).pos,.string ⟨#[]⟩,.int .i64 0,.slice (some ⟨w5.heap.size,0,none⟩) 3 3]) (by simp [results,Tryz.results113,go_sem, *]) rfl (yB (hi:=w5.heap.size+1) (s:=0) (k':=k3) (tx:=[]) (kids:=[.mk kd2 tx2 nm2 ps2 kids2,.mk kd3 tx3 nm3 ps3 kids3,.mk 8 [] 0 0 []]) (by rw [←zk HR];simp only [cu,ub,zk HQ2,zk HQ3,ef ce]) (jI (cur:=#[.int .i64 kd2,.string ⟨tx2.toArray⟩,.int .i64 nm2,.int .i64 ps2,.string ⟨#[]⟩,.int .i64 0,.slice ao2 kids2.length cp2,.int .i64 kd3,.string ⟨tx3.toArray⟩,.int .i64 nm3,.int .i64 ps3,.string ⟨#[]⟩,.int .i64 0,.slice ao3 kids3.length cp3,.int .i64 8,.string ⟨#[]⟩,.int .i64 0,.int .i64 0,.string ⟨#[]⟩,.int .i64 0,.slice none 0 0]) (yN sq) rfl rfl dc om om (Kids.snoc (Kids.snoc (Kids.one ((Nd.mk (kd:=kd2) (tx:=tx2) (nm:=nm2) (ps:=ps2) row2).ag (yQ (yr zu oz) sq)) om om (.inr om)) ((Nd.mk (kd:=kd3) (tx:=tx3) (nm:=nm3) (ps:=ps3) row3).ag (yQ (yr zu oz) sq)) om om (.inr om)) (Nd.mk (kd:=8) (tx:=[]) (nm:=0) (ps:=0) (zq.nil _ w.heap.size w.heap.size)) om om (.inr om))) sq ?_ ?_)
  ·exact zw (yv wg ok oz)
  ·exact yD (yw wg oz)
 go_wp2_with fail
 refine (yU C ok k3 h _ [101,108,115,101] (zw wg) ce).mono ?_
 rintro e w5 ⟨rfl,p5,hg⟩
 have G5:w.grownBy w5 (some C.b):=zl (yD wg) hg
 replace row2:=zq.ag row2 (Ag.grown (yQ zu om) hg sq om) lr lr
 replace row3:=zq.ag row3 (Ag.grown (yQ zu om) hg sq om) lr lr
 have bl0_5:BL w5 w.heap.size (yA):=BL.grown (yS wg) hg om
 have bl1_5:BL w5 w2.heap.size (yE kd2 ⟨tx2.toArray⟩ nm2 ps2 ao2 kids2.length cp2):=BL.grown (yS wg) hg om
 have hl1_5:=bl1_5.lt
 have bl2_5:BL w5 w3.heap.size (yE kd3 ⟨tx3.toArray⟩ nm3 ps3 ao3 kids3.length cp3):=BL.grown (yS wg) hg om
 have hl2_5:=bl2_5.lt
 have bl3_5:BL w5 w4.heap.size (yE 8 ⟨#[]⟩ 0 0 none 0 0):=BL.grown (yN om) hg om
 clear bl0_4 bl1_4 bl2_4 p4 hg
 by_cases ci:yb C.ts (k3+1) [[105,102]]=true
 rotate_left
 ·skip
  go_wp2_with fail
  refine qc w ok (k3+1) h (isL C ok (k3+1) h _ w5.heap.size [[105,102]] dc wg zK) wg wg fun w6 p6 hg _ G6=>?_
  replace row2:=zq.ag row2 (Ag.grown zu hg om om) lr lr
  replace row3:=zq.ag row3 (Ag.grown zu hg om om) lr lr
  have bl0_6:BL w6 w.heap.size (yA):=BL.grown wg hg om
  have hl0_6:=bl0_6.lt
  have bl1_6:BL w6 w2.heap.size (yE kd2 ⟨tx2.toArray⟩ nm2 ps2 ao2 kids2.length cp2):=BL.grown wg hg om
  have hl1_6:=bl1_6.lt
  have bl2_6:BL w6 w3.heap.size (yE kd3 ⟨tx3.toArray⟩ nm3 ps3 ao3 kids3.length cp3):=BL.grown wg hg om
  have hl2_6:=bl2_6.lt
  have bl3_6:BL w6 w4.heap.size (yE 8 ⟨#[]⟩ 0 0 none 0 0):=BL.grown wg hg om
  have hl3_6:=bl3_6.lt
  clear bl0_5 bl1_5 bl2_5 bl3_5 p5 hg
  go_wp2_with fail
  refine (ih.at.block h (k3+1) _ wg (fun hx=>zk HO ((zk HR).symm.trans (by simp only [cu,ub,zk HQ2,zk HQ3,et ce,ef ci,hx])))).mono ?_
  rintro e w7 hp
  rcases hp with ⟨kd7,tx7,nm7,ps7,kids7,s7,k7,ao7,cp7,hq,rfl,hrow,p7,hg⟩ | ⟨pb,rule,hq,rfl,hg⟩
  rotate_left
  (exact ⟨rfl,zs (by rw [←zk HR];simp only [cu,ub,zk HQ2,zk HQ3,et ce,ef ci,hq]) (zl wg hg)⟩)
  have G7:w.grownBy w7 (some C.b):=zl wg hg
  replace row2:=zq.ag row2 (Ag.grown zu hg om om) lr lr
  replace row3:=zq.ag row3 (Ag.grown zu hg om om) lr lr
  have bl0_7:BL w7 w.heap.size (yA):=BL.grown wg hg om
  have hl0_7:=bl0_7.lt
  have zc0_7:=bl0_7.cell
  have fz0_7:=bl0_7.frozen
  have bl1_7:BL w7 w2.heap.size (yE kd2 ⟨tx2.toArray⟩ nm2 ps2 ao2 kids2.length cp2):=BL.grown wg hg om
  have hl1_7:=bl1_7.lt
  have zc1_7:=bl1_7.cell
  have bl2_7:BL w7 w3.heap.size (yE kd3 ⟨tx3.toArray⟩ nm3 ps3 ao3 kids3.length cp3):=BL.grown wg hg om
  have hl2_7:=bl2_7.lt
  have zc2_7:=bl2_7.cell
  have bl3_7:BL w7 w4.heap.size (yE 8 ⟨#[]⟩ 0 0 none 0 0):=BL.grown wg hg om
  have zc3_7:=bl3_7.cell
  have fz3_7:=bl3_7.frozen
  clear bl0_6 bl1_6 bl2_6 bl3_6 p6
  obtain ⟨lo7,hlo7,row7⟩:=hrow.named
  (try simp at hlo7)
  have HQ7:=zm hq
  clear hrow hq hg
  go_wp2
  refine bodyPost_ret (v:=.agg #[.int .i64 21,.string ⟨#[]⟩,.int .i64 0,.int .i64 (zp C.ts k).pos,.string ⟨#[]⟩,.int .i64 0,.slice (some ⟨w7.heap.size,0,none⟩) 3 3]) (by simp [results,Tryz.results113,go_sem, *]) rfl (yB (hi:=w7.heap.size+1) (s:=0) (k':=k7) (tx:=[]) (kids:=[.mk kd2 tx2 nm2 ps2 kids2,.mk kd3 tx3 nm3 ps3 kids3,.mk kd7 tx7 nm7 ps7 kids7]) (by rw [←zk HR];simp only [cu,ub,zk HQ2,zk HQ3,et ce,ef ci,zk HQ7]) (jI (cur:=#[.int .i64 kd2,.string ⟨tx2.toArray⟩,.int .i64 nm2,.int .i64 ps2,.string ⟨#[]⟩,.int .i64 0,.slice ao2 kids2.length cp2,.int .i64 kd3,.string ⟨tx3.toArray⟩,.int .i64 nm3,.int .i64 ps3,.string ⟨#[]⟩,.int .i64 0,.slice ao3 kids3.length cp3,.int .i64 kd7,.string ⟨tx7.toArray⟩,.int .i64 nm7,.int .i64 ps7,.string ⟨#[]⟩,.int .i64 0,.slice ao7 kids7.length cp7]) (yN sq) rfl rfl dc om om (Kids.snoc (Kids.snoc (Kids.one ((Nd.mk (kd:=kd2) (tx:=tx2) (nm:=nm2) (ps:=ps2) row2).ag (yQ (yr (aw8 zu oz) oz) sq)) om om (.inr om)) ((Nd.mk (kd:=kd3) (tx:=tx3) (nm:=nm3) (ps:=ps3) row3).ag (yQ (yr (aw8 zu oz) oz) sq)) om om (.inr om)) ((Nd.mk (kd:=kd7) (tx:=tx7) (nm:=nm7) (ps:=ps7) row7).ag (yQ (yr (yr zu oz) oz) sq)) om om (.inr om))) sq ?_ ?_)
  ·exact zw (yv (yv wg ok oz) ok oz)
  ·exact yD (yw (yw wg oz) oz)
 go_wp2_with fail
 refine qc w ok (k3+1) h (isL C ok (k3+1) h _ w5.heap.size [[105,102]] dc wg zK) wg wg fun w6 p6 hg _ G6=>?_
 replace row2:=zq.ag row2 (Ag.grown zu hg om om) lr lr
 replace row3:=zq.ag row3 (Ag.grown zu hg om om) lr lr
 have bl0_6:BL w6 w.heap.size (yA):=BL.grown wg hg om
 have hl0_6:=bl0_6.lt
 have bl1_6:BL w6 w2.heap.size (yE kd2 ⟨tx2.toArray⟩ nm2 ps2 ao2 kids2.length cp2):=BL.grown wg hg om
 have hl1_6:=bl1_6.lt
 have bl2_6:BL w6 w3.heap.size (yE kd3 ⟨tx3.toArray⟩ nm3 ps3 ao3 kids3.length cp3):=BL.grown wg hg om
 have hl2_6:=bl2_6.lt
 have bl3_6:BL w6 w4.heap.size (yE 8 ⟨#[]⟩ 0 0 none 0 0):=BL.grown wg hg om
 have hl3_6:=bl3_6.lt
 clear bl0_5 bl1_5 bl2_5 bl3_5 p5 hg
 go_wp2_with fail
 refine (ih.at.ifStmt h (k3+1) _ wg (lu ci) (fun hx=>zk HO ((zk HR).symm.trans (by simp only [cu,ub,zk HQ2,zk HQ3,et ce,et ci,hx])))).mono ?_
 rintro e w7 hp
 rcases hp with ⟨kd7,tx7,nm7,ps7,kids7,s7,k7,ao7,cp7,hq,rfl,hrow,p7,hg⟩ | ⟨pb,rule,hq,rfl,hg⟩
 rotate_left
 (exact ⟨rfl,zs (by rw [←zk HR];simp only [cu,ub,zk HQ2,zk HQ3,et ce,et ci,hq]) (zl wg hg)⟩)
 have G7:w.grownBy w7 (some C.b):=zl wg hg
 replace row2:=zq.ag row2 (Ag.grown zu hg om om) lr lr
 replace row3:=zq.ag row3 (Ag.grown zu hg om om) lr lr
 have bl0_7:BL w7 w.heap.size (yA):=BL.grown wg hg om
 have hl0_7:=bl0_7.lt
 have zc0_7:=bl0_7.cell
 have fz0_7:=bl0_7.frozen
 have bl1_7:BL w7 w2.heap.size (yE kd2 ⟨tx2.toArray⟩ nm2 ps2 ao2 kids2.length cp2):=BL.grown wg hg om
 have hl1_7:=bl1_7.lt
 have zc1_7:=bl1_7.cell
 have bl2_7:BL w7 w3.heap.size (yE kd3 ⟨tx3.toArray⟩ nm3 ps3 ao3 kids3.length cp3):=BL.grown wg hg om
 have hl2_7:=bl2_7.lt
 have zc2_7:=bl2_7.cell
 have bl3_7:BL w7 w4.heap.size (yE 8 ⟨#[]⟩ 0 0 none 0 0):=BL.grown wg hg om
 have zc3_7:=bl3_7.cell
 have fz3_7:=bl3_7.frozen
 clear bl0_6 bl1_6 bl2_6 bl3_6 p6
 obtain ⟨lo7,hlo7,row7⟩:=hrow.named
 (try simp at hlo7)
 have HQ7:=zm hq
 clear hrow hq hg
 go_wp2
 refine bodyPost_ret (v:=.agg #[.int .i64 21,.string ⟨#[]⟩,.int .i64 0,.int .i64 (zp C.ts k).pos,.string ⟨#[]⟩,.int .i64 0,.slice (some ⟨w7.heap.size,0,none⟩) 3 3]) (by simp [results,Tryz.results113,go_sem, *]) rfl (yB (hi:=w7.heap.size+1) (s:=0) (k':=k7) (tx:=[]) (kids:=[.mk kd2 tx2 nm2 ps2 kids2,.mk kd3 tx3 nm3 ps3 kids3,.mk kd7 tx7 nm7 ps7 kids7]) (by rw [←zk HR];simp only [cu,ub,zk HQ2,zk HQ3,et ce,et ci,zk HQ7]) (jI (cur:=#[.int .i64 kd2,.string ⟨tx2.toArray⟩,.int .i64 nm2,.int .i64 ps2,.string ⟨#[]⟩,.int .i64 0,.slice ao2 kids2.length cp2,.int .i64 kd3,.string ⟨tx3.toArray⟩,.int .i64 nm3,.int .i64 ps3,.string ⟨#[]⟩,.int .i64 0,.slice ao3 kids3.length cp3,.int .i64 kd7,.string ⟨tx7.toArray⟩,.int .i64 nm7,.int .i64 ps7,.string ⟨#[]⟩,.int .i64 0,.slice ao7 kids7.length cp7]) (yN sq) rfl rfl dc om om (Kids.snoc (Kids.snoc (Kids.one ((Nd.mk (kd:=kd2) (tx:=tx2) (nm:=nm2) (ps:=ps2) row2).ag (yQ (yr (aw8 zu oz) oz) sq)) om om (.inr om)) ((Nd.mk (kd:=kd3) (tx:=tx3) (nm:=nm3) (ps:=ps3) row3).ag (yQ (yr (aw8 zu oz) oz) sq)) om om (.inr om)) ((Nd.mk (kd:=kd7) (tx:=tx7) (nm:=nm7) (ps:=ps7) row7).ag (yQ (yr (yr zu oz) oz) sq)) om om (.inr om))) sq ?_ ?_)
 ·exact zw (yv (yv wg ok oz) ok oz)
 ·exact yD (yw (yw wg oz) oz)
open Go.RowKit Lx Px
theorem builtinM_w (C:Ctx) (ok:C.Ok) (n:Nat) (ih:All C n):CNt C 162 (.builtin .makeArgs) #[.pointer (some ⟨C.b,0,none⟩),.func (.func 163) #[.pointer (some ⟨C.b,0,none⟩)] #[]] (n+1):=by
 intro h k w p h6 hout
 have hr:run C.ts (n+1) (.builtin .makeArgs) h k=aV C.ts (run C.ts n) .makeArgs h k:=rfl
 rw [hr] at hout ⊢
 clear hr
 generalize hR:aV C.ts (run C.ts n) .makeArgs h k=r0 at hout ⊢
 have H6:=zm h6
 clear h6
 have hbl:=p.lt
 have htb:=ok.lt
 have htf0:=dw
 have htf1:=dL
 have htf3:=bT
 have hmf:=ig
 have G0:=zo w (some C.b)
 have HR:=zm hR
 clear hR
 have HO:=zm hout
 clear hout
 go_enter Tryz.func162,Tryz.ntmps162
 go_wp2_with fail
 refine (yR C ok k h _ (zw wg) (zk H6)).mono ?_
 rintro e w1 ⟨rfl,p1,hg⟩
 have hz1:=hg.size
 (try simp at hz1)
 have G1:w.grownBy w1 (some C.b):=zl (yD wg) hg
 have bl0_1:BL w1 w.heap.size (yA):=BL.grown (yN om) hg om
 have hl0_1:=bl0_1.lt
 clear hg
 have ⟨⟨ne1,nf1⟩,⟨ne2,nf2⟩,⟨ne3,nf3⟩⟩:NN C.b w.heap.size∧NN C.b w1.heap.size∧NN w.heap.size w1.heap.size:=om
 by_cases c1:yb C.ts (k+1) [[40]]=true
 rotate_left
 ·skip
  go_wp2_with fail
  refine (yX C ok (k+1) h _ ⟨#[98,117,105,108,116,105,110]⟩ [40] (zw wg) (Bool.eq_false_iff.2 c1)).mono ?_
  rintro e w2 ⟨rfl,hgq⟩
  exact ⟨rfl,zs (by rw [←zk HR];simp only [aV,ub,ef c1]) (zl (yD wg) (zn hgq))⟩
 go_wp2_with fail
 refine (yJ C ok (k+1) h _ ⟨#[98,117,105,108,116,105,110]⟩ [40] (zw wg) c1).mono ?_
 rintro e w2 ⟨rfl,p2,hg⟩
 have hz2:=hg.size
 (try simp at hz2)
 have G2:w.grownBy w2 (some C.b):=zl (yD wg) hg
 have bl0_2:BL w2 w.heap.size (yA):=BL.grown (yS wg) hg om
 have hl0_2:=bl0_2.lt
 have bl1_2:BL w2 w1.heap.size (.cells #[.int .i64 (zp C.ts k).kind,.string ⟨(zp C.ts k).text.toArray⟩,.int .i64 (zp C.ts k).num,.int .i64 (zp C.ts k).pos] 85):=BL.grown (yN om) hg om
 have hl1_2:=bl1_2.lt
 have zc1_2:=bl1_2.cell
 clear bl0_1 p1 hg
 have ⟨⟨ne4,nf4⟩,⟨ne5,nf5⟩,⟨ne6,nf6⟩⟩:NN C.b w2.heap.size∧NN w.heap.size w2.heap.size∧NN w1.heap.size w2.heap.size:=om
 go_wp2
 go_region_held2 (fun w'=>w'.cell? ⟨w1.heap.size,1,none⟩=some (.string ⟨(zp C.ts k).text.toArray⟩)∧w'.cell? ⟨w1.heap.size,3,none⟩=some (.int .i64 (zp C.ts k).pos)) (go_keep) (first | (go_at_call 137;(refine (ou C ok 163 #[.pointer (some ⟨C.b,0,none⟩)] #[] en119 (run C.ts n .makeArgs false (k+1+1)) false h (k+1+1) _ (pw1 wg) (fun w0 _ q0=>ih.at.makeArgs false (k+1+1) w0 q0 (fun hx=>zk HO ((zk HR).symm.trans (by simp only [aV,ub,et c1,hx]))))).mono ?_;rintro e w3 hp;rcases hp with ⟨l3,s3,k3,ao3,cp3,hq,rfl,hrow,p3,hg⟩ | ⟨pb,rule,hq,rfl,hg⟩;rotate_left;(exact ⟨rfl,zs (by rw [←zk HR];simp only [aV,ub,et c1,hq]) (zl (gw1 wg) hg)⟩);have hz3:=hg.size;(try simp at hz3);have G3:w.grownBy w3 (some C.b):=zl (gw1 wg) hg;have bl0_3:BL w3 w.heap.size (yA):=BL.grown (bw1 wg) hg om;have hl0_3:=bl0_3.lt;have zc0_3:=bl0_3.cell;have fz0_3:=bl0_3.frozen;have bl1_3:BL w3 w1.heap.size (.cells #[.int .i64 (zp C.ts k).kind,.string ⟨(zp C.ts k).text.toArray⟩,.int .i64 (zp C.ts k).num,.int .i64 (zp C.ts k).pos] 85):=BL.grown (bw1 wg) hg om;have hl1_3:=bl1_3.lt;have zc1_3:=bl1_3.cell;have fz1_3:=bl1_3.frozen;clear bl0_2;clear bl1_2 zc1_2;clear p2;obtain ⟨lo3,hlo3,row3⟩:=hrow.named;(try simp at hlo3);have HQ3:=zm hq;clear hrow hq;clear hg;have ne7:¬C.b=w3.heap.size:=om;have nf7:¬w3.heap.size=C.b:=om;have ne8:¬w.heap.size=w3.heap.size:=om;have nf8:¬w3.heap.size=w.heap.size:=om;have ne9:¬w1.heap.size=w3.heap.size:=om;have nf9:¬w3.heap.size=w1.heap.size:=om)))
 go_wp2
 refine bodyPost_ret (v:=.agg #[.int .i64 44,.string ⟨(zp C.ts k).text.toArray⟩,.int .i64 0,.int .i64 (zp C.ts k).pos,.string ⟨#[]⟩,.int .i64 0,.slice ao3 l3.length cp3]) (by simp [results,Tryz.results162,go_sem, *]) rfl (yB (hi:=w3.heap.size) (s:=0) (k':=k3) (tx:=(zp C.ts k).text) (kids:=l3) (by rw [←zk HR];simp only [aV,ub,et c1,zk HQ3]) (row3.ag (yr zu oz) om lr) sq ?_ ?_)
 ·exact yv wg ok oz
 ·exact yw wg oz
theorem builtinN_w (C:Ctx) (ok:C.Ok) (n:Nat) (ih:All C n):CNt C 162 (.builtin .newArgs) #[.pointer (some ⟨C.b,0,none⟩),.func (.func 164) #[.pointer (some ⟨C.b,0,none⟩)] #[]] (n+1):=by
 intro h k w p h6 hout
 have hr:run C.ts (n+1) (.builtin .newArgs) h k=aV C.ts (run C.ts n) .newArgs h k:=rfl
 rw [hr] at hout ⊢
 clear hr
 generalize hR:aV C.ts (run C.ts n) .newArgs h k=r0 at hout ⊢
 have H6:=zm h6
 clear h6
 have hbl:=p.lt
 have htb:=ok.lt
 have htf0:=dw
 have htf1:=dL
 have htf3:=bT
 have hmf:=ig
 have G0:=zo w (some C.b)
 have HR:=zm hR
 clear hR
 have HO:=zm hout
 clear hout
 go_enter Tryz.func162,Tryz.ntmps162
 go_wp2_with fail
 refine (yR C ok k h _ (zw wg) (zk H6)).mono ?_
 rintro e w1 ⟨rfl,p1,hg⟩
 have hz1:=hg.size
 (try simp at hz1)
 have G1:w.grownBy w1 (some C.b):=zl (yD wg) hg
 have bl0_1:BL w1 w.heap.size (yA):=BL.grown (yN om) hg om
 have hl0_1:=bl0_1.lt
 clear hg
 have ⟨⟨ne1,nf1⟩,⟨ne2,nf2⟩,⟨ne3,nf3⟩⟩:NN C.b w.heap.size∧NN C.b w1.heap.size∧NN w.heap.size w1.heap.size:=om
 by_cases c1:yb C.ts (k+1) [[40]]=true
 rotate_left
 ·skip
  go_wp2_with fail
  refine (yX C ok (k+1) h _ ⟨#[98,117,105,108,116,105,110]⟩ [40] (zw wg) (Bool.eq_false_iff.2 c1)).mono ?_
  rintro e w2 ⟨rfl,hgq⟩
  exact ⟨rfl,zs (by rw [←zk HR];simp only [aV,ub,ef c1]) (zl (yD wg) (zn hgq))⟩
 go_wp2_with fail
 refine (yJ C ok (k+1) h _ ⟨#[98,117,105,108,116,105,110]⟩ [40] (zw wg) c1).mono ?_
 rintro e w2 ⟨rfl,p2,hg⟩
 have hz2:=hg.size
 (try simp at hz2)
 have G2:w.grownBy w2 (some C.b):=zl (yD wg) hg
 have bl0_2:BL w2 w.heap.size (yA):=BL.grown (yS wg) hg om
 have hl0_2:=bl0_2.lt
 have bl1_2:BL w2 w1.heap.size (.cells #[.int .i64 (zp C.ts k).kind,.string ⟨(zp C.ts k).text.toArray⟩,.int .i64 (zp C.ts k).num,.int .i64 (zp C.ts k).pos] 85):=BL.grown (yN om) hg om
 have hl1_2:=bl1_2.lt
 have zc1_2:=bl1_2.cell
 clear bl0_1 p1 hg
 have ⟨⟨ne4,nf4⟩,⟨ne5,nf5⟩,⟨ne6,nf6⟩⟩:NN C.b w2.heap.size∧NN w.heap.size w2.heap.size∧NN w1.heap.size w2.heap.size:=om
 go_wp2
 go_region_held2 (fun w'=>w'.cell? ⟨w1.heap.size,1,none⟩=some (.string ⟨(zp C.ts k).text.toArray⟩)∧w'.cell? ⟨w1.heap.size,3,none⟩=some (.int .i64 (zp C.ts k).pos)) (go_keep) (first | (go_at_call 137;(refine (ou C ok 164 #[.pointer (some ⟨C.b,0,none⟩)] #[] en120 (run C.ts n .newArgs false (k+1+1)) false h (k+1+1) _ (pw1 wg) (fun w0 _ q0=>ih.at.newArgs false (k+1+1) w0 q0 (fun hx=>zk HO ((zk HR).symm.trans (by simp only [aV,ub,et c1,hx]))))).mono ?_;rintro e w3 hp;rcases hp with ⟨l3,s3,k3,ao3,cp3,hq,rfl,hrow,p3,hg⟩ | ⟨pb,rule,hq,rfl,hg⟩;rotate_left;(exact ⟨rfl,zs (by rw [←zk HR];simp only [aV,ub,et c1,hq]) (zl (gw1 wg) hg)⟩);have hz3:=hg.size;(try simp at hz3);have G3:w.grownBy w3 (some C.b):=zl (gw1 wg) hg;have bl0_3:BL w3 w.heap.size (yA):=BL.grown (bw1 wg) hg om;have hl0_3:=bl0_3.lt;have zc0_3:=bl0_3.cell;have fz0_3:=bl0_3.frozen;have bl1_3:BL w3 w1.heap.size (.cells #[.int .i64 (zp C.ts k).kind,.string ⟨(zp C.ts k).text.toArray⟩,.int .i64 (zp C.ts k).num,.int .i64 (zp C.ts k).pos] 85):=BL.grown (bw1 wg) hg om;have hl1_3:=bl1_3.lt;have zc1_3:=bl1_3.cell;have fz1_3:=bl1_3.frozen;clear bl0_2;clear bl1_2 zc1_2;clear p2;obtain ⟨lo3,hlo3,row3⟩:=hrow.named;(try simp at hlo3);have HQ3:=zm hq;clear hrow hq;clear hg;have ne7:¬C.b=w3.heap.size:=om;have nf7:¬w3.heap.size=C.b:=om;have ne8:¬w.heap.size=w3.heap.size:=om;have nf8:¬w3.heap.size=w.heap.size:=om;have ne9:¬w1.heap.size=w3.heap.size:=om;have nf9:¬w3.heap.size=w1.heap.size:=om)))
 go_wp2
 refine bodyPost_ret (v:=.agg #[.int .i64 44,.string ⟨(zp C.ts k).text.toArray⟩,.int .i64 0,.int .i64 (zp C.ts k).pos,.string ⟨#[]⟩,.int .i64 0,.slice ao3 l3.length cp3]) (by simp [results,Tryz.results162,go_sem, *]) rfl (yB (hi:=w3.heap.size) (s:=0) (k':=k3) (tx:=(zp C.ts k).text) (kids:=l3) (by rw [←zk HR];simp only [aV,ub,et c1,zk HQ3]) (row3.ag (yr zu oz) om lr) sq ?_ ?_)
 ·exact yv wg ok oz
 ·exact yw wg oz
theorem builtinA_w (C:Ctx) (ok:C.Ok) (n:Nat) (ih:All C n):CNt C 162 (.builtin .args) #[.pointer (some ⟨C.b,0,none⟩),.func (.func 143) #[.pointer (some ⟨C.b,0,none⟩)] #[]] (n+1):=by
 intro h k w p h6 hout
 have hr:run C.ts (n+1) (.builtin .args) h k=aV C.ts (run C.ts n) .args h k:=rfl
 rw [hr] at hout ⊢
 clear hr
 generalize hR:aV C.ts (run C.ts n) .args h k=r0 at hout ⊢
 have H6:=zm h6
 clear h6
 have hbl:=p.lt
 have htb:=ok.lt
 have htf0:=dw
 have htf1:=dL
 have htf3:=bT
 have hmf:=ig
 have G0:=zo w (some C.b)
 have HR:=zm hR
 clear hR
 have HO:=zm hout
 clear hout
 go_enter Tryz.func162,Tryz.ntmps162
 go_wp2_with fail
 refine (yR C ok k h _ (zw wg) (zk H6)).mono ?_
 rintro e w1 ⟨rfl,p1,hg⟩
 have hz1:=hg.size
 (try simp at hz1)
 have G1:w.grownBy w1 (some C.b):=zl (yD wg) hg
 have bl0_1:BL w1 w.heap.size (yA):=BL.grown (yN om) hg om
 have hl0_1:=bl0_1.lt
 clear hg
 have ⟨⟨ne1,nf1⟩,⟨ne2,nf2⟩,⟨ne3,nf3⟩⟩:NN C.b w.heap.size∧NN C.b w1.heap.size∧NN w.heap.size w1.heap.size:=om
 by_cases c1:yb C.ts (k+1) [[40]]=true
 rotate_left
 ·skip
  go_wp2_with fail
  refine (yX C ok (k+1) h _ ⟨#[98,117,105,108,116,105,110]⟩ [40] (zw wg) (Bool.eq_false_iff.2 c1)).mono ?_
  rintro e w2 ⟨rfl,hgq⟩
  exact ⟨rfl,zs (by rw [←zk HR];simp only [aV,ub,ef c1]) (zl (yD wg) (zn hgq))⟩
 go_wp2_with fail
 refine (yJ C ok (k+1) h _ ⟨#[98,117,105,108,116,105,110]⟩ [40] (zw wg) c1).mono ?_
 rintro e w2 ⟨rfl,p2,hg⟩
 have hz2:=hg.size
 (try simp at hz2)
 have G2:w.grownBy w2 (some C.b):=zl (yD wg) hg
 have bl0_2:BL w2 w.heap.size (yA):=BL.grown (yS wg) hg om
 have hl0_2:=bl0_2.lt
 have bl1_2:BL w2 w1.heap.size (.cells #[.int .i64 (zp C.ts k).kind,.string ⟨(zp C.ts k).text.toArray⟩,.int .i64 (zp C.ts k).num,.int .i64 (zp C.ts k).pos] 85):=BL.grown (yN om) hg om
 have hl1_2:=bl1_2.lt
 have zc1_2:=bl1_2.cell
 clear bl0_1 p1 hg
 have ⟨⟨ne4,nf4⟩,⟨ne5,nf5⟩,⟨ne6,nf6⟩⟩:NN C.b w2.heap.size∧NN w.heap.size w2.heap.size∧NN w1.heap.size w2.heap.size:=om
 go_wp2
 go_region_held2 (fun w'=>w'.cell? ⟨w1.heap.size,1,none⟩=some (.string ⟨(zp C.ts k).text.toArray⟩)∧w'.cell? ⟨w1.heap.size,3,none⟩=some (.int .i64 (zp C.ts k).pos)) (go_keep) (first | (go_at_call 137;(refine (ou C ok 143 #[.pointer (some ⟨C.b,0,none⟩)] #[] en108 (run C.ts n .args false (k+1+1)) false h (k+1+1) _ (pw1 wg) (fun w0 _ q0=>ih.at.args false (k+1+1) w0 q0 (fun hx=>zk HO ((zk HR).symm.trans (by simp only [aV,ub,et c1,hx]))))).mono ?_;rintro e w3 hp;rcases hp with ⟨l3,s3,k3,ao3,cp3,hq,rfl,hrow,p3,hg⟩ | ⟨pb,rule,hq,rfl,hg⟩;rotate_left;(exact ⟨rfl,zs (by rw [←zk HR];simp only [aV,ub,et c1,hq]) (zl (gw1 wg) hg)⟩);have hz3:=hg.size;(try simp at hz3);have G3:w.grownBy w3 (some C.b):=zl (gw1 wg) hg;have bl0_3:BL w3 w.heap.size (yA):=BL.grown (bw1 wg) hg om;have hl0_3:=bl0_3.lt;have zc0_3:=bl0_3.cell;have fz0_3:=bl0_3.frozen;have bl1_3:BL w3 w1.heap.size (.cells #[.int .i64 (zp C.ts k).kind,.string ⟨(zp C.ts k).text.toArray⟩,.int .i64 (zp C.ts k).num,.int .i64 (zp C.ts k).pos] 85):=BL.grown (bw1 wg) hg om;have hl1_3:=bl1_3.lt;have zc1_3:=bl1_3.cell;have fz1_3:=bl1_3.frozen;clear bl0_2;clear bl1_2 zc1_2;clear p2;obtain ⟨lo3,hlo3,row3⟩:=hrow.named;(try simp at hlo3);have HQ3:=zm hq;clear hrow hq;clear hg;have ne7:¬C.b=w3.heap.size:=om;have nf7:¬w3.heap.size=C.b:=om;have ne8:¬w.heap.size=w3.heap.size:=om;have nf8:¬w3.heap.size=w.heap.size:=om;have ne9:¬w1.heap.size=w3.heap.size:=om;have nf9:¬w3.heap.size=w1.heap.size:=om)))
 go_wp2
 refine bodyPost_ret (v:=.agg #[.int .i64 44,.string ⟨(zp C.ts k).text.toArray⟩,.int .i64 0,.int .i64 (zp C.ts k).pos,.string ⟨#[]⟩,.int .i64 0,.slice ao3 l3.length cp3]) (by simp [results,Tryz.results162,go_sem, *]) rfl (yB (hi:=w3.heap.size) (s:=0) (k':=k3) (tx:=(zp C.ts k).text) (kids:=l3) (by rw [←zk HR];simp only [aV,ub,et c1,zk HQ3]) (row3.ag (yr zu oz) om lr) sq ?_ ?_)
 ·exact yv wg ok oz
 ·exact yw wg oz
theorem operand_w (C:Ctx) (ok:C.Ok) (n:Nat) (ih:All C n):CS C 142 .operand #[.pointer (some ⟨C.b,0,none⟩)] (n+1):=by
 intro h k w p hout
 have hr:run C.ts (n+1) .operand h k=bf C.ts (run C.ts n) h k:=rfl
 rw [hr] at hout ⊢
 clear hr
 generalize hR:bf C.ts (run C.ts n) h k=r0 at hout ⊢
 have hbl:=p.lt
 have G0:=zo w (some C.b)
 have HR:=zm hR
 clear hR
 have HO:=zm hout
 clear hout
 by_cases e2:(zp C.ts k).kind=2
 ·skip
  have b2:((zp C.ts k).kind==2)=true:=by simp [e2]
  have h6:Hid ((zp C.ts k).kind≠6):=by show (zp C.ts k).kind≠6;omega
  have E2:=zm e2
  clear e2
  go_enter Tryz.func142,Tryz.ntmps142
  go_wp2_with fail
  refine qc w ok k h (zy C ok k h _ (zw wg)) (zw wg) (yD wg) fun w1 p1 hg hz1 G1=>?_
  (try simp at hz1)
  have bl0_1:BL w1 w.heap.size (yA):=BL.grown (yN om) hg om
  clear hg
  have ⟨nf1,nf2⟩:¬w.heap.size=C.b∧¬w1.heap.size=C.b:=om
  go_wp2_with fail
  refine (yR C ok k h _ (zw wg) (zk h6)).mono ?_
  rintro e w2 ⟨rfl,p2,hg⟩
  have G2:w.grownBy w2 (some C.b):=zl (yD wg) hg
  have bl0_2:BL w2 w.heap.size (yA):=BL.grown (yS wg) hg om
  have zc0_2:=bl0_2.cell
  have fz0_2:=bl0_2.frozen
  have bl1_2:BL w2 w1.heap.size (.cells #[.int .i64 (zp C.ts k).kind,.string ⟨(zp C.ts k).text.toArray⟩,.int .i64 (zp C.ts k).num,.int .i64 (zp C.ts k).pos] 85):=BL.grown (yN om) hg om
  have zc1_2:=bl1_2.cell
  clear bl0_1 p1 hg
  go_wp2
  refine bodyPost_ret (v:=.tuple #[.agg #[.int .i64 36,.string ⟨#[]⟩,.int .i64 (zp C.ts k).num,.int .i64 (zp C.ts k).pos,.string ⟨#[]⟩,.int .i64 0,.slice none 0 0],.int .i64 2]) zj rfl (yd (hi:=w2.heap.size) (s:=2) (k':=k+1) (tx:=[]) (kids:=[]) (by rw [←zk HR];simp only [bf,ub,et (zk E2)]) (zq.nil _ _ _) sq ?_ ?_)
  ·exact yv wg ok oz
  ·exact yw wg oz
 by_cases e3:(zp C.ts k).kind=3
 ·skip
  have b2:((zp C.ts k).kind==2)=false:=by simp [e3]
  have b3:((zp C.ts k).kind==3)=true:=by simp [e3]
  have h6:Hid ((zp C.ts k).kind≠6):=by show (zp C.ts k).kind≠6;omega
  have E3:=zm e3
  clear e3
  go_enter Tryz.func142,Tryz.ntmps142
  go_wp2_with fail
  refine qc w ok k h (zy C ok k h _ (zw wg)) (zw wg) (yD wg) fun w1 p1 hg hz1 G1=>?_
  (try simp at hz1)
  have bl0_1:BL w1 w.heap.size (yA):=BL.grown (yN om) hg om
  clear hg
  have ⟨nf1,nf2⟩:¬w.heap.size=C.b∧¬w1.heap.size=C.b:=om
  go_wp2_with fail
  refine (yR C ok k h _ (zw wg) (zk h6)).mono ?_
  rintro e w2 ⟨rfl,p2,hg⟩
  have G2:w.grownBy w2 (some C.b):=zl (yD wg) hg
  have bl0_2:BL w2 w.heap.size (yA):=BL.grown (yS wg) hg om
  have zc0_2:=bl0_2.cell
  have fz0_2:=bl0_2.frozen
  have bl1_2:BL w2 w1.heap.size (.cells #[.int .i64 (zp C.ts k).kind,.string ⟨(zp C.ts k).text.toArray⟩,.int .i64 (zp C.ts k).num,.int .i64 (zp C.ts k).pos] 85):=BL.grown (yN om) hg om
  have zc1_2:=bl1_2.cell
  clear bl0_1 p1 hg
  go_wp2
  refine bodyPost_ret (v:=.tuple #[.agg #[.int .i64 37,.string ⟨(zp C.ts k).text.toArray⟩,.int .i64 0,.int .i64 (zp C.ts k).pos,.string ⟨#[]⟩,.int .i64 0,.slice none 0 0],.int .i64 2]) zj rfl (yd (hi:=w2.heap.size) (s:=2) (k':=k+1) (tx:=(zp C.ts k).text) (kids:=[]) (by rw [←zk HR];simp only [bf,ub,ef e2,et (zk E3)]) (zq.nil _ _ _) sq ?_ ?_)
  ·exact yv wg ok oz
  ·exact yw wg oz
 by_cases e1:(zp C.ts k).kind=1
 ·skip
  have b2:((zp C.ts k).kind==2)=false:=by simp [e1]
  have b3:((zp C.ts k).kind==3)=false:=by simp [e1]
  have b1:((zp C.ts k).kind==1)=true:=by simp [e1]
  have h6:Hid ((zp C.ts k).kind≠6):=by show (zp C.ts k).kind≠6;omega
  have E1:=zm e1
  clear e1
  go_enter Tryz.func142,Tryz.ntmps142
  go_wp2_with fail
  refine qc w ok k h (zy C ok k h _ (zw wg)) (zw wg) (yD wg) fun w1 p1 hg hz1 G1=>?_
  (try simp at hz1)
  have bl0_1:BL w1 w.heap.size (yA):=BL.grown (yN om) hg om
  clear hg
  have ⟨nf1,nf2⟩:¬w.heap.size=C.b∧¬w1.heap.size=C.b:=om
  go_wp2_with fail
  refine (yR C ok k h _ (zw wg) (zk h6)).mono ?_
  rintro e w2 ⟨rfl,p2,hg⟩
  have G2:w.grownBy w2 (some C.b):=zl (yD wg) hg
  have bl0_2:BL w2 w.heap.size (yA):=BL.grown (yS wg) hg om
  have zc0_2:=bl0_2.cell
  have fz0_2:=bl0_2.frozen
  have bl1_2:BL w2 w1.heap.size (.cells #[.int .i64 (zp C.ts k).kind,.string ⟨(zp C.ts k).text.toArray⟩,.int .i64 (zp C.ts k).num,.int .i64 (zp C.ts k).pos] 85):=BL.grown (yN om) hg om
  have zc1_2:=bl1_2.cell
  clear bl0_1 p1 hg
  go_wp2
  refine bodyPost_ret (v:=.tuple #[.agg #[.int .i64 40,.string ⟨(zp C.ts k).text.toArray⟩,.int .i64 0,.int .i64 (zp C.ts k).pos,.string ⟨#[]⟩,.int .i64 0,.slice none 0 0],.int .i64 3]) zj rfl (yd (hi:=w2.heap.size) (s:=3) (k':=k+1) (tx:=(zp C.ts k).text) (kids:=[]) (by rw [←zk HR];simp only [bf,ub,ef e2,ef e3,et (zk E1)]) (zq.nil _ _ _) sq ?_ ?_)
  ·exact yv wg ok oz
  ·exact yw wg oz
 by_cases e4:(zp C.ts k).kind=4
 ·skip
  have b2:((zp C.ts k).kind==2)=false:=by simp [e4]
  have b3:((zp C.ts k).kind==3)=false:=by simp [e4]
  have b1:((zp C.ts k).kind==1)=false:=by simp [e4]
  have b4:((zp C.ts k).kind==4)=true:=by simp [e4]
  have h6:Hid ((zp C.ts k).kind≠6):=by show (zp C.ts k).kind≠6;omega
  have E4:=zm e4
  clear e4
  go_enter Tryz.func142,Tryz.ntmps142
  go_wp2_with fail
  refine qc w ok k h (zy C ok k h _ (zw wg)) (zw wg) (yD wg) fun w1 p1 hg hz1 G1=>?_
  (try simp at hz1)
  have bl0_1:BL w1 w.heap.size (yA):=BL.grown (yN om) hg om
  clear hg
  have nf1:¬w.heap.size=C.b:=om
  go_wp2_with fail
  refine (ih.at.wordOperand h k _ (zw wg) (zk h6) (fun hx=>zk HO ((zk HR).symm.trans (by simp only [bf,ub,ef e2,ef e3,ef e1,et (zk E4),hx])))).mono ?_
  rintro e w2 hp
  rcases hp with ⟨kd2,tx2,nm2,ps2,kids2,s2,k2,ao2,cp2,hq,rfl,hrow,p2,hg⟩ | ⟨pb,rule,hq,rfl,hg⟩
  rotate_left
  (exact ⟨rfl,yj (by rw [←zk HR];simp only [bf,ub,ef e2,ef e3,ef e1,et (zk E4),hq]) (zl (yD wg) hg)⟩)
  have G2:w.grownBy w2 (some C.b):=zl (yD wg) hg
  have bl0_2:BL w2 w.heap.size (yA):=BL.grown (yS wg) hg om
  have zc0_2:=bl0_2.cell
  have fz0_2:=bl0_2.frozen
  clear bl0_1 p1
  obtain ⟨lo2,hlo2,row2⟩:=hrow.named
  (try simp at hlo2)
  have HQ2:=zm hq
  clear hrow hq hg
  go_wp2
  refine bodyPost_ret (v:=.tuple #[.agg #[.int .i64 kd2,.string ⟨tx2.toArray⟩,.int .i64 nm2,.int .i64 ps2,.string ⟨#[]⟩,.int .i64 0,.slice ao2 kids2.length cp2],.int .i64 s2]) zj rfl (yd (hi:=w2.heap.size) (s:=s2) (k':=k2) (tx:=tx2) (kids:=kids2) (by rw [←zk HR];simp only [bf,ub,ef e2,ef e3,ef e1,et (zk E4),zk HQ2]) (row2.ag (yr zu oz) om lr) sq ?_ ?_)
  ·exact yv wg ok oz
  ·exact yw wg oz
 have b2:((zp C.ts k).kind==2)=false:=by simp [e2]
 have b3:((zp C.ts k).kind==3)=false:=by simp [e3]
 have b1:((zp C.ts k).kind==1)=false:=by simp [e1]
 have b4:((zp C.ts k).kind==4)=false:=by simp [e4]
 go_enter Tryz.func142,Tryz.ntmps142
 go_wp2_with fail
 refine qc w ok k h (zy C ok k h _ (zw wg)) (zw wg) (yD wg) fun w1 p1 hg hz1 G1=>?_
 (try simp at hz1)
 have bl0_1:BL w1 w.heap.size (yA):=BL.grown (yN om) hg om
 clear hg
 have nf1:¬w.heap.size=C.b:=om
 go_wp2_with fail
 refine (ih.at.markOperand h k _ (zw wg) (fun hx=>zk HO ((zk HR).symm.trans (by simp only [bf,ub,ef e2,ef e3,ef e1,ef e4,hx])))).mono ?_
 rintro e w2 hp
 rcases hp with ⟨kd2,tx2,nm2,ps2,kids2,s2,k2,ao2,cp2,hq,rfl,hrow,p2,hg⟩ | ⟨pb,rule,hq,rfl,hg⟩
 rotate_left
 (exact ⟨rfl,yj (by rw [←zk HR];simp only [bf,ub,ef e2,ef e3,ef e1,ef e4,hq]) (zl (yD wg) hg)⟩)
 have G2:w.grownBy w2 (some C.b):=zl (yD wg) hg
 have bl0_2:BL w2 w.heap.size (yA):=BL.grown (yS wg) hg om
 have zc0_2:=bl0_2.cell
 have fz0_2:=bl0_2.frozen
 clear bl0_1 p1
 obtain ⟨lo2,hlo2,row2⟩:=hrow.named
 (try simp at hlo2)
 have HQ2:=zm hq
 clear hrow hq hg
 go_wp2
 refine bodyPost_ret (v:=.tuple #[.agg #[.int .i64 kd2,.string ⟨tx2.toArray⟩,.int .i64 nm2,.int .i64 ps2,.string ⟨#[]⟩,.int .i64 0,.slice ao2 kids2.length cp2],.int .i64 2]) zj rfl (yd (hi:=w2.heap.size) (s:=2) (k':=k2) (tx:=tx2) (kids:=kids2) (by rw [←zk HR];simp only [bf,ub,ef e2,ef e3,ef e1,ef e4,zk HQ2]) (row2.ag (yr zu oz) om lr) sq ?_ ?_)
 ·exact yv wg ok oz
 ·exact yw wg oz
theorem sG (C:Ctx) (ok:C.Ok) (n:Nat) (ih:All C n):CSt C 154 .wordOperand #[.pointer (some ⟨C.b,0,none⟩)] (n+1):=by
 intro h k w p h6 hout
 have hr:run C.ts (n+1) .wordOperand h k=yC C.ts (run C.ts n) h k:=rfl
 rw [hr] at hout ⊢
 clear hr
 generalize hR:yC C.ts (run C.ts n) h k=r0 at hout ⊢
 have H6:=zm h6
 clear h6
 have hbl:=p.lt
 have htb:=ok.lt
 have htf0:=dw
 have htf1:=dL
 have htf3:=bT
 have hmf:=ig
 have G0:=zo w (some C.b)
 have HR:=zm hR
 clear hR
 have HO:=zm hout
 clear hout
 by_cases etrue:(zp C.ts k).text=[116,114,117,101]
 ·skip
  have betrue:((zp C.ts k).text==[116,114,117,101])=true:=by simp [etrue]
  have Etrue:=zm etrue
  clear etrue
  go_enter Tryz.func154,Tryz.ntmps154
  go_wp2_with fail
  refine qc w ok k h (zy C ok k h _ (zw wg)) (zw wg) (yD wg) fun w1 p1 hg hz1 G1=>?_
  (try simp at hz1)
  have bl0_1:BL w1 w.heap.size (yA):=BL.grown (yN om) hg om
  have hl0_1:=bl0_1.lt
  clear hg
  have ⟨⟨ne1,nf1⟩,⟨ne2,nf2⟩,⟨ne3,nf3⟩⟩:NN C.b w.heap.size∧NN C.b w1.heap.size∧NN w.heap.size w1.heap.size:=om
  go_wp2_with fail
  refine (yR C ok k h _ (zw wg) (zk H6)).mono ?_
  rintro e w2 ⟨rfl,p2,hg⟩
  have hz2:=hg.size
  (try simp at hz2)
  have G2:w.grownBy w2 (some C.b):=zl (yD wg) hg
  have bl0_2:BL w2 w.heap.size (yA):=BL.grown (yS wg) hg om
  have hl0_2:=bl0_2.lt
  have zc0_2:=bl0_2.cell
  have fz0_2:=bl0_2.frozen
  have bl1_2:BL w2 w1.heap.size (.cells #[.int .i64 (zp C.ts k).kind,.string ⟨(zp C.ts k).text.toArray⟩,.int .i64 (zp C.ts k).num,.int .i64 (zp C.ts k).pos] 85):=BL.grown (yN om) hg om
  have hl1_2:=bl1_2.lt
  have zc1_2:=bl1_2.cell
  clear bl0_1 p1 hg
  have ⟨⟨ne4,nf4⟩,⟨ne5,nf5⟩,⟨ne6,nf6⟩⟩:NN C.b w2.heap.size∧NN w.heap.size w2.heap.size∧NN w1.heap.size w2.heap.size:=om
  go_wp2
  refine bodyPost_ret (v:=.tuple #[.agg #[.int .i64 38,.string ⟨(zp C.ts k).text.toArray⟩,.int .i64 0,.int .i64 (zp C.ts k).pos,.string ⟨#[]⟩,.int .i64 0,.slice none 0 0],.int .i64 2]) zP rfl (yd (hi:=w2.heap.size) (s:=2) (k':=k+1) (tx:=(zp C.ts k).text) (kids:=[]) (by rw [←zk HR];simp only [yC,ub,et (zk Etrue),h2a (a:=[116,114,117,101]) (b:=[102,97,108,115,101]) (zk Etrue)]) (zq.nil _ _ _) sq ?_ ?_)
  ·exact yv wg ok oz
  ·exact yw wg oz
 by_cases efalse:(zp C.ts k).text=[102,97,108,115,101]
 ·skip
  have betrue:((zp C.ts k).text==[116,114,117,101])=false:=beq_eq_false_iff_ne.2 etrue
  have befalse:((zp C.ts k).text==[102,97,108,115,101])=true:=by simp [efalse]
  have Efalse:=zm efalse
  clear efalse
  go_enter Tryz.func154,Tryz.ntmps154
  go_wp2_with fail
  refine qc w ok k h (zy C ok k h _ (zw wg)) (zw wg) (yD wg) fun w1 p1 hg hz1 G1=>?_
  (try simp at hz1)
  have bl0_1:BL w1 w.heap.size (yA):=BL.grown (yN om) hg om
  have hl0_1:=bl0_1.lt
  clear hg
  have ⟨⟨ne1,nf1⟩,⟨ne2,nf2⟩,⟨ne3,nf3⟩⟩:NN C.b w.heap.size∧NN C.b w1.heap.size∧NN w.heap.size w1.heap.size:=om
  go_wp2_with fail
  refine (yR C ok k h _ (zw wg) (zk H6)).mono ?_
  rintro e w2 ⟨rfl,p2,hg⟩
  have hz2:=hg.size
  (try simp at hz2)
  have G2:w.grownBy w2 (some C.b):=zl (yD wg) hg
  have bl0_2:BL w2 w.heap.size (yA):=BL.grown (yS wg) hg om
  have hl0_2:=bl0_2.lt
  have zc0_2:=bl0_2.cell
  have fz0_2:=bl0_2.frozen
  have bl1_2:BL w2 w1.heap.size (.cells #[.int .i64 (zp C.ts k).kind,.string ⟨(zp C.ts k).text.toArray⟩,.int .i64 (zp C.ts k).num,.int .i64 (zp C.ts k).pos] 85):=BL.grown (yN om) hg om
  have hl1_2:=bl1_2.lt
  have zc1_2:=bl1_2.cell
  clear bl0_1 p1 hg
  have ⟨⟨ne4,nf4⟩,⟨ne5,nf5⟩,⟨ne6,nf6⟩⟩:NN C.b w2.heap.size∧NN w.heap.size w2.heap.size∧NN w1.heap.size w2.heap.size:=om
  go_wp2
  refine bodyPost_ret (v:=.tuple #[.agg #[.int .i64 38,.string ⟨(zp C.ts k).text.toArray⟩,.int .i64 0,.int .i64 (zp C.ts k).pos,.string ⟨#[]⟩,.int .i64 0,.slice none 0 0],.int .i64 2]) zP rfl (yd (hi:=w2.heap.size) (s:=2) (k':=k+1) (tx:=(zp C.ts k).text) (kids:=[]) (by rw [←zk HR];simp only [yC,ub,ef etrue,et (zk Efalse),h2b (a:=[116,114,117,101]) (b:=[102,97,108,115,101]) (zk Efalse)]) (zq.nil _ _ _) sq ?_ ?_)
  ·exact yv wg ok oz
  ·exact yw wg oz
 by_cases enil:(zp C.ts k).text=[110,105,108]
 ·skip
  have betrue:((zp C.ts k).text==[116,114,117,101])=false:=beq_eq_false_iff_ne.2 etrue
  have befalse:((zp C.ts k).text==[102,97,108,115,101])=false:=beq_eq_false_iff_ne.2 efalse
  have benil:((zp C.ts k).text==[110,105,108])=true:=by simp [enil]
  have Enil:=zm enil
  clear enil
  go_enter Tryz.func154,Tryz.ntmps154
  go_wp2_with fail
  refine qc w ok k h (zy C ok k h _ (zw wg)) (zw wg) (yD wg) fun w1 p1 hg hz1 G1=>?_
  (try simp at hz1)
  have bl0_1:BL w1 w.heap.size (yA):=BL.grown (yN om) hg om
  have hl0_1:=bl0_1.lt
  clear hg
  have ⟨⟨ne1,nf1⟩,⟨ne2,nf2⟩,⟨ne3,nf3⟩⟩:NN C.b w.heap.size∧NN C.b w1.heap.size∧NN w.heap.size w1.heap.size:=om
  go_wp2_with fail
  refine (yR C ok k h _ (zw wg) (zk H6)).mono ?_
  rintro e w2 ⟨rfl,p2,hg⟩
  have hz2:=hg.size
  (try simp at hz2)
  have G2:w.grownBy w2 (some C.b):=zl (yD wg) hg
  have bl0_2:BL w2 w.heap.size (yA):=BL.grown (yS wg) hg om
  have hl0_2:=bl0_2.lt
  have zc0_2:=bl0_2.cell
  have fz0_2:=bl0_2.frozen
  have bl1_2:BL w2 w1.heap.size (.cells #[.int .i64 (zp C.ts k).kind,.string ⟨(zp C.ts k).text.toArray⟩,.int .i64 (zp C.ts k).num,.int .i64 (zp C.ts k).pos] 85):=BL.grown (yN om) hg om
  have hl1_2:=bl1_2.lt
  have zc1_2:=bl1_2.cell
  clear bl0_1 p1 hg
  have ⟨⟨ne4,nf4⟩,⟨ne5,nf5⟩,⟨ne6,nf6⟩⟩:NN C.b w2.heap.size∧NN w.heap.size w2.heap.size∧NN w1.heap.size w2.heap.size:=om
  go_wp2
  refine bodyPost_ret (v:=.tuple #[.agg #[.int .i64 39,.string ⟨#[]⟩,.int .i64 0,.int .i64 (zp C.ts k).pos,.string ⟨#[]⟩,.int .i64 0,.slice none 0 0],.int .i64 2]) zP rfl (yd (hi:=w2.heap.size) (s:=2) (k':=k+1) (tx:=[]) (kids:=[]) (by rw [←zk HR];simp only [yC,ub,ef etrue,ef efalse,et (zk Enil),h2n etrue efalse]) (zq.nil _ _ _) sq ?_ ?_)
  ·exact yv wg ok oz
  ·exact yw wg oz
 by_cases efunc:(zp C.ts k).text=[102,117,110,99]
 ·skip
  have betrue:((zp C.ts k).text==[116,114,117,101])=false:=beq_eq_false_iff_ne.2 etrue
  have befalse:((zp C.ts k).text==[102,97,108,115,101])=false:=beq_eq_false_iff_ne.2 efalse
  have benil:((zp C.ts k).text==[110,105,108])=false:=beq_eq_false_iff_ne.2 enil
  have befunc:((zp C.ts k).text==[102,117,110,99])=true:=by simp [efunc]
  have Efunc:=zm efunc
  clear efunc
  go_enter Tryz.func154,Tryz.ntmps154
  go_wp2_with fail
  refine qc w ok k h (zy C ok k h _ (zw wg)) (zw wg) (yD wg) fun w1 p1 hg hz1 G1=>?_
  (try simp at hz1)
  have bl0_1:BL w1 w.heap.size (yA):=BL.grown (yN om) hg om
  have hl0_1:=bl0_1.lt
  clear hg
  have ⟨⟨ne1,nf1⟩,⟨ne2,nf2⟩,⟨ne3,nf3⟩⟩:NN C.b w.heap.size∧NN C.b w1.heap.size∧NN w.heap.size w1.heap.size:=om
  go_wp2_with fail
  refine (yR C ok k h _ (zw wg) (zk H6)).mono ?_
  rintro e w2 ⟨rfl,p2,hg⟩
  have hz2:=hg.size
  (try simp at hz2)
  have G2:w.grownBy w2 (some C.b):=zl (yD wg) hg
  have bl0_2:BL w2 w.heap.size (yA):=BL.grown (yS wg) hg om
  have hl0_2:=bl0_2.lt
  have bl1_2:BL w2 w1.heap.size (.cells #[.int .i64 (zp C.ts k).kind,.string ⟨(zp C.ts k).text.toArray⟩,.int .i64 (zp C.ts k).num,.int .i64 (zp C.ts k).pos] 85):=BL.grown (yN om) hg om
  have hl1_2:=bl1_2.lt
  have zc1_2:=bl1_2.cell
  clear bl0_1 p1 hg
  have ⟨⟨ne4,nf4⟩,⟨ne5,nf5⟩,⟨ne6,nf6⟩⟩:NN C.b w2.heap.size∧NN w.heap.size w2.heap.size∧NN w1.heap.size w2.heap.size:=om
  go_wp2
  go_region_held2 (fun w'=>w'.cell? ⟨w1.heap.size,3,none⟩=some (.int .i64 (zp C.ts k).pos)) (go_keep) (first | (go_at_call 56;(refine (ih.at.function h (k+1) _ (pw1 wg) (fun hx=>zk HO ((zk HR).symm.trans (by simp only [yC,ub,ef etrue,ef efalse,ef enil,et (zk Efunc),h2n etrue efalse,hx])))).mono ?_;rintro e w3 hp;rcases hp with ⟨l3,s3,k3,ao3,cp3,hq,rfl,hrow,p3,hg⟩ | ⟨pb,rule,hq,rfl,hg⟩;rotate_left;(exact ⟨rfl,yj (by rw [←zk HR];simp only [yC,ub,ef etrue,ef efalse,ef enil,et (zk Efunc),h2n etrue efalse,hq]) (zl (gw1 wg) hg)⟩);have hz3:=hg.size;(try simp at hz3);have G3:w.grownBy w3 (some C.b):=zl (gw1 wg) hg;have bl0_3:BL w3 w.heap.size (yA):=BL.grown (bw1 wg) hg om;have hl0_3:=bl0_3.lt;have zc0_3:=bl0_3.cell;have fz0_3:=bl0_3.frozen;have bl1_3:BL w3 w1.heap.size (.cells #[.int .i64 (zp C.ts k).kind,.string ⟨(zp C.ts k).text.toArray⟩,.int .i64 (zp C.ts k).num,.int .i64 (zp C.ts k).pos] 85):=BL.grown (bw1 wg) hg om;have hl1_3:=bl1_3.lt;have zc1_3:=bl1_3.cell;have fz1_3:=bl1_3.frozen;clear bl0_2;clear bl1_2 zc1_2;clear p2;obtain ⟨lo3,hlo3,row3⟩:=hrow.named;(try simp at hlo3);have HQ3:=zm hq;clear hrow hq;clear hg;have ne7:¬C.b=w3.heap.size:=om;have nf7:¬w3.heap.size=C.b:=om;have ne8:¬w.heap.size=w3.heap.size:=om;have nf8:¬w3.heap.size=w.heap.size:=om;have ne9:¬w1.heap.size=w3.heap.size:=om;have nf9:¬w3.heap.size=w1.heap.size:=om)))
  go_wp2
  refine bodyPost_ret (v:=.tuple #[.agg #[.int .i64 48,.string ⟨#[]⟩,.int .i64 0,.int .i64 (zp C.ts k).pos,.string ⟨#[]⟩,.int .i64 0,.slice ao3 l3.length cp3],.int .i64 2]) zP rfl (yd (hi:=w3.heap.size) (s:=2) (k':=k3) (tx:=[]) (kids:=l3) (by rw [←zk HR];simp only [yC,ub,ef etrue,ef efalse,ef enil,et (zk Efunc),h2n etrue efalse,zk HQ3]) (row3.ag (yr zu oz) om lr) sq ?_ ?_)
  ·exact yv wg ok oz
  ·exact yw wg oz
 by_cases emake:(zp C.ts k).text=[109,97,107,101]
 ·skip
  have betrue:((zp C.ts k).text==[116,114,117,101])=false:=beq_eq_false_iff_ne.2 etrue
  have befalse:((zp C.ts k).text==[102,97,108,115,101])=false:=beq_eq_false_iff_ne.2 efalse
  have benil:((zp C.ts k).text==[110,105,108])=false:=beq_eq_false_iff_ne.2 enil
  have befunc:((zp C.ts k).text==[102,117,110,99])=false:=beq_eq_false_iff_ne.2 efunc
  have bemake:((zp C.ts k).text==[109,97,107,101])=true:=by simp [emake]
  have Emake:=zm emake
  clear emake
  go_enter Tryz.func154,Tryz.ntmps154
  go_wp2_with fail
  refine qc w ok k h (zy C ok k h _ (zw wg)) (zw wg) (yD wg) fun w1 p1 hg hz1 G1=>?_
  (try simp at hz1)
  have bl0_1:BL w1 w.heap.size (yA):=BL.grown (yN om) hg om
  have hl0_1:=bl0_1.lt
  clear hg
  have ⟨⟨ne1,nf1⟩,⟨ne2,nf2⟩,⟨ne3,nf3⟩⟩:NN C.b w.heap.size∧NN C.b w1.heap.size∧NN w.heap.size w1.heap.size:=om
  go_wp2_with fail
  refine (ih.at.builtinM h k _ (zw wg) (zk H6) (fun hx=>zk HO ((zk HR).symm.trans (by simp only [yC,ub,ef etrue,ef efalse,ef enil,ef efunc,et (zk Emake),h2n etrue efalse,hx])))).mono ?_
  rintro e w2 hp
  rcases hp with ⟨kd2,tx2,nm2,ps2,kids2,s2,k2,ao2,cp2,hq,rfl,hrow,p2,hg⟩ | ⟨pb,rule,hq,rfl,hg⟩
  rotate_left
  (exact ⟨rfl,yj (by rw [←zk HR];simp only [yC,ub,ef etrue,ef efalse,ef enil,ef efunc,et (zk Emake),h2n etrue efalse,hq]) (zl (yD wg) hg)⟩)
  have hz2:=hg.size
  (try simp at hz2)
  have G2:w.grownBy w2 (some C.b):=zl (yD wg) hg
  have bl0_2:BL w2 w.heap.size (yA):=BL.grown (yS wg) hg om
  have hl0_2:=bl0_2.lt
  have zc0_2:=bl0_2.cell
  have fz0_2:=bl0_2.frozen
  have bl1_2:BL w2 w1.heap.size (.cells #[.int .i64 (zp C.ts k).kind,.string ⟨(zp C.ts k).text.toArray⟩,.int .i64 (zp C.ts k).num,.int .i64 (zp C.ts k).pos] 85):=BL.grown (yN om) hg om
  have hl1_2:=bl1_2.lt
  clear bl0_1 p1
  obtain ⟨lo2,hlo2,row2⟩:=hrow.named
  (try simp at hlo2)
  have HQ2:=zm hq
  clear hrow hq hg
  have ⟨⟨ne4,nf4⟩,⟨ne5,nf5⟩,⟨ne6,nf6⟩⟩:NN C.b w2.heap.size∧NN w.heap.size w2.heap.size∧NN w1.heap.size w2.heap.size:=om
  go_wp2
  refine bodyPost_ret (v:=.tuple #[.agg #[.int .i64 kd2,.string ⟨tx2.toArray⟩,.int .i64 nm2,.int .i64 ps2,.string ⟨#[]⟩,.int .i64 0,.slice ao2 kids2.length cp2],.int .i64 2]) zP rfl (yd (hi:=w2.heap.size) (s:=2) (k':=k2) (tx:=tx2) (kids:=kids2) (by rw [←zk HR];simp only [yC,ub,ef etrue,ef efalse,ef enil,ef efunc,et (zk Emake),h2n etrue efalse,zk HQ2]) (row2.ag (yr zu oz) om lr) sq ?_ ?_)
  ·exact yv wg ok oz
  ·exact yw wg oz
 by_cases enew:(zp C.ts k).text=[110,101,119]
 ·skip
  have betrue:((zp C.ts k).text==[116,114,117,101])=false:=beq_eq_false_iff_ne.2 etrue
  have befalse:((zp C.ts k).text==[102,97,108,115,101])=false:=beq_eq_false_iff_ne.2 efalse
  have benil:((zp C.ts k).text==[110,105,108])=false:=beq_eq_false_iff_ne.2 enil
  have befunc:((zp C.ts k).text==[102,117,110,99])=false:=beq_eq_false_iff_ne.2 efunc
  have bemake:((zp C.ts k).text==[109,97,107,101])=false:=beq_eq_false_iff_ne.2 emake
  have benew:((zp C.ts k).text==[110,101,119])=true:=by simp [enew]
  have Enew:=zm enew
  clear enew
  go_enter Tryz.func154,Tryz.ntmps154
  go_wp2_with fail
  refine qc w ok k h (zy C ok k h _ (zw wg)) (zw wg) (yD wg) fun w1 p1 hg hz1 G1=>?_
  (try simp at hz1)
  have bl0_1:BL w1 w.heap.size (yA):=BL.grown (yN om) hg om
  have hl0_1:=bl0_1.lt
  clear hg
  have ⟨⟨ne1,nf1⟩,⟨ne2,nf2⟩,⟨ne3,nf3⟩⟩:NN C.b w.heap.size∧NN C.b w1.heap.size∧NN w.heap.size w1.heap.size:=om
  go_wp2_with fail
  refine (ih.at.builtinN h k _ (zw wg) (zk H6) (fun hx=>zk HO ((zk HR).symm.trans (by simp only [yC,ub,ef etrue,ef efalse,ef enil,ef efunc,ef emake,et (zk Enew),h2n etrue efalse,hx])))).mono ?_
  rintro e w2 hp
  rcases hp with ⟨kd2,tx2,nm2,ps2,kids2,s2,k2,ao2,cp2,hq,rfl,hrow,p2,hg⟩ | ⟨pb,rule,hq,rfl,hg⟩
  rotate_left
  (exact ⟨rfl,yj (by rw [←zk HR];simp only [yC,ub,ef etrue,ef efalse,ef enil,ef efunc,ef emake,et (zk Enew),h2n etrue efalse,hq]) (zl (yD wg) hg)⟩)
  have hz2:=hg.size
  (try simp at hz2)
  have G2:w.grownBy w2 (some C.b):=zl (yD wg) hg
  have bl0_2:BL w2 w.heap.size (yA):=BL.grown (yS wg) hg om
  have hl0_2:=bl0_2.lt
  have zc0_2:=bl0_2.cell
  have fz0_2:=bl0_2.frozen
  have bl1_2:BL w2 w1.heap.size (.cells #[.int .i64 (zp C.ts k).kind,.string ⟨(zp C.ts k).text.toArray⟩,.int .i64 (zp C.ts k).num,.int .i64 (zp C.ts k).pos] 85):=BL.grown (yN om) hg om
  have hl1_2:=bl1_2.lt
  clear bl0_1 p1
  obtain ⟨lo2,hlo2,row2⟩:=hrow.named
  (try simp at hlo2)
  have HQ2:=zm hq
  clear hrow hq hg
  have ⟨⟨ne4,nf4⟩,⟨ne5,nf5⟩,⟨ne6,nf6⟩⟩:NN C.b w2.heap.size∧NN w.heap.size w2.heap.size∧NN w1.heap.size w2.heap.size:=om
  go_wp2
  refine bodyPost_ret (v:=.tuple #[.agg #[.int .i64 kd2,.string ⟨tx2.toArray⟩,.int .i64 nm2,.int .i64 ps2,.string ⟨#[]⟩,.int .i64 0,.slice ao2 kids2.length cp2],.int .i64 2]) zP rfl (yd (hi:=w2.heap.size) (s:=2) (k':=k2) (tx:=tx2) (kids:=kids2) (by rw [←zk HR];simp only [yC,ub,ef etrue,ef efalse,ef enil,ef efunc,ef emake,et (zk Enew),h2n etrue efalse,zk HQ2]) (row2.ag (yr zu oz) om lr) sq ?_ ?_)
  ·exact yv wg ok oz
  ·exact yw wg oz
 by_cases eappend:(zp C.ts k).text=[97,112,112,101,110,100]
 ·skip
  have betrue:((zp C.ts k).text==[116,114,117,101])=false:=beq_eq_false_iff_ne.2 etrue
  have befalse:((zp C.ts k).text==[102,97,108,115,101])=false:=beq_eq_false_iff_ne.2 efalse
  have benil:((zp C.ts k).text==[110,105,108])=false:=beq_eq_false_iff_ne.2 enil
  have befunc:((zp C.ts k).text==[102,117,110,99])=false:=beq_eq_false_iff_ne.2 efunc
  have bemake:((zp C.ts k).text==[109,97,107,101])=false:=beq_eq_false_iff_ne.2 emake
  have benew:((zp C.ts k).text==[110,101,119])=false:=beq_eq_false_iff_ne.2 enew
  have beappend:((zp C.ts k).text==[97,112,112,101,110,100])=true:=by simp [eappend]
  have HL7:=zm (show [[97,112,112,101,110,100],[99,97,112],[99,108,111,115,101],[108,101,110],[112,97,110,105,99],[112,114,105,110,116],[114,101,99,111,118,101,114]].contains (zp C.ts k).text=true from by rw [eappend];decide)
  have Eappend:=zm eappend
  clear eappend
  go_enter Tryz.func154,Tryz.ntmps154
  go_wp2_with fail
  refine qc w ok k h (zy C ok k h _ (zw wg)) (zw wg) (yD wg) fun w1 p1 hg hz1 G1=>?_
  (try simp at hz1)
  have bl0_1:BL w1 w.heap.size (yA):=BL.grown (yN om) hg om
  have hl0_1:=bl0_1.lt
  clear hg
  have ⟨⟨ne1,nf1⟩,⟨ne2,nf2⟩,⟨ne3,nf3⟩⟩:NN C.b w.heap.size∧NN C.b w1.heap.size∧NN w.heap.size w1.heap.size:=om
  go_wp2_with fail
  refine (ih.at.builtinA h k _ (zw wg) (zk H6) (fun hx=>zk HO ((zk HR).symm.trans (by simp only [yC,ub,ef etrue,ef efalse,ef enil,ef efunc,ef emake,ef enew,et (zk Eappend),h2n etrue efalse,et (zk HL7),hx])))).mono ?_
  rintro e w2 hp
  rcases hp with ⟨kd2,tx2,nm2,ps2,kids2,s2,k2,ao2,cp2,hq,rfl,hrow,p2,hg⟩ | ⟨pb,rule,hq,rfl,hg⟩
  rotate_left
  (exact ⟨rfl,yj (by rw [←zk HR];simp only [yC,ub,ef etrue,ef efalse,ef enil,ef efunc,ef emake,ef enew,et (zk Eappend),h2n etrue efalse,et (zk HL7),hq]) (zl (yD wg) hg)⟩)
  have hz2:=hg.size
  (try simp at hz2)
  have G2:w.grownBy w2 (some C.b):=zl (yD wg) hg
  have bl0_2:BL w2 w.heap.size (yA):=BL.grown (yS wg) hg om
  have hl0_2:=bl0_2.lt
  have zc0_2:=bl0_2.cell
  have fz0_2:=bl0_2.frozen
  have bl1_2:BL w2 w1.heap.size (.cells #[.int .i64 (zp C.ts k).kind,.string ⟨(zp C.ts k).text.toArray⟩,.int .i64 (zp C.ts k).num,.int .i64 (zp C.ts k).pos] 85):=BL.grown (yN om) hg om
  have hl1_2:=bl1_2.lt
  clear bl0_1 p1
  obtain ⟨lo2,hlo2,row2⟩:=hrow.named
  (try simp at hlo2)
  have HQ2:=zm hq
  clear hrow hq hg
  have ⟨⟨ne4,nf4⟩,⟨ne5,nf5⟩,⟨ne6,nf6⟩⟩:NN C.b w2.heap.size∧NN w.heap.size w2.heap.size∧NN w1.heap.size w2.heap.size:=om
  go_wp2
  refine bodyPost_ret (v:=.tuple #[.agg #[.int .i64 kd2,.string ⟨tx2.toArray⟩,.int .i64 nm2,.int .i64 ps2,.string ⟨#[]⟩,.int .i64 0,.slice ao2 kids2.length cp2],.int .i64 5]) zP rfl (yd (hi:=w2.heap.size) (s:=5) (k':=k2) (tx:=tx2) (kids:=kids2) (by rw [←zk HR];simp only [yC,ub,ef etrue,ef efalse,ef enil,ef efunc,ef emake,ef enew,et (zk Eappend),h2n etrue efalse,et (zk HL7),zk HQ2]) (row2.ag (yr zu oz) om lr) sq ?_ ?_)
  ·exact yv wg ok oz
  ·exact yw wg oz
 by_cases ecap:(zp C.ts k).text=[99,97,112]
 ·skip
  have betrue:((zp C.ts k).text==[116,114,117,101])=false:=beq_eq_false_iff_ne.2 etrue
  have befalse:((zp C.ts k).text==[102,97,108,115,101])=false:=beq_eq_false_iff_ne.2 efalse
  have benil:((zp C.ts k).text==[110,105,108])=false:=beq_eq_false_iff_ne.2 enil
  have befunc:((zp C.ts k).text==[102,117,110,99])=false:=beq_eq_false_iff_ne.2 efunc
  have bemake:((zp C.ts k).text==[109,97,107,101])=false:=beq_eq_false_iff_ne.2 emake
  have benew:((zp C.ts k).text==[110,101,119])=false:=beq_eq_false_iff_ne.2 enew
  have beappend:((zp C.ts k).text==[97,112,112,101,110,100])=false:=beq_eq_false_iff_ne.2 eappend
  have becap:((zp C.ts k).text==[99,97,112])=true:=by simp [ecap]
  have HL7:=zm (show [[97,112,112,101,110,100],[99,97,112],[99,108,111,115,101],[108,101,110],[112,97,110,105,99],[112,114,105,110,116],[114,101,99,111,118,101,114]].contains (zp C.ts k).text=true from by rw [ecap];decide)
  have Ecap:=zm ecap
  clear ecap
  go_enter Tryz.func154,Tryz.ntmps154
  go_wp2_with fail
  refine qc w ok k h (zy C ok k h _ (zw wg)) (zw wg) (yD wg) fun w1 p1 hg hz1 G1=>?_
  (try simp at hz1)
  have bl0_1:BL w1 w.heap.size (yA):=BL.grown (yN om) hg om
  have hl0_1:=bl0_1.lt
  clear hg
  have ⟨⟨ne1,nf1⟩,⟨ne2,nf2⟩,⟨ne3,nf3⟩⟩:NN C.b w.heap.size∧NN C.b w1.heap.size∧NN w.heap.size w1.heap.size:=om
  go_wp2_with fail
  refine (ih.at.builtinA h k _ (zw wg) (zk H6) (fun hx=>zk HO ((zk HR).symm.trans (by simp only [yC,ub,ef etrue,ef efalse,ef enil,ef efunc,ef emake,ef enew,ef eappend,et (zk Ecap),h2n etrue efalse,et (zk HL7),hx])))).mono ?_
  rintro e w2 hp
  rcases hp with ⟨kd2,tx2,nm2,ps2,kids2,s2,k2,ao2,cp2,hq,rfl,hrow,p2,hg⟩ | ⟨pb,rule,hq,rfl,hg⟩
  rotate_left
  (exact ⟨rfl,yj (by rw [←zk HR];simp only [yC,ub,ef etrue,ef efalse,ef enil,ef efunc,ef emake,ef enew,ef eappend,et (zk Ecap),h2n etrue efalse,et (zk HL7),hq]) (zl (yD wg) hg)⟩)
  have hz2:=hg.size
  (try simp at hz2)
  have G2:w.grownBy w2 (some C.b):=zl (yD wg) hg
  have bl0_2:BL w2 w.heap.size (yA):=BL.grown (yS wg) hg om
  have hl0_2:=bl0_2.lt
  have zc0_2:=bl0_2.cell
  have fz0_2:=bl0_2.frozen
  have bl1_2:BL w2 w1.heap.size (.cells #[.int .i64 (zp C.ts k).kind,.string ⟨(zp C.ts k).text.toArray⟩,.int .i64 (zp C.ts k).num,.int .i64 (zp C.ts k).pos] 85):=BL.grown (yN om) hg om
  have hl1_2:=bl1_2.lt
  clear bl0_1 p1
  obtain ⟨lo2,hlo2,row2⟩:=hrow.named
  (try simp at hlo2)
  have HQ2:=zm hq
  clear hrow hq hg
  have ⟨⟨ne4,nf4⟩,⟨ne5,nf5⟩,⟨ne6,nf6⟩⟩:NN C.b w2.heap.size∧NN w.heap.size w2.heap.size∧NN w1.heap.size w2.heap.size:=om
  go_wp2
  refine bodyPost_ret (v:=.tuple #[.agg #[.int .i64 kd2,.string ⟨tx2.toArray⟩,.int .i64 nm2,.int .i64 ps2,.string ⟨#[]⟩,.int .i64 0,.slice ao2 kids2.length cp2],.int .i64 5]) zP rfl (yd (hi:=w2.heap.size) (s:=5) (k':=k2) (tx:=tx2) (kids:=kids2) (by rw [←zk HR];simp only [yC,ub,ef etrue,ef efalse,ef enil,ef efunc,ef emake,ef enew,ef eappend,et (zk Ecap),h2n etrue efalse,et (zk HL7),zk HQ2]) (row2.ag (yr zu oz) om lr) sq ?_ ?_)
  ·exact yv wg ok oz
  ·exact yw wg oz
 by_cases eclose:(zp C.ts k).text=[99,108,111,115,101]
 ·skip
  have betrue:((zp C.ts k).text==[116,114,117,101])=false:=beq_eq_false_iff_ne.2 etrue
  have befalse:((zp C.ts k).text==[102,97,108,115,101])=false:=beq_eq_false_iff_ne.2 efalse
  have benil:((zp C.ts k).text==[110,105,108])=false:=beq_eq_false_iff_ne.2 enil
  have befunc:((zp C.ts k).text==[102,117,110,99])=false:=beq_eq_false_iff_ne.2 efunc
  have bemake:((zp C.ts k).text==[109,97,107,101])=false:=beq_eq_false_iff_ne.2 emake
  have benew:((zp C.ts k).text==[110,101,119])=false:=beq_eq_false_iff_ne.2 enew
  have beappend:((zp C.ts k).text==[97,112,112,101,110,100])=false:=beq_eq_false_iff_ne.2 eappend
  have becap:((zp C.ts k).text==[99,97,112])=false:=beq_eq_false_iff_ne.2 ecap
  have beclose:((zp C.ts k).text==[99,108,111,115,101])=true:=by simp [eclose]
  have HL7:=zm (show [[97,112,112,101,110,100],[99,97,112],[99,108,111,115,101],[108,101,110],[112,97,110,105,99],[112,114,105,110,116],[114,101,99,111,118,101,114]].contains (zp C.ts k).text=true from by rw [eclose];decide)
  have Eclose:=zm eclose
  clear eclose
  go_enter Tryz.func154,Tryz.ntmps154
  go_wp2_with fail
  refine qc w ok k h (zy C ok k h _ (zw wg)) (zw wg) (yD wg) fun w1 p1 hg hz1 G1=>?_
  (try simp at hz1)
  have bl0_1:BL w1 w.heap.size (yA):=BL.grown (yN om) hg om
  have hl0_1:=bl0_1.lt
  clear hg
  have ⟨⟨ne1,nf1⟩,⟨ne2,nf2⟩,⟨ne3,nf3⟩⟩:NN C.b w.heap.size∧NN C.b w1.heap.size∧NN w.heap.size w1.heap.size:=om
  go_wp2_with fail
  refine (ih.at.builtinA h k _ (zw wg) (zk H6) (fun hx=>zk HO ((zk HR).symm.trans (by simp only [yC,ub,ef etrue,ef efalse,ef enil,ef efunc,ef emake,ef enew,ef eappend,ef ecap,et (zk Eclose),h2n etrue efalse,et (zk HL7),hx])))).mono ?_
  rintro e w2 hp
  rcases hp with ⟨kd2,tx2,nm2,ps2,kids2,s2,k2,ao2,cp2,hq,rfl,hrow,p2,hg⟩ | ⟨pb,rule,hq,rfl,hg⟩
  rotate_left
  (exact ⟨rfl,yj (by rw [←zk HR];simp only [yC,ub,ef etrue,ef efalse,ef enil,ef efunc,ef emake,ef enew,ef eappend,ef ecap,et (zk Eclose),h2n etrue efalse,et (zk HL7),hq]) (zl (yD wg) hg)⟩)
  have hz2:=hg.size
  (try simp at hz2)
  have G2:w.grownBy w2 (some C.b):=zl (yD wg) hg
  have bl0_2:BL w2 w.heap.size (yA):=BL.grown (yS wg) hg om
  have hl0_2:=bl0_2.lt
  have zc0_2:=bl0_2.cell
  have fz0_2:=bl0_2.frozen
  have bl1_2:BL w2 w1.heap.size (.cells #[.int .i64 (zp C.ts k).kind,.string ⟨(zp C.ts k).text.toArray⟩,.int .i64 (zp C.ts k).num,.int .i64 (zp C.ts k).pos] 85):=BL.grown (yN om) hg om
  have hl1_2:=bl1_2.lt
  clear bl0_1 p1
  obtain ⟨lo2,hlo2,row2⟩:=hrow.named
  (try simp at hlo2)
  have HQ2:=zm hq
  clear hrow hq hg
  have ⟨⟨ne4,nf4⟩,⟨ne5,nf5⟩,⟨ne6,nf6⟩⟩:NN C.b w2.heap.size∧NN w.heap.size w2.heap.size∧NN w1.heap.size w2.heap.size:=om
  go_wp2
  refine bodyPost_ret (v:=.tuple #[.agg #[.int .i64 kd2,.string ⟨tx2.toArray⟩,.int .i64 nm2,.int .i64 ps2,.string ⟨#[]⟩,.int .i64 0,.slice ao2 kids2.length cp2],.int .i64 5]) zP rfl (yd (hi:=w2.heap.size) (s:=5) (k':=k2) (tx:=tx2) (kids:=kids2) (by rw [←zk HR];simp only [yC,ub,ef etrue,ef efalse,ef enil,ef efunc,ef emake,ef enew,ef eappend,ef ecap,et (zk Eclose),h2n etrue efalse,et (zk HL7),zk HQ2]) (row2.ag (yr zu oz) om lr) sq ?_ ?_)
  ·exact yv wg ok oz
  ·exact yw wg oz
 by_cases elen:(zp C.ts k).text=[108,101,110]
 ·skip
  have betrue:((zp C.ts k).text==[116,114,117,101])=false:=beq_eq_false_iff_ne.2 etrue
  have befalse:((zp C.ts k).text==[102,97,108,115,101])=false:=beq_eq_false_iff_ne.2 efalse
  have benil:((zp C.ts k).text==[110,105,108])=false:=beq_eq_false_iff_ne.2 enil
  have befunc:((zp C.ts k).text==[102,117,110,99])=false:=beq_eq_false_iff_ne.2 efunc
  have bemake:((zp C.ts k).text==[109,97,107,101])=false:=beq_eq_false_iff_ne.2 emake
  have benew:((zp C.ts k).text==[110,101,119])=false:=beq_eq_false_iff_ne.2 enew
  have beappend:((zp C.ts k).text==[97,112,112,101,110,100])=false:=beq_eq_false_iff_ne.2 eappend
  have becap:((zp C.ts k).text==[99,97,112])=false:=beq_eq_false_iff_ne.2 ecap
  have beclose:((zp C.ts k).text==[99,108,111,115,101])=false:=beq_eq_false_iff_ne.2 eclose
  have belen:((zp C.ts k).text==[108,101,110])=true:=by simp [elen]
  have HL7:=zm (show [[97,112,112,101,110,100],[99,97,112],[99,108,111,115,101],[108,101,110],[112,97,110,105,99],[112,114,105,110,116],[114,101,99,111,118,101,114]].contains (zp C.ts k).text=true from by rw [elen];decide)
  have Elen:=zm elen
  clear elen
  go_enter Tryz.func154,Tryz.ntmps154
  go_wp2_with fail
  refine qc w ok k h (zy C ok k h _ (zw wg)) (zw wg) (yD wg) fun w1 p1 hg hz1 G1=>?_
  (try simp at hz1)
  have bl0_1:BL w1 w.heap.size (yA):=BL.grown (yN om) hg om
  have hl0_1:=bl0_1.lt
  clear hg
  have ⟨⟨ne1,nf1⟩,⟨ne2,nf2⟩,⟨ne3,nf3⟩⟩:NN C.b w.heap.size∧NN C.b w1.heap.size∧NN w.heap.size w1.heap.size:=om
  go_wp2_with fail
  refine (ih.at.builtinA h k _ (zw wg) (zk H6) (fun hx=>zk HO ((zk HR).symm.trans (by simp only [yC,ub,ef etrue,ef efalse,ef enil,ef efunc,ef emake,ef enew,ef eappend,ef ecap,ef eclose,et (zk Elen),h2n etrue efalse,et (zk HL7),hx])))).mono ?_
  rintro e w2 hp
  rcases hp with ⟨kd2,tx2,nm2,ps2,kids2,s2,k2,ao2,cp2,hq,rfl,hrow,p2,hg⟩ | ⟨pb,rule,hq,rfl,hg⟩
  rotate_left
  (exact ⟨rfl,yj (by rw [←zk HR];simp only [yC,ub,ef etrue,ef efalse,ef enil,ef efunc,ef emake,ef enew,ef eappend,ef ecap,ef eclose,et (zk Elen),h2n etrue efalse,et (zk HL7),hq]) (zl (yD wg) hg)⟩)
  have hz2:=hg.size
  (try simp at hz2)
  have G2:w.grownBy w2 (some C.b):=zl (yD wg) hg
  have bl0_2:BL w2 w.heap.size (yA):=BL.grown (yS wg) hg om
  have hl0_2:=bl0_2.lt
  have zc0_2:=bl0_2.cell
  have fz0_2:=bl0_2.frozen
  have bl1_2:BL w2 w1.heap.size (.cells #[.int .i64 (zp C.ts k).kind,.string ⟨(zp C.ts k).text.toArray⟩,.int .i64 (zp C.ts k).num,.int .i64 (zp C.ts k).pos] 85):=BL.grown (yN om) hg om
  have hl1_2:=bl1_2.lt
  clear bl0_1 p1
  obtain ⟨lo2,hlo2,row2⟩:=hrow.named
  (try simp at hlo2)
  have HQ2:=zm hq
  clear hrow hq hg
  have ⟨⟨ne4,nf4⟩,⟨ne5,nf5⟩,⟨ne6,nf6⟩⟩:NN C.b w2.heap.size∧NN w.heap.size w2.heap.size∧NN w1.heap.size w2.heap.size:=om
  go_wp2
  refine bodyPost_ret (v:=.tuple #[.agg #[.int .i64 kd2,.string ⟨tx2.toArray⟩,.int .i64 nm2,.int .i64 ps2,.string ⟨#[]⟩,.int .i64 0,.slice ao2 kids2.length cp2],.int .i64 5]) zP rfl (yd (hi:=w2.heap.size) (s:=5) (k':=k2) (tx:=tx2) (kids:=kids2) (by rw [←zk HR];simp only [yC,ub,ef etrue,ef efalse,ef enil,ef efunc,ef emake,ef enew,ef eappend,ef ecap,ef eclose,et (zk Elen),h2n etrue efalse,et (zk HL7),zk HQ2]) (row2.ag (yr zu oz) om lr) sq ?_ ?_)
  ·exact yv wg ok oz
  ·exact yw wg oz
 by_cases epanic:(zp C.ts k).text=[112,97,110,105,99]
 ·skip
  have betrue:((zp C.ts k).text==[116,114,117,101])=false:=beq_eq_false_iff_ne.2 etrue
  have befalse:((zp C.ts k).text==[102,97,108,115,101])=false:=beq_eq_false_iff_ne.2 efalse
  have benil:((zp C.ts k).text==[110,105,108])=false:=beq_eq_false_iff_ne.2 enil
  have befunc:((zp C.ts k).text==[102,117,110,99])=false:=beq_eq_false_iff_ne.2 efunc
  have bemake:((zp C.ts k).text==[109,97,107,101])=false:=beq_eq_false_iff_ne.2 emake
  have benew:((zp C.ts k).text==[110,101,119])=false:=beq_eq_false_iff_ne.2 enew
  have beappend:((zp C.ts k).text==[97,112,112,101,110,100])=false:=beq_eq_false_iff_ne.2 eappend
  have becap:((zp C.ts k).text==[99,97,112])=false:=beq_eq_false_iff_ne.2 ecap
  have beclose:((zp C.ts k).text==[99,108,111,115,101])=false:=beq_eq_false_iff_ne.2 eclose
  have belen:((zp C.ts k).text==[108,101,110])=false:=beq_eq_false_iff_ne.2 elen
  have bepanic:((zp C.ts k).text==[112,97,110,105,99])=true:=by simp [epanic]
  have HL7:=zm (show [[97,112,112,101,110,100],[99,97,112],[99,108,111,115,101],[108,101,110],[112,97,110,105,99],[112,114,105,110,116],[114,101,99,111,118,101,114]].contains (zp C.ts k).text=true from by rw [epanic];decide)
  have Epanic:=zm epanic
  clear epanic
  go_enter Tryz.func154,Tryz.ntmps154
  go_wp2_with fail
  refine qc w ok k h (zy C ok k h _ (zw wg)) (zw wg) (yD wg) fun w1 p1 hg hz1 G1=>?_
  (try simp at hz1)
  have bl0_1:BL w1 w.heap.size (yA):=BL.grown (yN om) hg om
  have hl0_1:=bl0_1.lt
  clear hg
  have ⟨⟨ne1,nf1⟩,⟨ne2,nf2⟩,⟨ne3,nf3⟩⟩:NN C.b w.heap.size∧NN C.b w1.heap.size∧NN w.heap.size w1.heap.size:=om
  go_wp2_with fail
  refine (ih.at.builtinA h k _ (zw wg) (zk H6) (fun hx=>zk HO ((zk HR).symm.trans (by simp only [yC,ub,ef etrue,ef efalse,ef enil,ef efunc,ef emake,ef enew,ef eappend,ef ecap,ef eclose,ef elen,et (zk Epanic),h2n etrue efalse,et (zk HL7),hx])))).mono ?_
  rintro e w2 hp
  rcases hp with ⟨kd2,tx2,nm2,ps2,kids2,s2,k2,ao2,cp2,hq,rfl,hrow,p2,hg⟩ | ⟨pb,rule,hq,rfl,hg⟩
  rotate_left
  (exact ⟨rfl,yj (by rw [←zk HR];simp only [yC,ub,ef etrue,ef efalse,ef enil,ef efunc,ef emake,ef enew,ef eappend,ef ecap,ef eclose,ef elen,et (zk Epanic),h2n etrue efalse,et (zk HL7),hq]) (zl (yD wg) hg)⟩)
  have hz2:=hg.size
  (try simp at hz2)
  have G2:w.grownBy w2 (some C.b):=zl (yD wg) hg
  have bl0_2:BL w2 w.heap.size (yA):=BL.grown (yS wg) hg om
  have hl0_2:=bl0_2.lt
  have zc0_2:=bl0_2.cell
  have fz0_2:=bl0_2.frozen
  have bl1_2:BL w2 w1.heap.size (.cells #[.int .i64 (zp C.ts k).kind,.string ⟨(zp C.ts k).text.toArray⟩,.int .i64 (zp C.ts k).num,.int .i64 (zp C.ts k).pos] 85):=BL.grown (yN om) hg om
  have hl1_2:=bl1_2.lt
  clear bl0_1 p1
  obtain ⟨lo2,hlo2,row2⟩:=hrow.named
  (try simp at hlo2)
  have HQ2:=zm hq
  clear hrow hq hg
  have ⟨⟨ne4,nf4⟩,⟨ne5,nf5⟩,⟨ne6,nf6⟩⟩:NN C.b w2.heap.size∧NN w.heap.size w2.heap.size∧NN w1.heap.size w2.heap.size:=om
  go_wp2
  refine bodyPost_ret (v:=.tuple #[.agg #[.int .i64 kd2,.string ⟨tx2.toArray⟩,.int .i64 nm2,.int .i64 ps2,.string ⟨#[]⟩,.int .i64 0,.slice ao2 kids2.length cp2],.int .i64 5]) zP rfl (yd (hi:=w2.heap.size) (s:=5) (k':=k2) (tx:=tx2) (kids:=kids2) (by rw [←zk HR];simp only [yC,ub,ef etrue,ef efalse,ef enil,ef efunc,ef emake,ef enew,ef eappend,ef ecap,ef eclose,ef elen,et (zk Epanic),h2n etrue efalse,et (zk HL7),zk HQ2]) (row2.ag (yr zu oz) om lr) sq ?_ ?_)
  ·exact yv wg ok oz
  ·exact yw wg oz
 by_cases eprint:(zp C.ts k).text=[112,114,105,110,116]
 ·skip
  have betrue:((zp C.ts k).text==[116,114,117,101])=false:=beq_eq_false_iff_ne.2 etrue
  have befalse:((zp C.ts k).text==[102,97,108,115,101])=false:=beq_eq_false_iff_ne.2 efalse
  have benil:((zp C.ts k).text==[110,105,108])=false:=beq_eq_false_iff_ne.2 enil
  have befunc:((zp C.ts k).text==[102,117,110,99])=false:=beq_eq_false_iff_ne.2 efunc
  have bemake:((zp C.ts k).text==[109,97,107,101])=false:=beq_eq_false_iff_ne.2 emake
  have benew:((zp C.ts k).text==[110,101,119])=false:=beq_eq_false_iff_ne.2 enew
  have beappend:((zp C.ts k).text==[97,112,112,101,110,100])=false:=beq_eq_false_iff_ne.2 eappend
  have becap:((zp C.ts k).text==[99,97,112])=false:=beq_eq_false_iff_ne.2 ecap
  have beclose:((zp C.ts k).text==[99,108,111,115,101])=false:=beq_eq_false_iff_ne.2 eclose
  have belen:((zp C.ts k).text==[108,101,110])=false:=beq_eq_false_iff_ne.2 elen
  have bepanic:((zp C.ts k).text==[112,97,110,105,99])=false:=beq_eq_false_iff_ne.2 epanic
  have beprint:((zp C.ts k).text==[112,114,105,110,116])=true:=by simp [eprint]
  have HL7:=zm (show [[97,112,112,101,110,100],[99,97,112],[99,108,111,115,101],[108,101,110],[112,97,110,105,99],[112,114,105,110,116],[114,101,99,111,118,101,114]].contains (zp C.ts k).text=true from by rw [eprint];decide)
  have Eprint:=zm eprint
  clear eprint
  go_enter Tryz.func154,Tryz.ntmps154
  go_wp2_with fail
  refine qc w ok k h (zy C ok k h _ (zw wg)) (zw wg) (yD wg) fun w1 p1 hg hz1 G1=>?_
  (try simp at hz1)
  have bl0_1:BL w1 w.heap.size (yA):=BL.grown (yN om) hg om
  have hl0_1:=bl0_1.lt
  clear hg
  have ⟨⟨ne1,nf1⟩,⟨ne2,nf2⟩,⟨ne3,nf3⟩⟩:NN C.b w.heap.size∧NN C.b w1.heap.size∧NN w.heap.size w1.heap.size:=om
  go_wp2_with fail
  refine (ih.at.builtinA h k _ (zw wg) (zk H6) (fun hx=>zk HO ((zk HR).symm.trans (by simp only [yC,ub,ef etrue,ef efalse,ef enil,ef efunc,ef emake,ef enew,ef eappend,ef ecap,ef eclose,ef elen,ef epanic,et (zk Eprint),h2n etrue efalse,et (zk HL7),hx])))).mono ?_
  rintro e w2 hp
  rcases hp with ⟨kd2,tx2,nm2,ps2,kids2,s2,k2,ao2,cp2,hq,rfl,hrow,p2,hg⟩ | ⟨pb,rule,hq,rfl,hg⟩
  rotate_left
  (exact ⟨rfl,yj (by rw [←zk HR];simp only [yC,ub,ef etrue,ef efalse,ef enil,ef efunc,ef emake,ef enew,ef eappend,ef ecap,ef eclose,ef elen,ef epanic,et (zk Eprint),h2n etrue efalse,et (zk HL7),hq]) (zl (yD wg) hg)⟩)
  have hz2:=hg.size
  (try simp at hz2)
  have G2:w.grownBy w2 (some C.b):=zl (yD wg) hg
  have bl0_2:BL w2 w.heap.size (yA):=BL.grown (yS wg) hg om
  have hl0_2:=bl0_2.lt
  have zc0_2:=bl0_2.cell
  have fz0_2:=bl0_2.frozen
  have bl1_2:BL w2 w1.heap.size (.cells #[.int .i64 (zp C.ts k).kind,.string ⟨(zp C.ts k).text.toArray⟩,.int .i64 (zp C.ts k).num,.int .i64 (zp C.ts k).pos] 85):=BL.grown (yN om) hg om
  have hl1_2:=bl1_2.lt
  clear bl0_1 p1
  obtain ⟨lo2,hlo2,row2⟩:=hrow.named
  (try simp at hlo2)
  have HQ2:=zm hq
  clear hrow hq hg
  have ⟨⟨ne4,nf4⟩,⟨ne5,nf5⟩,⟨ne6,nf6⟩⟩:NN C.b w2.heap.size∧NN w.heap.size w2.heap.size∧NN w1.heap.size w2.heap.size:=om
  go_wp2
  refine bodyPost_ret (v:=.tuple #[.agg #[.int .i64 kd2,.string ⟨tx2.toArray⟩,.int .i64 nm2,.int .i64 ps2,.string ⟨#[]⟩,.int .i64 0,.slice ao2 kids2.length cp2],.int .i64 5]) zP rfl (yd (hi:=w2.heap.size) (s:=5) (k':=k2) (tx:=tx2) (kids:=kids2) (by rw [←zk HR];simp only [yC,ub,ef etrue,ef efalse,ef enil,ef efunc,ef emake,ef enew,ef eappend,ef ecap,ef eclose,ef elen,ef epanic,et (zk Eprint),h2n etrue efalse,et (zk HL7),zk HQ2]) (row2.ag (yr zu oz) om lr) sq ?_ ?_)
  ·exact yv wg ok oz
  ·exact yw wg oz
 by_cases erecover:(zp C.ts k).text=[114,101,99,111,118,101,114]
 ·skip
  have betrue:((zp C.ts k).text==[116,114,117,101])=false:=beq_eq_false_iff_ne.2 etrue
  have befalse:((zp C.ts k).text==[102,97,108,115,101])=false:=beq_eq_false_iff_ne.2 efalse
  have benil:((zp C.ts k).text==[110,105,108])=false:=beq_eq_false_iff_ne.2 enil
  have befunc:((zp C.ts k).text==[102,117,110,99])=false:=beq_eq_false_iff_ne.2 efunc
  have bemake:((zp C.ts k).text==[109,97,107,101])=false:=beq_eq_false_iff_ne.2 emake
  have benew:((zp C.ts k).text==[110,101,119])=false:=beq_eq_false_iff_ne.2 enew
  have beappend:((zp C.ts k).text==[97,112,112,101,110,100])=false:=beq_eq_false_iff_ne.2 eappend
  have becap:((zp C.ts k).text==[99,97,112])=false:=beq_eq_false_iff_ne.2 ecap
  have beclose:((zp C.ts k).text==[99,108,111,115,101])=false:=beq_eq_false_iff_ne.2 eclose
  have belen:((zp C.ts k).text==[108,101,110])=false:=beq_eq_false_iff_ne.2 elen
  have bepanic:((zp C.ts k).text==[112,97,110,105,99])=false:=beq_eq_false_iff_ne.2 epanic
  have beprint:((zp C.ts k).text==[112,114,105,110,116])=false:=beq_eq_false_iff_ne.2 eprint
  have berecover:((zp C.ts k).text==[114,101,99,111,118,101,114])=true:=by simp [erecover]
  have HL7:=zm (show [[97,112,112,101,110,100],[99,97,112],[99,108,111,115,101],[108,101,110],[112,97,110,105,99],[112,114,105,110,116],[114,101,99,111,118,101,114]].contains (zp C.ts k).text=true from by rw [erecover];decide)
  have Erecover:=zm erecover
  clear erecover
  go_enter Tryz.func154,Tryz.ntmps154
  go_wp2_with fail
  refine qc w ok k h (zy C ok k h _ (zw wg)) (zw wg) (yD wg) fun w1 p1 hg hz1 G1=>?_
  (try simp at hz1)
  have bl0_1:BL w1 w.heap.size (yA):=BL.grown (yN om) hg om
  have hl0_1:=bl0_1.lt
  clear hg
  have ⟨⟨ne1,nf1⟩,⟨ne2,nf2⟩,⟨ne3,nf3⟩⟩:NN C.b w.heap.size∧NN C.b w1.heap.size∧NN w.heap.size w1.heap.size:=om
  go_wp2_with fail
  refine (ih.at.builtinA h k _ (zw wg) (zk H6) (fun hx=>zk HO ((zk HR).symm.trans (by simp only [yC,ub,ef etrue,ef efalse,ef enil,ef efunc,ef emake,ef enew,ef eappend,ef ecap,ef eclose,ef elen,ef epanic,ef eprint,et (zk Erecover),h2n etrue efalse,et (zk HL7),hx])))).mono ?_
  rintro e w2 hp
  rcases hp with ⟨kd2,tx2,nm2,ps2,kids2,s2,k2,ao2,cp2,hq,rfl,hrow,p2,hg⟩ | ⟨pb,rule,hq,rfl,hg⟩
  rotate_left
  (exact ⟨rfl,yj (by rw [←zk HR];simp only [yC,ub,ef etrue,ef efalse,ef enil,ef efunc,ef emake,ef enew,ef eappend,ef ecap,ef eclose,ef elen,ef epanic,ef eprint,et (zk Erecover),h2n etrue efalse,et (zk HL7),hq]) (zl (yD wg) hg)⟩)
  have hz2:=hg.size
  (try simp at hz2)
  have G2:w.grownBy w2 (some C.b):=zl (yD wg) hg
  have bl0_2:BL w2 w.heap.size (yA):=BL.grown (yS wg) hg om
  have hl0_2:=bl0_2.lt
  have zc0_2:=bl0_2.cell
  have fz0_2:=bl0_2.frozen
  have bl1_2:BL w2 w1.heap.size (.cells #[.int .i64 (zp C.ts k).kind,.string ⟨(zp C.ts k).text.toArray⟩,.int .i64 (zp C.ts k).num,.int .i64 (zp C.ts k).pos] 85):=BL.grown (yN om) hg om
  have hl1_2:=bl1_2.lt
  clear bl0_1 p1
  obtain ⟨lo2,hlo2,row2⟩:=hrow.named
  (try simp at hlo2)
  have HQ2:=zm hq
  clear hrow hq hg
  have ⟨⟨ne4,nf4⟩,⟨ne5,nf5⟩,⟨ne6,nf6⟩⟩:NN C.b w2.heap.size∧NN w.heap.size w2.heap.size∧NN w1.heap.size w2.heap.size:=om
  go_wp2
  refine bodyPost_ret (v:=.tuple #[.agg #[.int .i64 kd2,.string ⟨tx2.toArray⟩,.int .i64 nm2,.int .i64 ps2,.string ⟨#[]⟩,.int .i64 0,.slice ao2 kids2.length cp2],.int .i64 5]) zP rfl (yd (hi:=w2.heap.size) (s:=5) (k':=k2) (tx:=tx2) (kids:=kids2) (by rw [←zk HR];simp only [yC,ub,ef etrue,ef efalse,ef enil,ef efunc,ef emake,ef enew,ef eappend,ef ecap,ef eclose,ef elen,ef epanic,ef eprint,et (zk Erecover),h2n etrue efalse,et (zk HL7),zk HQ2]) (row2.ag (yr zu oz) om lr) sq ?_ ?_)
  ·exact yv wg ok oz
  ·exact yw wg oz
 have betrue:((zp C.ts k).text==[116,114,117,101])=false:=beq_eq_false_iff_ne.2 etrue
 have befalse:((zp C.ts k).text==[102,97,108,115,101])=false:=beq_eq_false_iff_ne.2 efalse
 have benil:((zp C.ts k).text==[110,105,108])=false:=beq_eq_false_iff_ne.2 enil
 have befunc:((zp C.ts k).text==[102,117,110,99])=false:=beq_eq_false_iff_ne.2 efunc
 have bemake:((zp C.ts k).text==[109,97,107,101])=false:=beq_eq_false_iff_ne.2 emake
 have benew:((zp C.ts k).text==[110,101,119])=false:=beq_eq_false_iff_ne.2 enew
 have beappend:((zp C.ts k).text==[97,112,112,101,110,100])=false:=beq_eq_false_iff_ne.2 eappend
 have becap:((zp C.ts k).text==[99,97,112])=false:=beq_eq_false_iff_ne.2 ecap
 have beclose:((zp C.ts k).text==[99,108,111,115,101])=false:=beq_eq_false_iff_ne.2 eclose
 have belen:((zp C.ts k).text==[108,101,110])=false:=beq_eq_false_iff_ne.2 elen
 have bepanic:((zp C.ts k).text==[112,97,110,105,99])=false:=beq_eq_false_iff_ne.2 epanic
 have beprint:((zp C.ts k).text==[112,114,105,110,116])=false:=beq_eq_false_iff_ne.2 eprint
 have berecover:((zp C.ts k).text==[114,101,99,111,118,101,114])=false:=beq_eq_false_iff_ne.2 erecover
 go_enter Tryz.func154,Tryz.ntmps154
 go_wp2_with fail
 refine qc w ok k h (zy C ok k h _ (zw wg)) (zw wg) (yD wg) fun w1 p1 hg hz1 G1=>?_
 (try simp at hz1)
 have bl0_1:BL w1 w.heap.size (yA):=BL.grown (yN om) hg om
 have hl0_1:=bl0_1.lt
 clear hg
 have ⟨⟨ne1,nf1⟩,⟨ne2,nf2⟩,⟨ne3,nf3⟩⟩:NN C.b w.heap.size∧NN C.b w1.heap.size∧NN w.heap.size w1.heap.size:=om
 go_wp2_with fail
 refine qc w ok k h (dA C ok k h _ ⟨#[111,112,101,114,97,110,100]⟩ (zw wg)) (zw wg) (yD wg) fun w2 p2 hg hz2 G2=>?_
 (try simp at hz2)
 have bl0_2:BL w2 w.heap.size (yA):=BL.grown (yS wg) hg om
 have hl0_2:=bl0_2.lt
 have bl1_2:BL w2 w1.heap.size (.cells #[.int .i64 (zp C.ts k).kind,.string ⟨(zp C.ts k).text.toArray⟩,.int .i64 (zp C.ts k).num,.int .i64 (zp C.ts k).pos] 85):=BL.grown (yN om) hg om
 have hl1_2:=bl1_2.lt
 clear bl0_1 p1 hg
 have ⟨⟨ne4,nf4⟩,⟨ne5,nf5⟩,⟨ne6,nf6⟩⟩:NN C.b w2.heap.size∧NN w.heap.size w2.heap.size∧NN w1.heap.size w2.heap.size:=om
 go_wp2
 exact yp rfl (yj (by rw [←zk HR];simp only [yC,ub,ef etrue,ef efalse,ef enil,ef efunc,ef emake,ef enew,ef eappend,ef ecap,ef eclose,ef elen,ef epanic,ef eprint,ef erecover,h2n etrue efalse,ef (show ¬[[97,112,112,101,110,100],[99,97,112],[99,108,111,115,101],[108,101,110],[112,97,110,105,99],[112,114,105,110,116],[114,101,99,111,118,101,114]].contains (zp C.ts k).text=true from by simp [eappend,ecap,eclose,elen,epanic,eprint,erecover])]) wg)
open Go.RowKit Lx Px
theorem shaped_w (C:Ctx) (ok:C.Ok) (n:Nat) (ih:All C n):CS C 131 .shaped #[.pointer (some ⟨C.b,0,none⟩)] (n+1):=by
 intro h k w p hout
 have hr:run C.ts (n+1) .shaped h k=bW C.ts (run C.ts n) h k:=rfl
 rw [hr] at hout ⊢
 clear hr
 generalize hR:bW C.ts (run C.ts n) h k=r0 at hout ⊢
 have hbl:=p.lt
 have htb:=ok.lt
 have htf0:=dw
 have htf1:=dL
 have htf3:=bT
 have hmf:=ig
 have G0:=zo w (some C.b)
 have HR:=zm hR
 clear hR
 have HO:=zm hout
 clear hout
 go_enter Tryz.func131,Tryz.ntmps131
 by_cases c1:yb C.ts k [[45],[33],[60,45]]=true
 rotate_left
 ·skip
  go_wp2_with fail
  refine qc w ok k h (isL C ok k h _ (w.heap.size+1) [[45],[33],[60,45]] dc (zw wg) zK) (zw wg) (yD wg) fun w1 p1 hg hz1 G1=>?_
  (try simp at hz1)
  have bl0_1:BL w1 w.heap.size (yA):=BL.grown (yN om) hg om
  have hl0_1:=bl0_1.lt
  clear hg
  have ⟨⟨ne1,nf1⟩,⟨ne2,nf2⟩,⟨ne3,nf3⟩⟩:NN C.b w.heap.size∧NN C.b w1.heap.size∧NN w.heap.size w1.heap.size:=om
  go_wp2_with fail
  refine (ih.at.primary h k _ wg (fun hx=>zk HO ((zk HR).symm.trans (by simp only [bW,ub,ef c1,hx])))).mono ?_
  rintro e w2 hp
  rcases hp with ⟨kd2,tx2,nm2,ps2,kids2,s2,k2,ao2,cp2,hq,rfl,hrow,p2,hg⟩ | ⟨pb,rule,hq,rfl,hg⟩
  rotate_left
  (exact ⟨rfl,yj (by rw [←zk HR];simp only [bW,ub,ef c1,hq]) (zl wg hg)⟩)
  have hz2:=hg.size
  (try simp at hz2)
  have G2:w.grownBy w2 (some C.b):=zl wg hg
  have bl0_2:BL w2 w.heap.size (yA):=BL.grown wg hg om
  have hl0_2:=bl0_2.lt
  have zc0_2:=bl0_2.cell
  have fz0_2:=bl0_2.frozen
  clear bl0_1 p1
  obtain ⟨lo2,hlo2,row2⟩:=hrow.named
  (try simp at hlo2)
  have HQ2:=zm hq
  clear hrow hq hg
  have ⟨⟨ne4,nf4⟩,⟨ne5,nf5⟩⟩:NN C.b w2.heap.size∧NN w.heap.size w2.heap.size:=om
  go_wp2
  refine bodyPost_ret (v:=.tuple #[.agg #[.int .i64 kd2,.string ⟨tx2.toArray⟩,.int .i64 nm2,.int .i64 ps2,.string ⟨#[]⟩,.int .i64 0,.slice ao2 kids2.length cp2],.int .i64 s2]) zZ rfl (yd (hi:=w2.heap.size) (s:=s2) (k':=k2) (tx:=tx2) (kids:=kids2) (by rw [←zk HR];simp only [bW,ub,ef c1,zk HQ2]) (row2.ag (yr zu oz) om lr) sq ?_ ?_)
  ·exact yv wg ok oz
  ·exact yw wg oz
 go_wp2_with fail
 refine qc w ok k h (isL C ok k h _ (w.heap.size+1) [[45],[33],[60,45]] dc (zw wg) zK) (zw wg) (yD wg) fun w1 p1 hg hz1 G1=>?_
 (try simp at hz1)
 have bl0_1:BL w1 w.heap.size (yA):=BL.grown (yN om) hg om
 have hl0_1:=bl0_1.lt
 clear hg
 have ⟨⟨ne1,nf1⟩,⟨ne2,nf2⟩,⟨ne3,nf3⟩⟩:NN C.b w.heap.size∧NN C.b w1.heap.size∧NN w.heap.size w1.heap.size:=om
 go_wp2_with fail
 refine (yR C ok k h _ wg (lu c1)).mono ?_
 rintro e w2 ⟨rfl,p2,hg⟩
 have hz2:=hg.size
 (try simp at hz2)
 have G2:w.grownBy w2 (some C.b):=zl wg hg
 have bl0_2:BL w2 w.heap.size (yA):=BL.grown wg hg om
 have hl0_2:=bl0_2.lt
 clear bl0_1 p1 hg
 have ⟨⟨ne4,nf4⟩,⟨ne5,nf5⟩⟩:NN C.b w2.heap.size∧NN w.heap.size w2.heap.size:=om
 go_wp2
 have HX:=zm (show ∀ w',((w2.alloc (.cells #[.int .i64 (zp C.ts k).kind,.string ⟨(zp C.ts k).text.toArray⟩,.int .i64 (zp C.ts k).num,.int .i64 (zp C.ts k).pos] 85)).drew.alloc yA).grownBy w' (some C.b)→(∀ j,w'.cell? ⟨w2.heap.size+1,j,none⟩=(#[.int .i64 0,.string ⟨#[]⟩,.int .i64 0,.int .i64 0,.string ⟨#[]⟩,.int .i64 0,.slice none 0 0]:Array Value)[j]?)∧(∀ j,w'.frozen? ⟨w2.heap.size+1,j,none⟩=false)∧w2.heap.size+1<w'.heap.size from fun w' hg=>(by have b:BL w' (w2.heap.size+1) yA:=BL.grown (BL.new zK) hg om;exact ⟨b.cell,b.frozen,b.lt⟩))
 go_region_held2 (fun w'=>w'.cell? ⟨w2.heap.size,1,none⟩=some (.string ⟨(zp C.ts k).text.toArray⟩)∧w'.cell? ⟨w2.heap.size,3,none⟩=some (.int .i64 (zp C.ts k).pos)) (go_keep) (first | (go_at_call 145;(refine (ih.at.unary h (k+1) _ (by first | with_reducible exact pw1 (zw wg) | with_reducible exact pw1 (zw (zw wg))) (fun hx=>zk HO ((zk HR).symm.trans (by simp only [bW,ub,et c1,hx])))).mono ?_;rintro e w3 hp;rcases hp with ⟨kd3,tx3,nm3,ps3,kids3,s3,k3,ao3,cp3,hq,rfl,hrow,p3,hg⟩ | ⟨pb,rule,hq,rfl,hg⟩;rotate_left;(exact ⟨rfl,yj (by rw [←zk HR];simp only [bW,ub,et c1,hq]) (zl (by first | with_reducible exact gw1 (yD wg) | with_reducible exact gw1 (yD (yD wg))) hg)⟩);(try (have hx:=(zk HX) _ hg;have zx:=hx.1;have fx:=hx.2.1;have hlx:=hx.2.2;have nx1:¬w2.heap.size+1=w2.heap.size:=om;have nx2:¬w2.heap.size=w2.heap.size+1:=om;have nx3:¬w.heap.size=w2.heap.size+1:=om;have nx4:¬w2.heap.size+1=w.heap.size:=om;clear hx));have hz3:=hg.size;(try simp at hz3);have G3:w.grownBy w3 (some C.b):=zl (by first | with_reducible exact gw1 (yD wg) | with_reducible exact gw1 (yD (yD wg))) hg;have bl0_3:BL w3 w.heap.size (yA):=BL.grown (by first | with_reducible exact bw1 (yS wg) | with_reducible exact bw1 (yS (yS wg))) hg om;have hl0_3:=bl0_3.lt;have zc0_3:=bl0_3.cell;have fz0_3:=bl0_3.frozen;have bl1_3:BL w3 w2.heap.size (.cells #[.int .i64 (zp C.ts k).kind,.string ⟨(zp C.ts k).text.toArray⟩,.int .i64 (zp C.ts k).num,.int .i64 (zp C.ts k).pos] 85):=BL.grown (by first | with_reducible exact bw1 (yN om) | with_reducible exact bw1 (yS (yN om))) hg om;have hl1_3:=bl1_3.lt;have zc1_3:=bl1_3.cell;have fz1_3:=bl1_3.frozen;clear bl0_2;clear p2;obtain ⟨lo3,hlo3,row3⟩:=hrow.named;(try simp at hlo3);have HQ3:=zm hq;clear hrow hq;clear hg;have ne6:¬C.b=w3.heap.size:=om;have nf6:¬w3.heap.size=C.b:=om;have ne7:¬w.heap.size=w3.heap.size:=om;have nf7:¬w3.heap.size=w.heap.size:=om;have ne8:¬w2.heap.size=w3.heap.size:=om;have nf8:¬w3.heap.size=w2.heap.size:=om)))
 ·skip
  by_cases ct:(zp C.ts k).text=[60,45]
  rotate_left
  ·skip
   have bt:((zp C.ts k).text==[60,45])=false:=beq_eq_false_iff_ne.2 ct
   go_wp2
   refine bodyPost_ret (v:=.tuple #[.agg #[.int .i64 41,.string ⟨(zp C.ts k).text.toArray⟩,.int .i64 0,.int .i64 (zp C.ts k).pos,.string ⟨#[]⟩,.int .i64 0,.slice (some ⟨w3.heap.size,0,none⟩) 1 1],.int .i64 0]) zZ rfl (yd (hi:=w3.heap.size+1) (s:=0) (k':=k3) (tx:=(zp C.ts k).text) (kids:=[.mk kd3 tx3 nm3 ps3 kids3]) (by rw [←zk HR];simp only [bW,ub,et c1,zk HQ3,ef ct]) (rowB (cur:=#[.int .i64 kd3,.string ⟨tx3.toArray⟩,.int .i64 nm3,.int .i64 ps3,.string ⟨#[]⟩,.int .i64 0,.slice ao3 kids3.length cp3]) (yS (yN sq)) ((Nd.mk (kd:=kd3) (tx:=tx3) (nm:=nm3) (ps:=ps3) row3).ag (yQ (yQ (yr zu oz) sq) sq)) rfl om om om om (.inr om)) sq ?_ ?_)
   ·exact zw (zw (yv wg ok oz))
   ·exact yD (yD (yw wg oz))
  have bt:((zp C.ts k).text==[60,45])=true:=by simp [ct]
  have CT:=zm ct
  clear ct
  go_wp2
  refine bodyPost_ret (v:=.tuple #[.agg #[.int .i64 41,.string ⟨(zp C.ts k).text.toArray⟩,.int .i64 0,.int .i64 (zp C.ts k).pos,.string ⟨#[]⟩,.int .i64 0,.slice (some ⟨w3.heap.size,0,none⟩) 1 1],.int .i64 1]) zZ rfl (yd (hi:=w3.heap.size+1) (s:=1) (k':=k3) (tx:=(zp C.ts k).text) (kids:=[.mk kd3 tx3 nm3 ps3 kids3]) (by rw [←zk HR];simp only [bW,ub,et c1,zk HQ3,et (zk CT)]) (rowB (cur:=#[.int .i64 kd3,.string ⟨tx3.toArray⟩,.int .i64 nm3,.int .i64 ps3,.string ⟨#[]⟩,.int .i64 0,.slice ao3 kids3.length cp3]) (yS (yN sq)) ((Nd.mk (kd:=kd3) (tx:=tx3) (nm:=nm3) (ps:=ps3) row3).ag (yQ (yQ (yr zu oz) sq) sq)) rfl om om om om (.inr om)) sq ?_ ?_)
  ·exact zw (zw (yv wg ok oz))
  ·exact yD (yD (yw wg oz))
 ·skip
  by_cases ct:(zp C.ts k).text=[60,45]
  rotate_left
  ·skip
   have bt:((zp C.ts k).text==[60,45])=false:=beq_eq_false_iff_ne.2 ct
   go_wp2
   refine bodyPost_ret (v:=.tuple #[.agg #[.int .i64 41,.string ⟨(zp C.ts k).text.toArray⟩,.int .i64 0,.int .i64 (zp C.ts k).pos,.string ⟨#[]⟩,.int .i64 0,.slice (some ⟨w3.heap.size+1,0,none⟩) 1 1],.int .i64 0]) zZ rfl (yd (hi:=w3.heap.size+2) (s:=0) (k':=k3) (tx:=(zp C.ts k).text) (kids:=[.mk kd3 tx3 nm3 ps3 kids3]) (by rw [←zk HR];simp only [bW,ub,et c1,zk HQ3,ef ct]) (rowB (cur:=#[.int .i64 kd3,.string ⟨tx3.toArray⟩,.int .i64 nm3,.int .i64 ps3,.string ⟨#[]⟩,.int .i64 0,.slice ao3 kids3.length cp3]) (yN sq) ((Nd.mk (kd:=kd3) (tx:=tx3) (nm:=nm3) (ps:=ps3) row3).ag (yQ (yQ (yr zu oz) sq) sq)) rfl om om om om (.inr om)) sq ?_ ?_)
   ·exact zw (zw (yv wg ok oz))
   ·exact yD (yD (yw wg oz))
  have bt:((zp C.ts k).text==[60,45])=true:=by simp [ct]
  have CT:=zm ct
  clear ct
  go_wp2
  refine bodyPost_ret (v:=.tuple #[.agg #[.int .i64 41,.string ⟨(zp C.ts k).text.toArray⟩,.int .i64 0,.int .i64 (zp C.ts k).pos,.string ⟨#[]⟩,.int .i64 0,.slice (some ⟨w3.heap.size+1,0,none⟩) 1 1],.int .i64 1]) zZ rfl (yd (hi:=w3.heap.size+2) (s:=1) (k':=k3) (tx:=(zp C.ts k).text) (kids:=[.mk kd3 tx3 nm3 ps3 kids3]) (by rw [←zk HR];simp only [bW,ub,et c1,zk HQ3,et (zk CT)]) (rowB (cur:=#[.int .i64 kd3,.string ⟨tx3.toArray⟩,.int .i64 nm3,.int .i64 ps3,.string ⟨#[]⟩,.int .i64 0,.slice ao3 kids3.length cp3]) (yN sq) ((Nd.mk (kd:=kd3) (tx:=tx3) (nm:=nm3) (ps:=ps3) row3).ag (yQ (yQ (yr zu oz) sq) sq)) rfl om om om om (.inr om)) sq ?_ ?_)
  ·exact zw (zw (yv wg ok oz))
  ·exact yD (yD (yw wg oz))
 ·skip
  by_cases ct:(zp C.ts k).text=[60,45]
  rotate_left
  ·skip
   have bt:((zp C.ts k).text==[60,45])=false:=beq_eq_false_iff_ne.2 ct
   go_wp2
   refine bodyPost_ret (v:=.tuple #[.agg #[.int .i64 41,.string ⟨(zp C.ts k).text.toArray⟩,.int .i64 0,.int .i64 (zp C.ts k).pos,.string ⟨#[]⟩,.int .i64 0,.slice (some ⟨w3.heap.size,0,none⟩) 1 1],.int .i64 0]) zZ rfl (yd (hi:=w3.heap.size+1) (s:=0) (k':=k3) (tx:=(zp C.ts k).text) (kids:=[.mk kd3 tx3 nm3 ps3 kids3]) (by rw [←zk HR];simp only [bW,ub,et c1,zk HQ3,ef ct]) (rowB (cur:=#[.int .i64 kd3,.string ⟨tx3.toArray⟩,.int .i64 nm3,.int .i64 ps3,.string ⟨#[]⟩,.int .i64 0,.slice ao3 kids3.length cp3]) (yN sq) ((Nd.mk (kd:=kd3) (tx:=tx3) (nm:=nm3) (ps:=ps3) row3).ag (yQ (yr (yr zu oz) oz) sq)) rfl om om om om (.inr om)) sq ?_ ?_)
   ·exact zw (yv (yv wg ok oz) ok oz)
   ·exact yD (yw (yw wg oz) oz)
  have bt:((zp C.ts k).text==[60,45])=true:=by simp [ct]
  have CT:=zm ct
  clear ct
  go_wp2
  refine bodyPost_ret (v:=.tuple #[.agg #[.int .i64 41,.string ⟨(zp C.ts k).text.toArray⟩,.int .i64 0,.int .i64 (zp C.ts k).pos,.string ⟨#[]⟩,.int .i64 0,.slice (some ⟨w3.heap.size,0,none⟩) 1 1],.int .i64 1]) zZ rfl (yd (hi:=w3.heap.size+1) (s:=1) (k':=k3) (tx:=(zp C.ts k).text) (kids:=[.mk kd3 tx3 nm3 ps3 kids3]) (by rw [←zk HR];simp only [bW,ub,et c1,zk HQ3,et (zk CT)]) (rowB (cur:=#[.int .i64 kd3,.string ⟨tx3.toArray⟩,.int .i64 nm3,.int .i64 ps3,.string ⟨#[]⟩,.int .i64 0,.slice ao3 kids3.length cp3]) (yN sq) ((Nd.mk (kd:=kd3) (tx:=tx3) (nm:=nm3) (ps:=ps3) row3).ag (yQ (yr (yr zu oz) oz) sq)) rfl om om om om (.inr om)) sq ?_ ?_)
  ·exact zw (yv (yv wg ok oz) ok oz)
  ·exact yD (yw (yw wg oz) oz)
end Go.Proofs.YtgbjpnnockoomaaGreatDoor
