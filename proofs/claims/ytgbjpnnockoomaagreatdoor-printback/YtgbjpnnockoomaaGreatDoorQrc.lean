import Derived.Test.YtgbjpnnockoomaaGreatDoorQg
import Derived.Test.YtgbjpnnockoomaaGreatDoorParB
import Derived.Test.YtgbjpnnockoomaaGreatDoorSteps
set_option linter.unusedVariables false
set_option linter.unusedSimpArgs false
set_option maxHeartbeats 800000
set_option maxRecDepth 100000
namespace Go.Proofs.YtgbjpnnockoomaaGreatDoor
open Go.RowKit Lx Px
theorem listedT_w (C:Ctx) (ok:C.Ok) (n:Nat) (ih:All C n):CL C 75 (.listed .wtype) #[.pointer (some ⟨C.b,0,none⟩),.func (.func 74) #[.pointer (some ⟨C.b,0,none⟩)] #[]] (n+1):=by
 intro h k w p hout
 have hr:run C.ts (n+1) (.listed .wtype) h k=bF C.ts (run C.ts n) .wtype h k:=rfl
 rw [hr] at hout ⊢
 clear hr
 generalize hR:bF C.ts (run C.ts n) .wtype h k=r0 at hout ⊢
 have hbl:=p.lt
 have htb:=ok.lt
 have htf0:=dw
 have htf1:=dL
 have htf3:=bT
 have hmf:=ig
 have G0:=zo w (some C.b)
 have HR:=zm hR
 clear hR
 have HO:=zm hout
 clear hout
 have hkl:=p.kl
 have hfew:=ok.few
 by_cases c0:yb C.ts k [[41]]=true
 ·skip
  go_enter Tryz.func75,Tryz.ntmps75
  go_wp2_with fail
  refine (yU C ok k h _ [41] wg c0).mono ?_
  rintro e w1 ⟨rfl,p1,hg⟩
  have hz1:=hg.size
  (try simp at hz1)
  have G1:w.grownBy w1 (some C.b):=zl wg hg
  clear hg
  have ⟨ne1,nf1⟩:NN C.b w1.heap.size:=om
  go_wp2
  go_ret
  refine yg (hi:=w1.heap.size) (s:=0) (k':=k+1) (l:=[]) (by rw [←zk HR];simp only [bF,ub,et c0]) (zq.nil _ _ _) om ?_ ?_
  ·assumption
  ·assumption
 go_enter Tryz.func75,Tryz.ntmps75
 go_wp2_with fail
 refine qc w ok k h (yV C ok k h _ [41] wg (Bool.eq_false_iff.2 c0)) wg wg fun w1 p1 hg hz1 G1=>?_
 (try simp at hz1)
 clear hg
 have ⟨ne1,nf1⟩:NN C.b w1.heap.size:=om
 go_wp2_with fail
 refine (ih.at.wtype h k _ wg (fun hx=>zk HO ((zk HR).symm.trans (by simp only [bF,ub,ef c0,hx])))).mono ?_
 rintro e w2 hp
 rcases hp with ⟨kd2,tx2,nm2,ps2,kids2,s2,k2,ao2,cp2,hq,rfl,hrow,p2,hg⟩ | ⟨pb,rule,hq,rfl,hg⟩
 rotate_left
 (exact ⟨rfl,yK (by rw [←zk HR];simp only [bF,ub,ef c0,hq]) (zl wg hg)⟩)
 have hz2:=hg.size
 (try simp at hz2)
 have G2:w.grownBy w2 (some C.b):=zl wg hg
 clear p1
 obtain ⟨lo2,hlo2,row2⟩:=hrow.named
 (try simp at hlo2)
 have HQ2:=zm hq
 clear hrow hq hg
 have ⟨ne2,nf2⟩:NN C.b w2.heap.size:=om
 have HR0:Hid (run C.ts n (.listMore .wtype [.mk kd2 tx2 nm2 ps2 kids2]) h k2=r0):=zm (by rw [←zk HR];simp only [bF,ub,ef c0,zk HQ2])
 have rowx:zq (w2.alloc (.cells #[.int .i64 kd2,.string ⟨tx2.toArray⟩,.int .i64 nm2,.int .i64 ps2,.string ⟨#[]⟩,.int .i64 0,.slice ao2 kids2.length cp2] 25)) w.heap.size (w2.heap.size+1) (.slice (some ⟨w2.heap.size,0,none⟩) 1 1) [.mk kd2 tx2 nm2 ps2 kids2]:=rowB (cur:=#[.int .i64 kd2,.string ⟨tx2.toArray⟩,.int .i64 nm2,.int .i64 ps2,.string ⟨#[]⟩,.int .i64 0,.slice ao2 kids2.length cp2]) (BL.new rfl) ((Nd.mk (kd:=kd2) (tx:=tx2) (nm:=nm2) (ps:=ps2) row2).ag (yQ zu sq)) rfl om om om om (.inr om)
 go_wp2
 go_loopg [5] n (fun gk s wr=>∃ (acc:List Tree) (k':Nat) (ao:Option Addr) (cp:Nat),s=.slice ao acc.length cp∧PS wr C k' h∧zq wr w.heap.size wr.heap.size (.slice ao acc.length cp) acc∧w.grownBy wr (some C.b)∧Hid (run C.ts gk (.listMore .wtype acc) h k'=r0)∧gk≤n∧acc.length≤k'+1)
 case atStart=>exact ⟨[.mk kd2 tx2 nm2 ps2 kids2],k2,some ⟨w2.heap.size,0,none⟩,1,rfl,(zw wg),zq.wide rowx lr sq,(yD wg),HR0,Nat.le_refl _,by simp⟩
 case round=>
  skip
  clear HR p2 row2 rowx HQ2
  obtain ⟨acc,k0,ao0,cp0,rfl,p0,row0,Gr,HRr,hle,hacc⟩:=hrel
  obtain ⟨m,rfl⟩:∃ m,gk=m+1:=zJ
  have HR:Hid (yo C.ts (run C.ts m) .wtype acc h k0=r0):=zk HRr
  have hkl0:=p0.kl
  have hzr:=Gr.size
  have ihm:=ih m om
  clear HRr p HR0
  have p2:=p0
  clear p0
  by_cases c1:yb C.ts k0 [[44]]=true
  rotate_left
  ·skip
   go_wp2_with fail
   refine qc w ok k0 h (yV C ok k0 h _ [44] wg (Bool.eq_false_iff.2 c1)) wg wg fun w3 p3 hg hz3 G3=>?_
   (try simp at hz3)
   replace row0:=zq.ag row0 (Ag.grown zu hg om om) lr lr
   clear p2 hg
   have ⟨ne3,nf3⟩:NN C.b w3.heap.size:=om
   by_cases c2:yb C.ts k0 [[41]]=true
   rotate_left
   ·skip
    go_wp2_with fail
    refine (yX C ok k0 h _ ⟨#[108,105,115,116]⟩ [41] wg (Bool.eq_false_iff.2 c2)).mono ?_
    rintro e w4 ⟨rfl,hgq⟩
    exact ⟨rfl,yK (by rw [←zk HR];simp only [yo,ub,ef c1,ef c2]) (zl wg (zn hgq))⟩
   go_wp2_with fail
   refine (yJ C ok k0 h _ ⟨#[108,105,115,116]⟩ [41] wg c2).mono ?_
   rintro e w4 ⟨rfl,p4,hg⟩
   have hz4:=hg.size
   (try simp at hz4)
   have G4:w.grownBy w4 (some C.b):=zl wg hg
   replace row0:=zq.ag row0 (Ag.grown zu hg om om) lr lr
   clear p3 hg
   have ⟨ne4,nf4⟩:NN C.b w4.heap.size:=om
   go_wp2
   go_ret
   refine yg (hi:=wr.heap.size) (s:=0) (k':=k0+1) (l:=acc) (by rw [←zk HR];simp only [yo,ub,ef c1,et c2]) (row0.ag zu om lr) om ?_ ?_
   ·assumption
   ·assumption
  go_wp2_with fail
  refine (yU C ok k0 h _ [44] wg c1).mono ?_
  rintro e w3 ⟨rfl,p3,hg⟩
  have hz3:=hg.size
  (try simp at hz3)
  have G3:w.grownBy w3 (some C.b):=zl wg hg
  replace row0:=zq.ag row0 (Ag.grown zu hg om om) lr lr
  clear p2 hg
  have ⟨ne3,nf3⟩:NN C.b w3.heap.size:=om
  go_wp2_with fail
  refine (ihm.wtype h (k0+1) _ wg (fun hx=>zk HO ((zk HR).symm.trans (by simp only [yo,ub,et c1,hx])))).mono ?_
  rintro e w4 hp
  rcases hp with ⟨kd4,tx4,nm4,ps4,kids4,s4,k4,ao4,cp4,hq,rfl,hrow,p4,hg⟩ | ⟨pb,rule,hq,rfl,hg⟩
  rotate_left
  (exact ⟨rfl,yK (by rw [←zk HR];simp only [yo,ub,et c1,hq]) (zl wg hg)⟩)
  have hz4:=hg.size
  (try simp at hz4)
  have G4:w.grownBy w4 (some C.b):=zl wg hg
  replace row0:=zq.ag row0 (Ag.grown zu hg om om) lr lr
  clear p3
  obtain ⟨lo4,hlo4,row4⟩:=hrow.named
  (try simp at hlo4)
  have HQ4:=zm hq
  clear hrow hq hg
  have ⟨ne4,nf4⟩:NN C.b w4.heap.size:=om
  have hmono:=yq C.ts m .wtype h (k0+1) _ s4 k4 (zk HQ4)
  simp only [st,bnd] at hmono
  have hmon:=hmono.1
  clear hmono
  have hkl2:=p4.kl
  go_wp2_with (first | (at_builtin;(refine dG rfl (.tmp 13) (.tmp 16) rfl (lo:=w.heap.size) (hi:=wr.heap.size) (ao:=ao0) (cp:=cp0) (l:=acc) (t:=.mk kd4 tx4 nm4 ps4 kids4) (A:=lo4) (B:=w4.heap.size) (g0:=w4.heap.size) (cur:=#[.int .i64 kd4,.string ⟨tx4.toArray⟩,.int .i64 nm4,.int .i64 ps4,.string ⟨#[]⟩,.int .i64 0,.slice ao4 kids4.length cp4]) zH (zq.ag row0 (yQ zu om) lr lr) zH (yN om) ((Nd.mk (kd:=kd4) (tx:=tx4) (nm:=nm4) (ps:=ps4) row4).ag (yQ zu sq)) rfl iO om sq sq om sq om ?_;intro g5 cp5 w5 hrw5 hgA hat5 hgl5;have hob:=row0.own;have hz5:=hgA.size;(try simp at hz5);(try simp at hat5);have G5:w.grownBy w5 (some C.b):=yP (yD wg) hgA (fun x hx=>by have:=hob x hx;omega);have p5:=PS.own (C:=C) (k:=k4) (h:=h) (zw wg) ok hgA (fun x hx=>by have:=hob x hx;omega);clear p4 hgA hob;have ne5:¬C.b=w5.heap.size:=om;have nf5:¬w5.heap.size=C.b:=om)))
  have row5:=hrw5 w5 lr rfl (Ag.refl _ _ _) (Ag.refl _ _ _)
  clear hrw5
  go_wp2
  go_roundg m
  case measure=>omega
  case rel=>exact ⟨acc++[.mk kd4 tx4 nm4 ps4 kids4],k4,some ⟨g5,0,none⟩,cp5,by simp,wg,by simpa using zq.ag (hi':=w5.heap.size) row5 zu om om,wg,zm (by rw [←zk HR];simp only [yo,ub,et c1,zk HQ4]),om,by simp;omega⟩
theorem listedE_w (C:Ctx) (ok:C.Ok) (n:Nat) (ih:All C n):CL C 75 (.listed .expr) #[.pointer (some ⟨C.b,0,none⟩),.func (.func 126) #[.pointer (some ⟨C.b,0,none⟩)] #[]] (n+1):=by
 intro h k w p hout
 have hr:run C.ts (n+1) (.listed .expr) h k=bF C.ts (run C.ts n) .expr h k:=rfl
 rw [hr] at hout ⊢
 clear hr
 generalize hR:bF C.ts (run C.ts n) .expr h k=r0 at hout ⊢
 have hbl:=p.lt
 have htb:=ok.lt
 have htf0:=dw
 have htf1:=dL
 have htf3:=bT
 have hmf:=ig
 have G0:=zo w (some C.b)
 have HR:=zm hR
 clear hR
 have HO:=zm hout
 clear hout
 have hkl:=p.kl
 have hfew:=ok.few
 by_cases c0:yb C.ts k [[41]]=true
 ·skip
  go_enter Tryz.func75,Tryz.ntmps75
  go_wp2_with fail
  refine (yU C ok k h _ [41] wg c0).mono ?_
  rintro e w1 ⟨rfl,p1,hg⟩
  have hz1:=hg.size
  (try simp at hz1)
  have G1:w.grownBy w1 (some C.b):=zl wg hg
  clear hg
  have ⟨ne1,nf1⟩:NN C.b w1.heap.size:=om
  go_wp2
  go_ret
  refine yg (hi:=w1.heap.size) (s:=0) (k':=k+1) (l:=[]) (by rw [←zk HR];simp only [bF,ub,et c0]) (zq.nil _ _ _) om ?_ ?_
  ·assumption
  ·assumption
 go_enter Tryz.func75,Tryz.ntmps75
 go_wp2_with fail
 refine qc w ok k h (yV C ok k h _ [41] wg (Bool.eq_false_iff.2 c0)) wg wg fun w1 p1 hg hz1 G1=>?_
 (try simp at hz1)
 clear hg
 have ⟨ne1,nf1⟩:NN C.b w1.heap.size:=om
 go_wp2_with fail
 refine (ih.at.expr h k _ wg (fun hx=>zk HO ((zk HR).symm.trans (by simp only [bF,ub,ef c0,hx])))).mono ?_
 rintro e w2 hp
 rcases hp with ⟨kd2,tx2,nm2,ps2,kids2,s2,k2,ao2,cp2,hq,rfl,hrow,p2,hg⟩ | ⟨pb,rule,hq,rfl,hg⟩
 rotate_left
 (exact ⟨rfl,yK (by rw [←zk HR];simp only [bF,ub,ef c0,hq]) (zl wg hg)⟩)
 have hz2:=hg.size
 (try simp at hz2)
 have G2:w.grownBy w2 (some C.b):=zl wg hg
 clear p1
 obtain ⟨lo2,hlo2,row2⟩:=hrow.named
 (try simp at hlo2)
 have HQ2:=zm hq
 clear hrow hq hg
 have ⟨ne2,nf2⟩:NN C.b w2.heap.size:=om
 have HR0:Hid (run C.ts n (.listMore .expr [.mk kd2 tx2 nm2 ps2 kids2]) h k2=r0):=zm (by rw [←zk HR];simp only [bF,ub,ef c0,zk HQ2])
 have rowx:zq (w2.alloc (.cells #[.int .i64 kd2,.string ⟨tx2.toArray⟩,.int .i64 nm2,.int .i64 ps2,.string ⟨#[]⟩,.int .i64 0,.slice ao2 kids2.length cp2] 25)) w.heap.size (w2.heap.size+1) (.slice (some ⟨w2.heap.size,0,none⟩) 1 1) [.mk kd2 tx2 nm2 ps2 kids2]:=rowB (cur:=#[.int .i64 kd2,.string ⟨tx2.toArray⟩,.int .i64 nm2,.int .i64 ps2,.string ⟨#[]⟩,.int .i64 0,.slice ao2 kids2.length cp2]) (BL.new rfl) ((Nd.mk (kd:=kd2) (tx:=tx2) (nm:=nm2) (ps:=ps2) row2).ag (yQ zu sq)) rfl om om om om (.inr om)
 go_wp2
 go_loopg [5] n (fun gk s wr=>∃ (acc:List Tree) (k':Nat) (ao:Option Addr) (cp:Nat),s=.slice ao acc.length cp∧PS wr C k' h∧zq wr w.heap.size wr.heap.size (.slice ao acc.length cp) acc∧w.grownBy wr (some C.b)∧Hid (run C.ts gk (.listMore .expr acc) h k'=r0)∧gk≤n∧acc.length≤k'+1)
 case atStart=>exact ⟨[.mk kd2 tx2 nm2 ps2 kids2],k2,some ⟨w2.heap.size,0,none⟩,1,rfl,(zw wg),zq.wide rowx lr sq,(yD wg),HR0,Nat.le_refl _,by simp⟩
 case round=>
  skip
  clear HR p2 row2 rowx HQ2
  obtain ⟨acc,k0,ao0,cp0,rfl,p0,row0,Gr,HRr,hle,hacc⟩:=hrel
  obtain ⟨m,rfl⟩:∃ m,gk=m+1:=zJ
  have HR:Hid (yo C.ts (run C.ts m) .expr acc h k0=r0):=zk HRr
  have hkl0:=p0.kl
  have hzr:=Gr.size
  have ihm:=ih m om
  clear HRr p HR0
  have p2:=p0
  clear p0
  by_cases c1:yb C.ts k0 [[44]]=true
  rotate_left
  ·skip
   go_wp2_with fail
   refine qc w ok k0 h (yV C ok k0 h _ [44] wg (Bool.eq_false_iff.2 c1)) wg wg fun w3 p3 hg hz3 G3=>?_
   (try simp at hz3)
   replace row0:=zq.ag row0 (Ag.grown zu hg om om) lr lr
   clear p2 hg
   have ⟨ne3,nf3⟩:NN C.b w3.heap.size:=om
   by_cases c2:yb C.ts k0 [[41]]=true
   rotate_left
   ·skip
    go_wp2_with fail
    refine (yX C ok k0 h _ ⟨#[108,105,115,116]⟩ [41] wg (Bool.eq_false_iff.2 c2)).mono ?_
    rintro e w4 ⟨rfl,hgq⟩
    exact ⟨rfl,yK (by rw [←zk HR];simp only [yo,ub,ef c1,ef c2]) (zl wg (zn hgq))⟩
   go_wp2_with fail
   refine (yJ C ok k0 h _ ⟨#[108,105,115,116]⟩ [41] wg c2).mono ?_
   rintro e w4 ⟨rfl,p4,hg⟩
   have hz4:=hg.size
   (try simp at hz4)
   have G4:w.grownBy w4 (some C.b):=zl wg hg
   replace row0:=zq.ag row0 (Ag.grown zu hg om om) lr lr
   clear p3 hg
   have ⟨ne4,nf4⟩:NN C.b w4.heap.size:=om
   go_wp2
   go_ret
   refine yg (hi:=wr.heap.size) (s:=0) (k':=k0+1) (l:=acc) (by rw [←zk HR];simp only [yo,ub,ef c1,et c2]) (row0.ag zu om lr) om ?_ ?_
   ·assumption
   ·assumption
  go_wp2_with fail
  refine (yU C ok k0 h _ [44] wg c1).mono ?_
  rintro e w3 ⟨rfl,p3,hg⟩
  have hz3:=hg.size
  (try simp at hz3)
  have G3:w.grownBy w3 (some C.b):=zl wg hg
  replace row0:=zq.ag row0 (Ag.grown zu hg om om) lr lr
  clear p2 hg
  have ⟨ne3,nf3⟩:NN C.b w3.heap.size:=om
  go_wp2_with fail
  refine (ihm.expr h (k0+1) _ wg (fun hx=>zk HO ((zk HR).symm.trans (by simp only [yo,ub,et c1,hx])))).mono ?_
  rintro e w4 hp
  rcases hp with ⟨kd4,tx4,nm4,ps4,kids4,s4,k4,ao4,cp4,hq,rfl,hrow,p4,hg⟩ | ⟨pb,rule,hq,rfl,hg⟩
  rotate_left
  (exact ⟨rfl,yK (by rw [←zk HR];simp only [yo,ub,et c1,hq]) (zl wg hg)⟩)
  have hz4:=hg.size
  (try simp at hz4)
  have G4:w.grownBy w4 (some C.b):=zl wg hg
  replace row0:=zq.ag row0 (Ag.grown zu hg om om) lr lr
  clear p3
  obtain ⟨lo4,hlo4,row4⟩:=hrow.named
  (try simp at hlo4)
  have HQ4:=zm hq
  clear hrow hq hg
  have ⟨ne4,nf4⟩:NN C.b w4.heap.size:=om
  have hmono:=yq C.ts m .expr h (k0+1) _ s4 k4 (zk HQ4)
  simp only [st,bnd] at hmono
  have hmon:=hmono.1
  clear hmono
  have hkl2:=p4.kl
  go_wp2_with (first | (at_builtin;(refine dG rfl (.tmp 13) (.tmp 16) rfl (lo:=w.heap.size) (hi:=wr.heap.size) (ao:=ao0) (cp:=cp0) (l:=acc) (t:=.mk kd4 tx4 nm4 ps4 kids4) (A:=lo4) (B:=w4.heap.size) (g0:=w4.heap.size) (cur:=#[.int .i64 kd4,.string ⟨tx4.toArray⟩,.int .i64 nm4,.int .i64 ps4,.string ⟨#[]⟩,.int .i64 0,.slice ao4 kids4.length cp4]) zH (zq.ag row0 (yQ zu om) lr lr) zH (yN om) ((Nd.mk (kd:=kd4) (tx:=tx4) (nm:=nm4) (ps:=ps4) row4).ag (yQ zu sq)) rfl iO om sq sq om sq om ?_;intro g5 cp5 w5 hrw5 hgA hat5 hgl5;have hob:=row0.own;have hz5:=hgA.size;(try simp at hz5);(try simp at hat5);have G5:w.grownBy w5 (some C.b):=yP (yD wg) hgA (fun x hx=>by have:=hob x hx;omega);have p5:=PS.own (C:=C) (k:=k4) (h:=h) (zw wg) ok hgA (fun x hx=>by have:=hob x hx;omega);clear p4 hgA hob;have ne5:¬C.b=w5.heap.size:=om;have nf5:¬w5.heap.size=C.b:=om)))
  have row5:=hrw5 w5 lr rfl (Ag.refl _ _ _) (Ag.refl _ _ _)
  clear hrw5
  go_wp2
  go_roundg m
  case measure=>omega
  case rel=>exact ⟨acc++[.mk kd4 tx4 nm4 ps4 kids4],k4,some ⟨g5,0,none⟩,cp5,by simp,wg,by simpa using zq.ag (hi':=w5.heap.size) row5 zu om om,wg,zm (by rw [←zk HR];simp only [yo,ub,et c1,zk HQ4]),om,by simp;omega⟩
theorem clos_w (C:Ctx) (ok:C.Ok) (m bx:Nat) (cm:Con C m):∀ (h:Bool) (k:Nat) (w:World),PS w C k h→BL w bx (.cells #[.pointer (some ⟨C.b,0,none⟩)] 86)→bx≠C.b→run C.ts m (.named 7) h k≠.out→Calls Tryz.prog 76 #[.pointer (some ⟨bx,0,none⟩)] w (iV C w.heap.size (run C.ts m (.named 7) h k) h w):=by
 intro h k w p hbx hbn hout
 generalize hR:run C.ts m (.named 7) h k=r0 at ⊢
 have hbl:=p.lt
 have G0:=zo w (some C.b)
 have HR:=zm hR
 clear hR
 have hlx:=hbx.lt
 have zx:=hbx.cell
 go_enter Tryz.func76,Tryz.ntmps76
 go_wp2_with fail
 refine (cm.named 7 h k _ (zw wg) hout).mono ?_
 rintro e w1 hp
 rcases hp with ⟨kd1,tx1,nm1,ps1,kids1,s1,k1,ao1,cp1,hq,rfl,hrow,p1,hg⟩ | ⟨pb,rule,hq,rfl,hg⟩
 rotate_left
 (exact ⟨rfl,zs (by rw [←zk HR];simp only [step,ub,hq]) (zl (yD wg) hg)⟩)
 have G1:w.grownBy w1 (some C.b):=zl (yD wg) hg
 have bl0_1:BL w1 w.heap.size (yA):=BL.grown (yN om) hg om
 have zc0_1:=bl0_1.cell
 have fz0_1:=bl0_1.frozen
 obtain ⟨lo1,hlo1,dU⟩:=hrow.named
 (try simp at hlo1)
 have HQ1:=zm hq
 clear hrow hq hg
 go_wp2
 refine bodyPost_ret (v:=.agg #[.int .i64 kd1,.string ⟨tx1.toArray⟩,.int .i64 nm1,.int .i64 ps1,.string ⟨#[]⟩,.int .i64 0,.slice ao1 kids1.length cp1]) (by simp [results,Tryz.results76,go_sem, *]) rfl (yB (hi:=w1.heap.size) (s:=s1) (k':=k1) (tx:=tx1) (kids:=kids1) (by rw [←zk HR];simp only [step,ub,zk HQ1]) (dU.ag (yr zu oz) om lr) sq ?_ ?_)
 ·exact yv wg ok oz
 ·exact yw wg oz
theorem listedN_w (C:Ctx) (ok:C.Ok) (n:Nat) (ih:All C n) (bx:Nat):CLI C 75 (.listed .named) #[.pointer (some ⟨C.b,0,none⟩),.func (.func 76) #[] #[.pointer (some ⟨bx,0,none⟩)]] (n+1) (fun w=>BL w bx (.cells #[.pointer (some ⟨C.b,0,none⟩)] 86)∧bx≠C.b):=by
 intro h k w p hI hout
 have hr:run C.ts (n+1) (.listed .named) h k=bF C.ts (run C.ts n) .named h k:=rfl
 rw [hr] at hout ⊢
 clear hr
 generalize hR:bF C.ts (run C.ts n) .named h k=r0 at hout ⊢
 have hbl:=p.lt
 have htb:=ok.lt
 have htf0:=dw
 have htf1:=dL
 have htf3:=bT
 have hmf:=ig
 have G0:=zo w (some C.b)
 have HR:=zm hR
 clear hR
 have HO:=zm hout
 clear hout
 obtain ⟨hbx,hbn⟩:=hI
 have hlx:=hbx.lt
 have hkl:=p.kl
 have hfew:=ok.few
 by_cases c0:yb C.ts k [[41]]=true
 ·skip
  go_enter Tryz.func75,Tryz.ntmps75
  go_wp2_with fail
  refine (yU C ok k h _ [41] wg c0).mono ?_
  rintro e w1 ⟨rfl,p1,hg⟩
  have hz1:=hg.size
  (try simp at hz1)
  have G1:w.grownBy w1 (some C.b):=zl wg hg
  have bl0_1:BL w1 bx (.cells #[.pointer (some ⟨C.b,0,none⟩)] 86):=BL.grown wg hg om
  have hl0_1:=bl0_1.lt
  clear hg
  have ⟨⟨ne1,nf1⟩,⟨ne2,nf2⟩,⟨ne3,nf3⟩⟩:NN C.b bx∧NN C.b w1.heap.size∧NN bx w1.heap.size:=om
  go_wp2
  go_ret
  refine yg (hi:=w1.heap.size) (s:=0) (k':=k+1) (l:=[]) (by rw [←zk HR];simp only [bF,ub,et c0]) (zq.nil _ _ _) om ?_ ?_
  ·assumption
  ·assumption
 go_enter Tryz.func75,Tryz.ntmps75
 go_wp2_with fail
 refine qc w ok k h (yV C ok k h _ [41] wg (Bool.eq_false_iff.2 c0)) wg wg fun w1 p1 hg hz1 G1=>?_
 (try simp at hz1)
 have bl0_1:BL w1 bx (.cells #[.pointer (some ⟨C.b,0,none⟩)] 86):=BL.grown wg hg om
 have hl0_1:=bl0_1.lt
 clear hg
 have ⟨⟨ne1,nf1⟩,⟨ne2,nf2⟩,⟨ne3,nf3⟩⟩:NN C.b bx∧NN C.b w1.heap.size∧NN bx w1.heap.size:=om
 go_wp2_with fail
 refine (clos_w C ok _ bx ih.at h k _ wg wg hbn (fun hx=>zk HO ((zk HR).symm.trans (by simp only [bF,ub,ef c0,hx])))).mono ?_
 rintro e w2 hp
 rcases hp with ⟨kd2,tx2,nm2,ps2,kids2,s2,k2,ao2,cp2,hq,rfl,hrow,p2,hg⟩ | ⟨pb,rule,hq,rfl,hg⟩
 rotate_left
 (exact ⟨rfl,yK (by rw [←zk HR];simp only [bF,ub,ef c0,hq]) (zl wg hg)⟩)
 have hz2:=hg.size
 (try simp at hz2)
 have G2:w.grownBy w2 (some C.b):=zl wg hg
 have bl0_2:BL w2 bx (.cells #[.pointer (some ⟨C.b,0,none⟩)] 86):=BL.grown wg hg om
 have hl0_2:=bl0_2.lt
 clear bl0_1 p1
 obtain ⟨lo2,hlo2,row2⟩:=hrow.named
 (try simp at hlo2)
 have HQ2:=zm hq
 clear hrow hq hg
 have ⟨⟨ne4,nf4⟩,⟨ne5,nf5⟩⟩:NN C.b w2.heap.size∧NN bx w2.heap.size:=om
 have HR0:Hid (run C.ts n (.listMore .named [.mk kd2 tx2 nm2 ps2 kids2]) h k2=r0):=zm (by rw [←zk HR];simp only [bF,ub,ef c0,zk HQ2])
 have rowx:zq (w2.alloc (.cells #[.int .i64 kd2,.string ⟨tx2.toArray⟩,.int .i64 nm2,.int .i64 ps2,.string ⟨#[]⟩,.int .i64 0,.slice ao2 kids2.length cp2] 25)) w.heap.size (w2.heap.size+1) (.slice (some ⟨w2.heap.size,0,none⟩) 1 1) [.mk kd2 tx2 nm2 ps2 kids2]:=rowB (cur:=#[.int .i64 kd2,.string ⟨tx2.toArray⟩,.int .i64 nm2,.int .i64 ps2,.string ⟨#[]⟩,.int .i64 0,.slice ao2 kids2.length cp2]) (BL.new rfl) ((Nd.mk (kd:=kd2) (tx:=tx2) (nm:=nm2) (ps:=ps2) row2).ag (yQ zu sq)) rfl om om om om (.inr om)
 go_wp2
 go_loopg [5] n (fun gk s wr=>∃ (acc:List Tree) (k':Nat) (ao:Option Addr) (cp:Nat),s=.slice ao acc.length cp∧PS wr C k' h∧zq wr w.heap.size wr.heap.size (.slice ao acc.length cp) acc∧w.grownBy wr (some C.b)∧Hid (run C.ts gk (.listMore .named acc) h k'=r0)∧gk≤n∧acc.length≤k'+1∧BL wr bx (.cells #[.pointer (some ⟨C.b,0,none⟩)] 86))
 case atStart=>exact ⟨[.mk kd2 tx2 nm2 ps2 kids2],k2,some ⟨w2.heap.size,0,none⟩,1,rfl,(zw wg),zq.wide rowx lr sq,(yD wg),HR0,Nat.le_refl _,by simp,(yS wg)⟩
 case round=>
  clear bl0_2 HR p2 row2 rowx HQ2
  obtain ⟨acc,k0,ao0,cp0,rfl,p0,row0,Gr,HRr,hle,hacc,bxr⟩:=hrel
  obtain ⟨m,rfl⟩:∃ m,gk=m+1:=zJ
  have HR:Hid (yo C.ts (run C.ts m) .named acc h k0=r0):=zk HRr
  have hkl0:=p0.kl
  have hzr:=Gr.size
  have ihm:=ih m om
  clear HRr p HR0
  have hlxr:=bxr.lt
  have p2:=p0
  clear p0
  by_cases c1:yb C.ts k0 [[44]]=true
  rotate_left
  ·skip
   go_wp2_with fail
   refine qc w ok k0 h (yV C ok k0 h _ [44] wg (Bool.eq_false_iff.2 c1)) wg wg fun w3 p3 hg hz3 G3=>?_
   (try simp at hz3)
   replace row0:=zq.ag row0 (Ag.grown zu hg om om) lr lr
   have bl0_3:BL w3 bx (.cells #[.pointer (some ⟨C.b,0,none⟩)] 86):=BL.grown wg hg om
   have hl0_3:=bl0_3.lt
   clear p2 hg
   have ⟨⟨ne6,nf6⟩,⟨ne7,nf7⟩⟩:NN C.b w3.heap.size∧NN bx w3.heap.size:=om
   by_cases c2:yb C.ts k0 [[41]]=true
   rotate_left
   ·skip
    go_wp2_with fail
    refine (yX C ok k0 h _ ⟨#[108,105,115,116]⟩ [41] wg (Bool.eq_false_iff.2 c2)).mono ?_
    rintro e w4 ⟨rfl,hgq⟩
    exact ⟨rfl,yK (by rw [←zk HR];simp only [yo,ub,ef c1,ef c2]) (zl wg (zn hgq))⟩
   go_wp2_with fail
   refine (yJ C ok k0 h _ ⟨#[108,105,115,116]⟩ [41] wg c2).mono ?_
   rintro e w4 ⟨rfl,p4,hg⟩
   have hz4:=hg.size
   (try simp at hz4)
   have G4:w.grownBy w4 (some C.b):=zl wg hg
   replace row0:=zq.ag row0 (Ag.grown zu hg om om) lr lr
   have bl0_4:BL w4 bx (.cells #[.pointer (some ⟨C.b,0,none⟩)] 86):=BL.grown wg hg om
   have hl0_4:=bl0_4.lt
   clear bl0_3 p3 hg
   have ⟨⟨ne8,nf8⟩,⟨ne9,nf9⟩⟩:NN C.b w4.heap.size∧NN bx w4.heap.size:=om
   go_wp2
   go_ret
   refine yg (hi:=wr.heap.size) (s:=0) (k':=k0+1) (l:=acc) (by rw [←zk HR];simp only [yo,ub,ef c1,et c2]) (row0.ag zu om lr) om ?_ ?_
   ·assumption
   ·assumption
  go_wp2_with fail
  refine (yU C ok k0 h _ [44] wg c1).mono ?_
  rintro e w3 ⟨rfl,p3,hg⟩
  have hz3:=hg.size
  (try simp at hz3)
  have G3:w.grownBy w3 (some C.b):=zl wg hg
  replace row0:=zq.ag row0 (Ag.grown zu hg om om) lr lr
  have bl0_3:BL w3 bx (.cells #[.pointer (some ⟨C.b,0,none⟩)] 86):=BL.grown wg hg om
  have hl0_3:=bl0_3.lt
  clear p2 hg
  have ⟨⟨ne6,nf6⟩,⟨ne7,nf7⟩⟩:NN C.b w3.heap.size∧NN bx w3.heap.size:=om
  go_wp2_with fail
  refine (clos_w C ok _ bx ihm h (k0+1) _ wg wg hbn (fun hx=>zk HO ((zk HR).symm.trans (by simp only [yo,ub,et c1,hx])))).mono ?_
  rintro e w4 hp
  rcases hp with ⟨kd4,tx4,nm4,ps4,kids4,s4,k4,ao4,cp4,hq,rfl,hrow,p4,hg⟩ | ⟨pb,rule,hq,rfl,hg⟩
  rotate_left
  (exact ⟨rfl,yK (by rw [←zk HR];simp only [yo,ub,et c1,hq]) (zl wg hg)⟩)
  have hz4:=hg.size
  (try simp at hz4)
  have G4:w.grownBy w4 (some C.b):=zl wg hg
  replace row0:=zq.ag row0 (Ag.grown zu hg om om) lr lr
  have bl0_4:BL w4 bx (.cells #[.pointer (some ⟨C.b,0,none⟩)] 86):=BL.grown wg hg om
  have hl0_4:=bl0_4.lt
  clear bl0_3 p3
  obtain ⟨lo4,hlo4,row4⟩:=hrow.named
  (try simp at hlo4)
  have HQ4:=zm hq
  clear hrow hq hg
  have ⟨⟨ne8,nf8⟩,⟨ne9,nf9⟩⟩:NN C.b w4.heap.size∧NN bx w4.heap.size:=om
  have hmono:=yq C.ts m (.named 7) h (k0+1) _ s4 k4 (zk HQ4)
  simp only [st,bnd] at hmono
  have hmon:=hmono.1
  clear hmono
  have hkl2:=p4.kl
  go_wp2_with (first | (at_builtin;(refine dG rfl (.tmp 13) (.tmp 16) rfl (lo:=w.heap.size) (hi:=wr.heap.size) (ao:=ao0) (cp:=cp0) (l:=acc) (t:=.mk kd4 tx4 nm4 ps4 kids4) (A:=lo4) (B:=w4.heap.size) (g0:=w4.heap.size) (cur:=#[.int .i64 kd4,.string ⟨tx4.toArray⟩,.int .i64 nm4,.int .i64 ps4,.string ⟨#[]⟩,.int .i64 0,.slice ao4 kids4.length cp4]) zH (zq.ag row0 (yQ zu om) lr lr) zH (yN om) ((Nd.mk (kd:=kd4) (tx:=tx4) (nm:=nm4) (ps:=ps4) row4).ag (yQ zu sq)) rfl iO om sq sq om sq om ?_;intro g5 cp5 w5 hrw5 hgA hat5 hgl5;have hob:=row0.own;have hz5:=hgA.size;(try simp at hz5);(try simp at hat5);have G5:w.grownBy w5 (some C.b):=yP (yD wg) hgA (fun x hx=>by have:=hob x hx;omega);have p5:=PS.own (C:=C) (k:=k4) (h:=h) (zw wg) ok hgA (fun x hx=>by have:=hob x hx;omega);have bl0_5:BL w5 bx (.cells #[.pointer (some ⟨C.b,0,none⟩)] 86):=BL.own (yS wg) hgA (fun e=>by have:=hob _ e.symm;omega);have hl0_5:=bl0_5.lt;have zc0_5:=bl0_5.cell;have fz0_5:=bl0_5.frozen;clear bl0_4;clear p4 hgA hob;have ne10:¬C.b=w5.heap.size:=om;have nf10:¬w5.heap.size=C.b:=om;have ne11:¬bx=w5.heap.size:=om;have nf11:¬w5.heap.size=bx:=om)))
  have row5:=hrw5 w5 lr rfl (Ag.refl _ _ _) (Ag.refl _ _ _)
  clear hrw5
  go_wp2
  go_roundg m
  case measure=>omega
  case rel=>exact ⟨acc++[.mk kd4 tx4 nm4 ps4 kids4],k4,some ⟨g5,0,none⟩,cp5,by simp,wg,by simpa using zq.ag (hi':=w5.heap.size) row5 zu om om,wg,zm (by rw [←zk HR];simp only [yo,ub,et c1,zk HQ4]),om,by simp;omega,wg⟩
open Go.RowKit Lx Px
theorem clausesF_w (C:Ctx) (ok:C.Ok) (n:Nat) (ih:All C n):CL C 139 (.clauses false) #[.pointer (some ⟨C.b,0,none⟩),.func (.func 140) #[.pointer (some ⟨C.b,0,none⟩)] #[]] (n+1):=by
 intro h k w p hout
 have hr:run C.ts (n+1) (.clauses false) h k=dJ C.ts (run C.ts n) false h k:=rfl
 rw [hr] at hout ⊢
 clear hr
 generalize hR:dJ C.ts (run C.ts n) false h k=r0 at hout ⊢
 have hbl:=p.lt
 have htb:=ok.lt
 have htf0:=dw
 have htf1:=dL
 have htf3:=bT
 have hmf:=ig
 have G0:=zo w (some C.b)
 have HR:=zm hR
 clear hR
 have HO:=zm hout
 clear hout
 have hkl:=p.kl
 have hfew:=ok.few
 go_enter Tryz.func139,Tryz.ntmps139
 by_cases c0:yb C.ts k [[123]]=true
 rotate_left
 ·skip
  go_wp2_with fail
  refine (yX C ok k h _ ⟨#[99,108,97,117,115,101,115]⟩ [123] wg (Bool.eq_false_iff.2 c0)).mono ?_
  rintro e w1 ⟨rfl,hgq⟩
  exact ⟨rfl,yK (by rw [←zk HR];simp only [dJ,ub,ef c0]) (zl wg (zn hgq))⟩
 go_wp2_with fail
 refine (yJ C ok k h _ ⟨#[99,108,97,117,115,101,115]⟩ [123] wg c0).mono ?_
 rintro e w1 ⟨rfl,p1,hg⟩
 have hz1:=hg.size
 (try simp at hz1)
 have G1:w.grownBy w1 (some C.b):=zl wg hg
 clear hg
 have ⟨ne1,nf1⟩:NN C.b w1.heap.size:=om
 have HR0:Hid (run C.ts n (.clausesMore false []) h (k+1)=r0):=zm (by rw [←zk HR];simp only [dJ,ub,et c0])
 go_wp2
 go_loopg [5] n (fun gk s wr=>∃ (acc:List Tree) (k':Nat) (ao:Option Addr) (cp:Nat),s=.slice ao acc.length cp∧PS wr C k' h∧zq wr w.heap.size wr.heap.size (.slice ao acc.length cp) acc∧w.grownBy wr (some C.b)∧Hid (run C.ts gk (.clausesMore false acc) h k'=r0)∧gk≤n∧acc.length≤k')
 case atStart=>exact ⟨[],k+1,none,0,rfl,wg,zq.nil _ _ _,wg,HR0,Nat.le_refl _,Nat.zero_le _⟩
 case round=>
  clear HR p1
  obtain ⟨acc,k0,ao0,cp0,rfl,p0,row0,Gr,HRr,hle,hacc⟩:=hrel
  obtain ⟨m,rfl⟩:∃ m,gk=m+1:=zJ
  have HR:Hid (yu C.ts (run C.ts m) false acc h k0=r0):=zk HRr
  have hkl0:=p0.kl
  have hzr:=Gr.size
  have ihm:=ih m om
  clear HRr p HR0
  have p1:=p0
  clear p0
  by_cases c1:yb C.ts k0 [[125]]=true
  ·skip
   go_wp2_with fail
   refine (yU C ok k0 h _ [125] wg c1).mono ?_
   rintro e w2 ⟨rfl,p2,hg⟩
   have hz2:=hg.size
   (try simp at hz2)
   have G2:w.grownBy w2 (some C.b):=zl wg hg
   replace row0:=zq.ag row0 (Ag.grown zu hg om om) lr lr
   clear p1 hg
   have ⟨ne2,nf2⟩:NN C.b w2.heap.size:=om
   go_wp2
   go_ret
   refine yg (hi:=wr.heap.size) (s:=0) (k':=k0+1) (l:=acc) (by rw [←zk HR];simp only [yu,Bool.false_eq_true,ub,et c1]) (row0.ag zu om lr) om ?_ ?_
   ·assumption
   ·assumption
  go_wp2_with fail
  refine qc w ok k0 h (yV C ok k0 h _ [125] wg (Bool.eq_false_iff.2 c1)) wg wg fun w2 p2 hg hz2 G2=>?_
  (try simp at hz2)
  replace row0:=zq.ag row0 (Ag.grown zu hg om om) lr lr
  clear p1 hg
  have ⟨ne2,nf2⟩:NN C.b w2.heap.size:=om
  go_wp2_with fail
  refine (ihm.clause h k0 _ wg (fun hx=>zk HO ((zk HR).symm.trans (by simp only [yu,Bool.false_eq_true,ub,ef c1,hx])))).mono ?_
  rintro e w3 hp
  rcases hp with ⟨kd3,tx3,nm3,ps3,kids3,s3,k3,ao3,cp3,hq,rfl,hrow,p3,hg⟩ | ⟨pb,rule,hq,rfl,hg⟩
  rotate_left
  (exact ⟨rfl,yK (by rw [←zk HR];simp only [yu,Bool.false_eq_true,ub,ef c1,hq]) (zl wg hg)⟩)
  have hz3:=hg.size
  (try simp at hz3)
  have G3:w.grownBy w3 (some C.b):=zl wg hg
  replace row0:=zq.ag row0 (Ag.grown zu hg om om) lr lr
  clear p2
  obtain ⟨lo3,hlo3,row3⟩:=hrow.named
  (try simp at hlo3)
  have HQ3:=zm hq
  clear hrow hq hg
  have ⟨ne3,nf3⟩:NN C.b w3.heap.size:=om
  have hmono:=yq C.ts m .clause h k0 _ s3 k3 (zk HQ3)
  simp only [st,bnd] at hmono
  have hmon:=hmono.1
  clear hmono
  have hkl2:=p3.kl
  go_wp2_with (first | (at_builtin;(refine dG rfl (.tmp 11) (.tmp 14) rfl (lo:=w.heap.size) (hi:=wr.heap.size) (ao:=ao0) (cp:=cp0) (l:=acc) (t:=.mk kd3 tx3 nm3 ps3 kids3) (A:=lo3) (B:=w3.heap.size) (g0:=w3.heap.size) (cur:=#[.int .i64 kd3,.string ⟨tx3.toArray⟩,.int .i64 nm3,.int .i64 ps3,.string ⟨#[]⟩,.int .i64 0,.slice ao3 kids3.length cp3]) zH (zq.ag row0 (yQ zu om) lr lr) zH (yN om) ((Nd.mk (kd:=kd3) (tx:=tx3) (nm:=nm3) (ps:=ps3) row3).ag (yQ zu sq)) rfl iO om sq sq om sq om ?_;intro g4 cp4 w4 hrw4 hgA hat4 hgl4;have hob:=row0.own;have hz4:=hgA.size;(try simp at hz4);(try simp at hat4);have G4:w.grownBy w4 (some C.b):=yP (yD wg) hgA (fun x hx=>by have:=hob x hx;omega);have p4:=PS.own (C:=C) (k:=k3) (h:=h) (zw wg) ok hgA (fun x hx=>by have:=hob x hx;omega);clear p3 hgA hob;have ne4:¬C.b=w4.heap.size:=om;have nf4:¬w4.heap.size=C.b:=om)))
  have row4:=hrw4 w4 lr rfl (Ag.refl _ _ _) (Ag.refl _ _ _)
  clear hrw4
  go_wp2
  go_roundg m
  case measure=>omega
  case rel=>exact ⟨acc++[.mk kd3 tx3 nm3 ps3 kids3],k3,some ⟨g4,0,none⟩,cp4,by simp,wg,by simpa using zq.ag (hi':=w4.heap.size) row4 zu om om,wg,zm (by rw [←zk HR];simp only [yu,Bool.false_eq_true,ub,ef c1,zk HQ3]),om,by simp;omega⟩
theorem clausesT_w (C:Ctx) (ok:C.Ok) (n:Nat) (ih:All C n):CL C 139 (.clauses true) #[.pointer (some ⟨C.b,0,none⟩),.func (.func 141) #[.pointer (some ⟨C.b,0,none⟩)] #[]] (n+1):=by
 intro h k w p hout
 have hr:run C.ts (n+1) (.clauses true) h k=dJ C.ts (run C.ts n) true h k:=rfl
 rw [hr] at hout ⊢
 clear hr
 generalize hR:dJ C.ts (run C.ts n) true h k=r0 at hout ⊢
 have hbl:=p.lt
 have htb:=ok.lt
 have htf0:=dw
 have htf1:=dL
 have htf3:=bT
 have hmf:=ig
 have G0:=zo w (some C.b)
 have HR:=zm hR
 clear hR
 have HO:=zm hout
 clear hout
 have hkl:=p.kl
 have hfew:=ok.few
 go_enter Tryz.func139,Tryz.ntmps139
 by_cases c0:yb C.ts k [[123]]=true
 rotate_left
 ·skip
  go_wp2_with fail
  refine (yX C ok k h _ ⟨#[99,108,97,117,115,101,115]⟩ [123] wg (Bool.eq_false_iff.2 c0)).mono ?_
  rintro e w1 ⟨rfl,hgq⟩
  exact ⟨rfl,yK (by rw [←zk HR];simp only [dJ,ub,ef c0]) (zl wg (zn hgq))⟩
 go_wp2_with fail
 refine (yJ C ok k h _ ⟨#[99,108,97,117,115,101,115]⟩ [123] wg c0).mono ?_
 rintro e w1 ⟨rfl,p1,hg⟩
 have hz1:=hg.size
 (try simp at hz1)
 have G1:w.grownBy w1 (some C.b):=zl wg hg
 clear hg
 have ⟨ne1,nf1⟩:NN C.b w1.heap.size:=om
 have HR0:Hid (run C.ts n (.clausesMore true []) h (k+1)=r0):=zm (by rw [←zk HR];simp only [dJ,ub,et c0])
 go_wp2
 go_loopg [5] n (fun gk s wr=>∃ (acc:List Tree) (k':Nat) (ao:Option Addr) (cp:Nat),s=.slice ao acc.length cp∧PS wr C k' h∧zq wr w.heap.size wr.heap.size (.slice ao acc.length cp) acc∧w.grownBy wr (some C.b)∧Hid (run C.ts gk (.clausesMore true acc) h k'=r0)∧gk≤n∧acc.length≤k')
 case atStart=>exact ⟨[],k+1,none,0,rfl,wg,zq.nil _ _ _,wg,HR0,Nat.le_refl _,Nat.zero_le _⟩
 case round=>
  clear HR p1
  obtain ⟨acc,k0,ao0,cp0,rfl,p0,row0,Gr,HRr,hle,hacc⟩:=hrel
  obtain ⟨m,rfl⟩:∃ m,gk=m+1:=zJ
  have HR:Hid (yu C.ts (run C.ts m) true acc h k0=r0):=zk HRr
  have hkl0:=p0.kl
  have hzr:=Gr.size
  have ihm:=ih m om
  clear HRr p HR0
  have p1:=p0
  clear p0
  by_cases c1:yb C.ts k0 [[125]]=true
  ·skip
   go_wp2_with fail
   refine (yU C ok k0 h _ [125] wg c1).mono ?_
   rintro e w2 ⟨rfl,p2,hg⟩
   have hz2:=hg.size
   (try simp at hz2)
   have G2:w.grownBy w2 (some C.b):=zl wg hg
   replace row0:=zq.ag row0 (Ag.grown zu hg om om) lr lr
   clear p1 hg
   have ⟨ne2,nf2⟩:NN C.b w2.heap.size:=om
   go_wp2
   go_ret
   refine yg (hi:=wr.heap.size) (s:=0) (k':=k0+1) (l:=acc) (by rw [←zk HR];simp only [yu,Bool.false_eq_true,ub,et c1]) (row0.ag zu om lr) om ?_ ?_
   ·assumption
   ·assumption
  go_wp2_with fail
  refine qc w ok k0 h (yV C ok k0 h _ [125] wg (Bool.eq_false_iff.2 c1)) wg wg fun w2 p2 hg hz2 G2=>?_
  (try simp at hz2)
  replace row0:=zq.ag row0 (Ag.grown zu hg om om) lr lr
  clear p1 hg
  have ⟨ne2,nf2⟩:NN C.b w2.heap.size:=om
  go_wp2_with fail
  refine (ihm.comm h k0 _ wg (fun hx=>zk HO ((zk HR).symm.trans (by simp only [yu,Bool.false_eq_true,ub,ef c1,hx])))).mono ?_
  rintro e w3 hp
  rcases hp with ⟨kd3,tx3,nm3,ps3,kids3,s3,k3,ao3,cp3,hq,rfl,hrow,p3,hg⟩ | ⟨pb,rule,hq,rfl,hg⟩
  rotate_left
  (exact ⟨rfl,yK (by rw [←zk HR];simp only [yu,Bool.false_eq_true,ub,ef c1,hq]) (zl wg hg)⟩)
  have hz3:=hg.size
  (try simp at hz3)
  have G3:w.grownBy w3 (some C.b):=zl wg hg
  replace row0:=zq.ag row0 (Ag.grown zu hg om om) lr lr
  clear p2
  obtain ⟨lo3,hlo3,row3⟩:=hrow.named
  (try simp at hlo3)
  have HQ3:=zm hq
  clear hrow hq hg
  have ⟨ne3,nf3⟩:NN C.b w3.heap.size:=om
  have hmono:=yq C.ts m .comm h k0 _ s3 k3 (zk HQ3)
  simp only [st,bnd] at hmono
  have hmon:=hmono.1
  clear hmono
  have hkl2:=p3.kl
  go_wp2_with (first | (at_builtin;(refine dG rfl (.tmp 11) (.tmp 14) rfl (lo:=w.heap.size) (hi:=wr.heap.size) (ao:=ao0) (cp:=cp0) (l:=acc) (t:=.mk kd3 tx3 nm3 ps3 kids3) (A:=lo3) (B:=w3.heap.size) (g0:=w3.heap.size) (cur:=#[.int .i64 kd3,.string ⟨tx3.toArray⟩,.int .i64 nm3,.int .i64 ps3,.string ⟨#[]⟩,.int .i64 0,.slice ao3 kids3.length cp3]) zH (zq.ag row0 (yQ zu om) lr lr) zH (yN om) ((Nd.mk (kd:=kd3) (tx:=tx3) (nm:=nm3) (ps:=ps3) row3).ag (yQ zu sq)) rfl iO om sq sq om sq om ?_;intro g4 cp4 w4 hrw4 hgA hat4 hgl4;have hob:=row0.own;have hz4:=hgA.size;(try simp at hz4);(try simp at hat4);have G4:w.grownBy w4 (some C.b):=yP (yD wg) hgA (fun x hx=>by have:=hob x hx;omega);have p4:=PS.own (C:=C) (k:=k3) (h:=h) (zw wg) ok hgA (fun x hx=>by have:=hob x hx;omega);clear p3 hgA hob;have ne4:¬C.b=w4.heap.size:=om;have nf4:¬w4.heap.size=C.b:=om)))
  have row4:=hrw4 w4 lr rfl (Ag.refl _ _ _) (Ag.refl _ _ _)
  clear hrw4
  go_wp2
  go_roundg m
  case measure=>omega
  case rel=>exact ⟨acc++[.mk kd3 tx3 nm3 ps3 kids3],k3,some ⟨g4,0,none⟩,cp4,by simp,wg,by simpa using zq.ag (hi':=w4.heap.size) row4 zu om om,wg,zm (by rw [←zk HR];simp only [yu,Bool.false_eq_true,ub,ef c1,zk HQ3]),om,by simp;omega⟩
theorem bracedI_w (C:Ctx) (ok:C.Ok) (n:Nat) (ih:All C n):CL C 165 (.braced .initial) #[.pointer (some ⟨C.b,0,none⟩),.func (.func 166) #[.pointer (some ⟨C.b,0,none⟩)] #[]] (n+1):=by
 intro h k w p hout
 have hr:run C.ts (n+1) (.braced .initial) h k=eP C.ts (run C.ts n) .initial h k:=rfl
 rw [hr] at hout ⊢
 clear hr
 generalize hR:eP C.ts (run C.ts n) .initial h k=r0 at hout ⊢
 have hbl:=p.lt
 have htb:=ok.lt
 have htf0:=dw
 have htf1:=dL
 have htf3:=bT
 have hmf:=ig
 have G0:=zo w (some C.b)
 have HR:=zm hR
 clear hR
 have HO:=zm hout
 clear hout
 have hkl:=p.kl
 have hfew:=ok.few
 go_enter Tryz.func165,Tryz.ntmps165
 by_cases c0:yb C.ts k [[123]]=true
 rotate_left
 ·skip
  go_wp2_with fail
  refine (yX C ok k h _ ⟨#[111,112,101,114,97,110,100]⟩ [123] wg (Bool.eq_false_iff.2 c0)).mono ?_
  rintro e w1 ⟨rfl,hgq⟩
  exact ⟨rfl,yK (by rw [←zk HR];simp only [eP,ub,ef c0]) (zl wg (zn hgq))⟩
 go_wp2_with fail
 refine (yJ C ok k h _ ⟨#[111,112,101,114,97,110,100]⟩ [123] wg c0).mono ?_
 rintro e w1 ⟨rfl,p1,hg⟩
 have hz1:=hg.size
 (try simp at hz1)
 have G1:w.grownBy w1 (some C.b):=zl wg hg
 clear hg
 have ⟨ne1,nf1⟩:NN C.b w1.heap.size:=om
 have HR0:Hid (run C.ts n (.bracedMore .initial []) h (k+1)=r0):=zm (by rw [←zk HR];simp only [eP,ub,et c0])
 go_wp2
 go_loopg [5] n (fun gk s wr=>∃ (acc:List Tree) (k':Nat) (ao:Option Addr) (cp:Nat),s=.slice ao acc.length cp∧PS wr C k' h∧zq wr w.heap.size wr.heap.size (.slice ao acc.length cp) acc∧w.grownBy wr (some C.b)∧Hid (run C.ts gk (.bracedMore .initial acc) h k'=r0)∧gk≤n∧acc.length≤k')
 case atStart=>exact ⟨[],k+1,none,0,rfl,wg,zq.nil _ _ _,wg,HR0,Nat.le_refl _,Nat.zero_le _⟩
 case round=>
  clear HR p1
  obtain ⟨acc,k0,ao0,cp0,rfl,p0,row0,Gr,HRr,hle,hacc⟩:=hrel
  obtain ⟨m,rfl⟩:∃ m,gk=m+1:=zJ
  have HR:Hid (yk C.ts (run C.ts m) .initial acc h k0=r0):=zk HRr
  have hkl0:=p0.kl
  have hzr:=Gr.size
  have ihm:=ih m om
  clear HRr p HR0
  have p1:=p0
  clear p0
  by_cases c1:yb C.ts k0 [[125]]=true
  ·skip
   go_wp2_with fail
   refine (yU C ok k0 h _ [125] wg c1).mono ?_
   rintro e w2 ⟨rfl,p2,hg⟩
   have hz2:=hg.size
   (try simp at hz2)
   have G2:w.grownBy w2 (some C.b):=zl wg hg
   replace row0:=zq.ag row0 (Ag.grown zu hg om om) lr lr
   clear p1 hg
   have ⟨ne2,nf2⟩:NN C.b w2.heap.size:=om
   go_wp2
   go_ret
   refine yg (hi:=wr.heap.size) (s:=0) (k':=k0+1) (l:=acc) (by rw [←zk HR];simp only [yk,ub,et c1]) (row0.ag zu om lr) om ?_ ?_
   ·assumption
   ·assumption
  go_wp2_with fail
  refine qc w ok k0 h (yV C ok k0 h _ [125] wg (Bool.eq_false_iff.2 c1)) wg wg fun w2 p2 hg hz2 G2=>?_
  (try simp at hz2)
  replace row0:=zq.ag row0 (Ag.grown zu hg om om) lr lr
  clear p1 hg
  have ⟨ne2,nf2⟩:NN C.b w2.heap.size:=om
  go_wp2_with fail
  refine (ihm.initial h k0 _ wg (fun hx=>zk HO ((zk HR).symm.trans (by simp only [yk,ub,ef c1,hx])))).mono ?_
  rintro e w3 hp
  rcases hp with ⟨kd3,tx3,nm3,ps3,kids3,s3,k3,ao3,cp3,hq,rfl,hrow,p3,hg⟩ | ⟨pb,rule,hq,rfl,hg⟩
  rotate_left
  (exact ⟨rfl,yK (by rw [←zk HR];simp only [yk,ub,ef c1,hq]) (zl wg hg)⟩)
  have hz3:=hg.size
  (try simp at hz3)
  have G3:w.grownBy w3 (some C.b):=zl wg hg
  replace row0:=zq.ag row0 (Ag.grown zu hg om om) lr lr
  clear p2
  obtain ⟨lo3,hlo3,row3⟩:=hrow.named
  (try simp at hlo3)
  have HQ3:=zm hq
  clear hrow hq hg
  have ⟨ne3,nf3⟩:NN C.b w3.heap.size:=om
  have hmono:=yq C.ts m .initial h k0 _ s3 k3 (zk HQ3)
  simp only [st,bnd] at hmono
  have hmon:=hmono.1
  clear hmono
  have hkl2:=p3.kl
  go_wp2_with (first | (at_builtin;(refine dG rfl (.tmp 11) (.tmp 14) rfl (lo:=w.heap.size) (hi:=wr.heap.size) (ao:=ao0) (cp:=cp0) (l:=acc) (t:=.mk kd3 tx3 nm3 ps3 kids3) (A:=lo3) (B:=w3.heap.size) (g0:=w3.heap.size) (cur:=#[.int .i64 kd3,.string ⟨tx3.toArray⟩,.int .i64 nm3,.int .i64 ps3,.string ⟨#[]⟩,.int .i64 0,.slice ao3 kids3.length cp3]) zH (zq.ag row0 (yQ zu om) lr lr) zH (yN om) ((Nd.mk (kd:=kd3) (tx:=tx3) (nm:=nm3) (ps:=ps3) row3).ag (yQ zu sq)) rfl iO om sq sq om sq om ?_;intro g4 cp4 w4 hrw4 hgA hat4 hgl4;have hob:=row0.own;have hz4:=hgA.size;(try simp at hz4);(try simp at hat4);have G4:w.grownBy w4 (some C.b):=yP (yD wg) hgA (fun x hx=>by have:=hob x hx;omega);have p4:=PS.own (C:=C) (k:=k3) (h:=h) (zw wg) ok hgA (fun x hx=>by have:=hob x hx;omega);clear p3 hgA hob;have ne4:¬C.b=w4.heap.size:=om;have nf4:¬w4.heap.size=C.b:=om)))
  have row4:=hrw4 w4 lr rfl (Ag.refl _ _ _) (Ag.refl _ _ _)
  clear hrw4
  by_cases c2:yb C.ts k3 [[44]]=true
  rotate_left
  ·skip
   go_wp2_with fail
   refine qc w ok k3 h (yV C ok k3 h _ [44] wg (Bool.eq_false_iff.2 c2)) wg wg fun w5 p5 hg hz5 G5=>?_
   (try simp at hz5)
   replace row4:=zq.ag row4 (Ag.grown zu hg om om) lr lr
   clear p4 hg
   have ⟨ne5,nf5⟩:NN C.b w5.heap.size:=om
   by_cases c3:yb C.ts k3 [[125]]=true
   rotate_left
   ·skip
    go_wp2_with fail
    refine (yX C ok k3 h _ ⟨#[111,112,101,114,97,110,100]⟩ [125] wg (Bool.eq_false_iff.2 c3)).mono ?_
    rintro e w6 ⟨rfl,hgq⟩
    exact ⟨rfl,yK (by rw [←zk HR];simp only [yk,ub,ef c1,zk HQ3,ef c2,ef c3]) (zl wg (zn hgq))⟩
   go_wp2_with fail
   refine (yJ C ok k3 h _ ⟨#[111,112,101,114,97,110,100]⟩ [125] wg c3).mono ?_
   rintro e w6 ⟨rfl,p6,hg⟩
   have hz6:=hg.size
   (try simp at hz6)
   have G6:w.grownBy w6 (some C.b):=zl wg hg
   replace row4:=zq.ag row4 (Ag.grown zu hg om om) lr lr
   clear p5 hg
   have ⟨ne6,nf6⟩:NN C.b w6.heap.size:=om
   go_wp2
   go_ret
   refine yg (hi:=w4.heap.size) (s:=0) (k':=k3+1) (l:=(acc++[.mk kd3 tx3 nm3 ps3 kids3])) (by rw [←zk HR];simp only [yk,ub,ef c1,zk HQ3,ef c2,et c3]) (row4.ag zu om lr) om ?_ ?_
   ·assumption
   ·assumption
  go_wp2_with fail
  refine (yU C ok k3 h _ [44] wg c2).mono ?_
  rintro e w5 ⟨rfl,p5,hg⟩
  have hz5:=hg.size
  (try simp at hz5)
  have G5:w.grownBy w5 (some C.b):=zl wg hg
  replace row4:=zq.ag row4 (Ag.grown zu hg om om) lr lr
  clear p4 hg
  have ⟨ne5,nf5⟩:NN C.b w5.heap.size:=om
  go_wp2
  go_roundg m
  case measure=>omega
  case rel=>exact ⟨acc++[.mk kd3 tx3 nm3 ps3 kids3],k3+1,some ⟨g4,0,none⟩,cp4,by simp,wg,by simpa using zq.ag (hi':=w5.heap.size) row4 zu om om,wg,zm (by rw [←zk HR];simp only [yk,ub,ef c1,zk HQ3,et c2]),om,by simp;omega⟩
theorem bracedE_w (C:Ctx) (ok:C.Ok) (n:Nat) (ih:All C n):CL C 165 (.braced .expr) #[.pointer (some ⟨C.b,0,none⟩),.func (.func 126) #[.pointer (some ⟨C.b,0,none⟩)] #[]] (n+1):=by
 intro h k w p hout
 have hr:run C.ts (n+1) (.braced .expr) h k=eP C.ts (run C.ts n) .expr h k:=rfl
 rw [hr] at hout ⊢
 clear hr
 generalize hR:eP C.ts (run C.ts n) .expr h k=r0 at hout ⊢
 have hbl:=p.lt
 have htb:=ok.lt
 have htf0:=dw
 have htf1:=dL
 have htf3:=bT
 have hmf:=ig
 have G0:=zo w (some C.b)
 have HR:=zm hR
 clear hR
 have HO:=zm hout
 clear hout
 have hkl:=p.kl
 have hfew:=ok.few
 go_enter Tryz.func165,Tryz.ntmps165
 by_cases c0:yb C.ts k [[123]]=true
 rotate_left
 ·skip
  go_wp2_with fail
  refine (yX C ok k h _ ⟨#[111,112,101,114,97,110,100]⟩ [123] wg (Bool.eq_false_iff.2 c0)).mono ?_
  rintro e w1 ⟨rfl,hgq⟩
  exact ⟨rfl,yK (by rw [←zk HR];simp only [eP,ub,ef c0]) (zl wg (zn hgq))⟩
 go_wp2_with fail
 refine (yJ C ok k h _ ⟨#[111,112,101,114,97,110,100]⟩ [123] wg c0).mono ?_
 rintro e w1 ⟨rfl,p1,hg⟩
 have hz1:=hg.size
 (try simp at hz1)
 have G1:w.grownBy w1 (some C.b):=zl wg hg
 clear hg
 have ⟨ne1,nf1⟩:NN C.b w1.heap.size:=om
 have HR0:Hid (run C.ts n (.bracedMore .expr []) h (k+1)=r0):=zm (by rw [←zk HR];simp only [eP,ub,et c0])
 go_wp2
 go_loopg [5] n (fun gk s wr=>∃ (acc:List Tree) (k':Nat) (ao:Option Addr) (cp:Nat),s=.slice ao acc.length cp∧PS wr C k' h∧zq wr w.heap.size wr.heap.size (.slice ao acc.length cp) acc∧w.grownBy wr (some C.b)∧Hid (run C.ts gk (.bracedMore .expr acc) h k'=r0)∧gk≤n∧acc.length≤k')
 case atStart=>exact ⟨[],k+1,none,0,rfl,wg,zq.nil _ _ _,wg,HR0,Nat.le_refl _,Nat.zero_le _⟩
 case round=>
  clear HR p1
  obtain ⟨acc,k0,ao0,cp0,rfl,p0,row0,Gr,HRr,hle,hacc⟩:=hrel
  obtain ⟨m,rfl⟩:∃ m,gk=m+1:=zJ
  have HR:Hid (yk C.ts (run C.ts m) .expr acc h k0=r0):=zk HRr
  have hkl0:=p0.kl
  have hzr:=Gr.size
  have ihm:=ih m om
  clear HRr p HR0
  have p1:=p0
  clear p0
  by_cases c1:yb C.ts k0 [[125]]=true
  ·skip
   go_wp2_with fail
   refine (yU C ok k0 h _ [125] wg c1).mono ?_
   rintro e w2 ⟨rfl,p2,hg⟩
   have hz2:=hg.size
   (try simp at hz2)
   have G2:w.grownBy w2 (some C.b):=zl wg hg
   replace row0:=zq.ag row0 (Ag.grown zu hg om om) lr lr
   clear p1 hg
   have ⟨ne2,nf2⟩:NN C.b w2.heap.size:=om
   go_wp2
   go_ret
   refine yg (hi:=wr.heap.size) (s:=0) (k':=k0+1) (l:=acc) (by rw [←zk HR];simp only [yk,ub,et c1]) (row0.ag zu om lr) om ?_ ?_
   ·assumption
   ·assumption
  go_wp2_with fail
  refine qc w ok k0 h (yV C ok k0 h _ [125] wg (Bool.eq_false_iff.2 c1)) wg wg fun w2 p2 hg hz2 G2=>?_
  (try simp at hz2)
  replace row0:=zq.ag row0 (Ag.grown zu hg om om) lr lr
  clear p1 hg
  have ⟨ne2,nf2⟩:NN C.b w2.heap.size:=om
  go_wp2_with fail
  refine (ihm.expr h k0 _ wg (fun hx=>zk HO ((zk HR).symm.trans (by simp only [yk,ub,ef c1,hx])))).mono ?_
  rintro e w3 hp
  rcases hp with ⟨kd3,tx3,nm3,ps3,kids3,s3,k3,ao3,cp3,hq,rfl,hrow,p3,hg⟩ | ⟨pb,rule,hq,rfl,hg⟩
  rotate_left
  (exact ⟨rfl,yK (by rw [←zk HR];simp only [yk,ub,ef c1,hq]) (zl wg hg)⟩)
  have hz3:=hg.size
  (try simp at hz3)
  have G3:w.grownBy w3 (some C.b):=zl wg hg
  replace row0:=zq.ag row0 (Ag.grown zu hg om om) lr lr
  clear p2
  obtain ⟨lo3,hlo3,row3⟩:=hrow.named
  (try simp at hlo3)
  have HQ3:=zm hq
  clear hrow hq hg
  have ⟨ne3,nf3⟩:NN C.b w3.heap.size:=om
  have hmono:=yq C.ts m .expr h k0 _ s3 k3 (zk HQ3)
  simp only [st,bnd] at hmono
  have hmon:=hmono.1
  clear hmono
  have hkl2:=p3.kl
  go_wp2_with (first | (at_builtin;(refine dG rfl (.tmp 11) (.tmp 14) rfl (lo:=w.heap.size) (hi:=wr.heap.size) (ao:=ao0) (cp:=cp0) (l:=acc) (t:=.mk kd3 tx3 nm3 ps3 kids3) (A:=lo3) (B:=w3.heap.size) (g0:=w3.heap.size) (cur:=#[.int .i64 kd3,.string ⟨tx3.toArray⟩,.int .i64 nm3,.int .i64 ps3,.string ⟨#[]⟩,.int .i64 0,.slice ao3 kids3.length cp3]) zH (zq.ag row0 (yQ zu om) lr lr) zH (yN om) ((Nd.mk (kd:=kd3) (tx:=tx3) (nm:=nm3) (ps:=ps3) row3).ag (yQ zu sq)) rfl iO om sq sq om sq om ?_;intro g4 cp4 w4 hrw4 hgA hat4 hgl4;have hob:=row0.own;have hz4:=hgA.size;(try simp at hz4);(try simp at hat4);have G4:w.grownBy w4 (some C.b):=yP (yD wg) hgA (fun x hx=>by have:=hob x hx;omega);have p4:=PS.own (C:=C) (k:=k3) (h:=h) (zw wg) ok hgA (fun x hx=>by have:=hob x hx;omega);clear p3 hgA hob;have ne4:¬C.b=w4.heap.size:=om;have nf4:¬w4.heap.size=C.b:=om)))
  have row4:=hrw4 w4 lr rfl (Ag.refl _ _ _) (Ag.refl _ _ _)
  clear hrw4
  by_cases c2:yb C.ts k3 [[44]]=true
  rotate_left
  ·skip
   go_wp2_with fail
   refine qc w ok k3 h (yV C ok k3 h _ [44] wg (Bool.eq_false_iff.2 c2)) wg wg fun w5 p5 hg hz5 G5=>?_
   (try simp at hz5)
   replace row4:=zq.ag row4 (Ag.grown zu hg om om) lr lr
   clear p4 hg
   have ⟨ne5,nf5⟩:NN C.b w5.heap.size:=om
   by_cases c3:yb C.ts k3 [[125]]=true
   rotate_left
   ·skip
    go_wp2_with fail
    refine (yX C ok k3 h _ ⟨#[111,112,101,114,97,110,100]⟩ [125] wg (Bool.eq_false_iff.2 c3)).mono ?_
    rintro e w6 ⟨rfl,hgq⟩
    exact ⟨rfl,yK (by rw [←zk HR];simp only [yk,ub,ef c1,zk HQ3,ef c2,ef c3]) (zl wg (zn hgq))⟩
   go_wp2_with fail
   refine (yJ C ok k3 h _ ⟨#[111,112,101,114,97,110,100]⟩ [125] wg c3).mono ?_
   rintro e w6 ⟨rfl,p6,hg⟩
   have hz6:=hg.size
   (try simp at hz6)
   have G6:w.grownBy w6 (some C.b):=zl wg hg
   replace row4:=zq.ag row4 (Ag.grown zu hg om om) lr lr
   clear p5 hg
   have ⟨ne6,nf6⟩:NN C.b w6.heap.size:=om
   go_wp2
   go_ret
   refine yg (hi:=w4.heap.size) (s:=0) (k':=k3+1) (l:=(acc++[.mk kd3 tx3 nm3 ps3 kids3])) (by rw [←zk HR];simp only [yk,ub,ef c1,zk HQ3,ef c2,et c3]) (row4.ag zu om lr) om ?_ ?_
   ·assumption
   ·assumption
  go_wp2_with fail
  refine (yU C ok k3 h _ [44] wg c2).mono ?_
  rintro e w5 ⟨rfl,p5,hg⟩
  have hz5:=hg.size
  (try simp at hz5)
  have G5:w.grownBy w5 (some C.b):=zl wg hg
  replace row4:=zq.ag row4 (Ag.grown zu hg om om) lr lr
  clear p4 hg
  have ⟨ne5,nf5⟩:NN C.b w5.heap.size:=om
  go_wp2
  go_roundg m
  case measure=>omega
  case rel=>exact ⟨acc++[.mk kd3 tx3 nm3 ps3 kids3],k3+1,some ⟨g4,0,none⟩,cp4,by simp,wg,by simpa using zq.ag (hi':=w5.heap.size) row4 zu om om,wg,zm (by rw [←zk HR];simp only [yk,ub,ef c1,zk HQ3,et c2]),om,by simp;omega⟩
end Go.Proofs.YtgbjpnnockoomaaGreatDoor
