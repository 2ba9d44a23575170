import Derived.Test.YtgbjpnnockoomaaGreatDoorQg
import Derived.Test.YtgbjpnnockoomaaGreatDoorParB
import Derived.Test.YtgbjpnnockoomaaGreatDoorSteps
set_option linter.unusedVariables false
set_option linter.unusedSimpArgs false
set_option maxHeartbeats 4000000
set_option maxRecDepth 100000
namespace Go.Proofs.YtgbjpnnockoomaaGreatDoor
open Go.RowKit Lx Px
theorem jump_w (C:Ctx) (ok:C.Ok) (kd:Int):∀ (h:Bool) (k:Nat) (w:World),PS w C k h→(zp C.ts k).kind≠6→Calls Tryz.prog 115 #[.pointer (some ⟨C.b,0,none⟩),.int .i64 kd] w (iV C w.heap.size (jump C.ts kd k) h w):=by
 intro h k w p h6
 generalize hR:jump C.ts kd k=r0 at ⊢
 have H6:=zm h6
 clear h6
 have hbl:=p.lt
 have htf0:=dw
 have htf1:=dL
 have htf3:=bT
 have G0:=zo w (some C.b)
 have HR:=zm hR
 clear hR
 go_enter Tryz.func115,Tryz.ntmps115
 go_wp2_with fail
 refine (yR C ok k h _ (zw ‹_›) (zk H6)).mono ?_
 rintro e w1 ⟨rfl,p1,hg⟩
 have hz1:=hg.size
 (try simp at hz1)
 have G1:w.grownBy w1 (some C.b):=zl (yD ‹_›) hg
 have bl0_1:BL w1 w.heap.size (yA):=BL.grown (yN om) hg om
 clear hg
 have ⟨nf1,nf2⟩:¬w.heap.size=C.b∧¬w1.heap.size=C.b:=om
 go_wp2_with fail
 refine qc w ok (k+1) h (zy C ok (k+1) h _ (zw ‹_›)) (zw ‹_›) (yD ‹_›) fun w2 p2 hg _ G2=>?_
 have bl0_2:BL w2 w.heap.size (yA):=BL.grown (yS ‹_›) hg om
 have zc0_2:=bl0_2.cell
 have fz0_2:=bl0_2.frozen
 have bl1_2:BL w2 w1.heap.size (yE kd ⟨#[]⟩ 0 (zp C.ts k).pos none 0 0):=BL.grown (yN om) hg om
 have zc1_2:=bl1_2.cell
 clear bl0_1 p1 hg
 by_cases c1:(zp C.ts (k+1)).kind=1
 rotate_left
 ·skip
  have b1:((zp C.ts (k+1)).kind==1)=false:=by simp [c1]
  go_wp2
  refine bodyPost_ret (v:=.agg #[.int .i64 kd,.string ⟨#[]⟩,.int .i64 0,.int .i64 (zp C.ts k).pos,.string ⟨#[]⟩,.int .i64 0,.slice none 0 0]) (by simp [results,Tryz.results115,go_sem, *]) rfl (yB (hi:=w2.heap.size) (s:=0) (k':=k+1) (tx:=[]) (kids:=[]) (by rw [←zk HR];simp only [jump,ub,ef c1]) (zq.nil _ _ _) sq ?_ ?_)
  ·exact yv ‹_› ok oz
  ·exact yw ‹_› oz
 have b1:((zp C.ts (k+1)).kind==1)=true:=by simp [c1]
 have h7:Hid ((zp C.ts (k+1)).kind≠6):=by show (zp C.ts (k+1)).kind≠6;omega
 have C1:=zm c1
 clear c1
 go_wp2_with fail
 refine (yR C ok (k+1) h _ ‹_› (zk h7)).mono ?_
 rintro e w3 ⟨rfl,p3,hg⟩
 have G3:w.grownBy w3 (some C.b):=zl ‹_› hg
 have bl0_3:BL w3 w.heap.size (yA):=BL.grown ‹_› hg om
 have zc0_3:=bl0_3.cell
 have fz0_3:=bl0_3.frozen
 have bl1_3:BL w3 w1.heap.size (yE kd ⟨#[]⟩ 0 (zp C.ts k).pos none 0 0):=BL.grown ‹_› hg om
 have zc1_3:=bl1_3.cell
 have fz1_3:=bl1_3.frozen
 clear bl0_2 zc0_2 fz0_2 bl1_2 zc1_2 p2 hg
 go_wp2
 refine bodyPost_ret (v:=.agg #[.int .i64 kd,.string ⟨(zp C.ts (k+1)).text.toArray⟩,.int .i64 0,.int .i64 (zp C.ts k).pos,.string ⟨#[]⟩,.int .i64 0,.slice none 0 0]) (by simp [results,Tryz.results115,go_sem, *]) rfl (yB (hi:=w3.heap.size) (s:=0) (k':=k+2) (tx:=(zp C.ts (k+1)).text) (kids:=[]) (by rw [←zk HR];simp only [jump,ub,et (zk C1)]) (zq.nil _ _ _) sq ?_ ?_)
 ·exact yv (pw3 ‹_› ok sq) ok oz
 ·exact yw (gw3 ‹_› sq) oz
theorem stmt_w (C:Ctx) (ok:C.Ok) (n:Nat) (ih:All C n):CN C 99 .stmt #[.pointer (some ⟨C.b,0,none⟩)] (n+1):=by
 intro h k w p hout
 have hr:run C.ts (n+1) .stmt h k=aP C.ts (run C.ts n) h k:=rfl
 rw [hr] at hout ⊢
 clear hr
 generalize hR:aP C.ts (run C.ts n) h k=r0 at hout ⊢
 have hbl:=p.lt
 have htf3:=bT
 have G0:=zo w (some C.b)
 have HR:=zm hR
 clear hR
 have HO:=zm hout
 clear hout
 by_cases svar:yI C.ts k=[118,97,114]
 ·skip
  have h6:=zm (dH svar)
  go_enter Tryz.func99,Tryz.ntmps99
  go_wp2_with fail
  refine qc w ok k h (zy C ok k h _ (zw ‹_›)) (zw ‹_›) (yD ‹_›) fun w1 p1 hg _ G1=>?_
  have bl0_1:BL w1 w.heap.size (yA):=BL.grown (yN om) hg om
  clear hg
  have nf1:¬w.heap.size=C.b:=om
  go_wp2_with fail
  refine qc w ok k h (yc C ok k h _ ‹_›) ‹_› ‹_› fun w2 p2 hg _ G2=>?_
  have bl0_2:BL w2 w.heap.size (yA):=BL.grown ‹_› hg om
  have hl0_2:=bl0_2.lt
  clear bl0_1 p1 hg
  go_wp2_with fail
  refine (ih.at.varStmt h k _ ‹_› (zk h6) (fun hx=>zk HO ((zk HR).symm.trans (by simp only [aP,ub,et svar,hx])))).mono ?_
  rintro e w3 hp
  rcases hp with ⟨kd3,tx3,nm3,ps3,kids3,s3,k3,ao3,cp3,hq,rfl,hrow,p3,hg⟩ | ⟨pb,rule,hq,rfl,hg⟩
  rotate_left
  (exact ⟨rfl,zs (by rw [←zk HR];simp only [aP,ub,et svar,hq]) (zl ‹_› hg)⟩)
  have G3:w.grownBy w3 (some C.b):=zl ‹_› hg
  have bl0_3:BL w3 w.heap.size (yA):=BL.grown ‹_› hg om
  have zc0_3:=bl0_3.cell
  have fz0_3:=bl0_3.frozen
  clear bl0_2 p2
  obtain ⟨lo3,hlo3,row3⟩:=hrow.named
  (try simp at hlo3)
  have HQ3:=zm hq
  clear hrow hq hg
  go_wp2
  refine bodyPost_ret (v:=.agg #[.int .i64 kd3,.string ⟨tx3.toArray⟩,.int .i64 nm3,.int .i64 ps3,.string ⟨#[]⟩,.int .i64 0,.slice ao3 kids3.length cp3]) zN rfl (yB (hi:=w3.heap.size) (s:=s3) (k':=k3) (tx:=tx3) (kids:=kids3) (by rw [←zk HR];simp only [aP,ub,et svar,zk HQ3]) (row3.ag (yr zu oz) om lr) sq ?_ ?_)
  ·exact yv ‹_› ok oz
  ·exact yw ‹_› oz
 by_cases sbrace:yI C.ts k=[123]
 ·skip
  go_enter Tryz.func99,Tryz.ntmps99
  go_wp2_with fail
  refine qc w ok k h (zy C ok k h _ (zw ‹_›)) (zw ‹_›) (yD ‹_›) fun w1 p1 hg _ G1=>?_
  have bl0_1:BL w1 w.heap.size (yA):=BL.grown (yN om) hg om
  clear hg
  have nf1:¬w.heap.size=C.b:=om
  go_wp2_with fail
  refine qc w ok k h (yc C ok k h _ ‹_›) ‹_› ‹_› fun w2 p2 hg _ G2=>?_
  have bl0_2:BL w2 w.heap.size (yA):=BL.grown ‹_› hg om
  have hl0_2:=bl0_2.lt
  clear bl0_1 p1 hg
  go_wp2_with fail
  refine (ih.at.block h k _ ‹_› (fun hx=>zk HO ((zk HR).symm.trans (by simp only [aP,ub,ef svar,et sbrace,hx])))).mono ?_
  rintro e w3 hp
  rcases hp with ⟨kd3,tx3,nm3,ps3,kids3,s3,k3,ao3,cp3,hq,rfl,hrow,p3,hg⟩ | ⟨pb,rule,hq,rfl,hg⟩
  rotate_left
  (exact ⟨rfl,zs (by rw [←zk HR];simp only [aP,ub,ef svar,et sbrace,hq]) (zl ‹_› hg)⟩)
  have G3:w.grownBy w3 (some C.b):=zl ‹_› hg
  have bl0_3:BL w3 w.heap.size (yA):=BL.grown ‹_› hg om
  have zc0_3:=bl0_3.cell
  have fz0_3:=bl0_3.frozen
  clear bl0_2 p2
  obtain ⟨lo3,hlo3,row3⟩:=hrow.named
  (try simp at hlo3)
  have HQ3:=zm hq
  clear hrow hq hg
  go_wp2
  refine bodyPost_ret (v:=.agg #[.int .i64 kd3,.string ⟨tx3.toArray⟩,.int .i64 nm3,.int .i64 ps3,.string ⟨#[]⟩,.int .i64 0,.slice ao3 kids3.length cp3]) zN rfl (yB (hi:=w3.heap.size) (s:=s3) (k':=k3) (tx:=tx3) (kids:=kids3) (by rw [←zk HR];simp only [aP,ub,ef svar,et sbrace,zk HQ3]) (row3.ag (yr zu oz) om lr) sq ?_ ?_)
  ·exact yv ‹_› ok oz
  ·exact yw ‹_› oz
 by_cases sif:yI C.ts k=[105,102]
 ·skip
  have h6:=zm (dH sif)
  go_enter Tryz.func99,Tryz.ntmps99
  go_wp2_with fail
  refine qc w ok k h (zy C ok k h _ (zw ‹_›)) (zw ‹_›) (yD ‹_›) fun w1 p1 hg _ G1=>?_
  have bl0_1:BL w1 w.heap.size (yA):=BL.grown (yN om) hg om
  clear hg
  have nf1:¬w.heap.size=C.b:=om
  go_wp2_with fail
  refine qc w ok k h (yc C ok k h _ ‹_›) ‹_› ‹_› fun w2 p2 hg _ G2=>?_
  have bl0_2:BL w2 w.heap.size (yA):=BL.grown ‹_› hg om
  have hl0_2:=bl0_2.lt
  clear bl0_1 p1 hg
  go_wp2_with fail
  refine (ih.at.ifStmt h k _ ‹_› (zk h6) (fun hx=>zk HO ((zk HR).symm.trans (by simp only [aP,ub,ef svar,ef sbrace,et sif,hx])))).mono ?_
  rintro e w3 hp
  rcases hp with ⟨kd3,tx3,nm3,ps3,kids3,s3,k3,ao3,cp3,hq,rfl,hrow,p3,hg⟩ | ⟨pb,rule,hq,rfl,hg⟩
  rotate_left
  (exact ⟨rfl,zs (by rw [←zk HR];simp only [aP,ub,ef svar,ef sbrace,et sif,hq]) (zl ‹_› hg)⟩)
  have G3:w.grownBy w3 (some C.b):=zl ‹_› hg
  have bl0_3:BL w3 w.heap.size (yA):=BL.grown ‹_› hg om
  have zc0_3:=bl0_3.cell
  have fz0_3:=bl0_3.frozen
  clear bl0_2 p2
  obtain ⟨lo3,hlo3,row3⟩:=hrow.named
  (try simp at hlo3)
  have HQ3:=zm hq
  clear hrow hq hg
  go_wp2
  refine bodyPost_ret (v:=.agg #[.int .i64 kd3,.string ⟨tx3.toArray⟩,.int .i64 nm3,.int .i64 ps3,.string ⟨#[]⟩,.int .i64 0,.slice ao3 kids3.length cp3]) zN rfl (yB (hi:=w3.heap.size) (s:=s3) (k':=k3) (tx:=tx3) (kids:=kids3) (by rw [←zk HR];simp only [aP,ub,ef svar,ef sbrace,et sif,zk HQ3]) (row3.ag (yr zu oz) om lr) sq ?_ ?_)
  ·exact yv ‹_› ok oz
  ·exact yw ‹_› oz
 by_cases sfor:yI C.ts k=[102,111,114]
 ·skip
  go_enter Tryz.func99,Tryz.ntmps99
  go_wp2_with fail
  refine qc w ok k h (zy C ok k h _ (zw ‹_›)) (zw ‹_›) (yD ‹_›) fun w1 p1 hg _ G1=>?_
  have bl0_1:BL w1 w.heap.size (yA):=BL.grown (yN om) hg om
  clear hg
  have nf1:¬w.heap.size=C.b:=om
  go_wp2_with fail
  refine qc w ok k h (yc C ok k h _ ‹_›) ‹_› ‹_› fun w2 p2 hg _ G2=>?_
  have bl0_2:BL w2 w.heap.size (yA):=BL.grown ‹_› hg om
  have hl0_2:=bl0_2.lt
  clear bl0_1 p1 hg
  go_wp2_with fail
  refine (ih.at.breakable h k _ ‹_› (fun hx=>zk HO ((zk HR).symm.trans (by simp only [aP,ub,ef svar,ef sbrace,ef sif,et sfor,h3a (a:=[102,111,114]) (b:=[115,119,105,116,99,104]) (c:=[115,101,108,101,99,116]) sfor,hx])))).mono ?_
  rintro e w3 hp
  rcases hp with ⟨kd3,tx3,nm3,ps3,kids3,s3,k3,ao3,cp3,hq,rfl,hrow,p3,hg⟩ | ⟨pb,rule,hq,rfl,hg⟩
  rotate_left
  (exact ⟨rfl,zs (by rw [←zk HR];simp only [aP,ub,ef svar,ef sbrace,ef sif,et sfor,h3a (a:=[102,111,114]) (b:=[115,119,105,116,99,104]) (c:=[115,101,108,101,99,116]) sfor,hq]) (zl ‹_› hg)⟩)
  have G3:w.grownBy w3 (some C.b):=zl ‹_› hg
  have bl0_3:BL w3 w.heap.size (yA):=BL.grown ‹_› hg om
  have zc0_3:=bl0_3.cell
  have fz0_3:=bl0_3.frozen
  clear bl0_2 p2
  obtain ⟨lo3,hlo3,row3⟩:=hrow.named
  (try simp at hlo3)
  have HQ3:=zm hq
  clear hrow hq hg
  go_wp2
  refine bodyPost_ret (v:=.agg #[.int .i64 kd3,.string ⟨tx3.toArray⟩,.int .i64 nm3,.int .i64 ps3,.string ⟨#[]⟩,.int .i64 0,.slice ao3 kids3.length cp3]) zN rfl (yB (hi:=w3.heap.size) (s:=s3) (k':=k3) (tx:=tx3) (kids:=kids3) (by rw [←zk HR];simp only [aP,ub,ef svar,ef sbrace,ef sif,et sfor,h3a (a:=[102,111,114]) (b:=[115,119,105,116,99,104]) (c:=[115,101,108,101,99,116]) sfor,zk HQ3]) (row3.ag (yr zu oz) om lr) sq ?_ ?_)
  ·exact yv ‹_› ok oz
  ·exact yw ‹_› oz
 by_cases sswitch:yI C.ts k=[115,119,105,116,99,104]
 ·skip
  go_enter Tryz.func99,Tryz.ntmps99
  go_wp2_with fail
  refine qc w ok k h (zy C ok k h _ (zw ‹_›)) (zw ‹_›) (yD ‹_›) fun w1 p1 hg _ G1=>?_
  have bl0_1:BL w1 w.heap.size (yA):=BL.grown (yN om) hg om
  clear hg
  have nf1:¬w.heap.size=C.b:=om
  go_wp2_with fail
  refine qc w ok k h (yc C ok k h _ ‹_›) ‹_› ‹_› fun w2 p2 hg _ G2=>?_
  have bl0_2:BL w2 w.heap.size (yA):=BL.grown ‹_› hg om
  have hl0_2:=bl0_2.lt
  clear bl0_1 p1 hg
  go_wp2_with fail
  refine (ih.at.breakable h k _ ‹_› (fun hx=>zk HO ((zk HR).symm.trans (by simp only [aP,ub,ef svar,ef sbrace,ef sif,ef sfor,et sswitch,h3b (a:=[102,111,114]) (b:=[115,119,105,116,99,104]) (c:=[115,101,108,101,99,116]) sswitch,hx])))).mono ?_
  rintro e w3 hp
  rcases hp with ⟨kd3,tx3,nm3,ps3,kids3,s3,k3,ao3,cp3,hq,rfl,hrow,p3,hg⟩ | ⟨pb,rule,hq,rfl,hg⟩
  rotate_left
  (exact ⟨rfl,zs (by rw [←zk HR];simp only [aP,ub,ef svar,ef sbrace,ef sif,ef sfor,et sswitch,h3b (a:=[102,111,114]) (b:=[115,119,105,116,99,104]) (c:=[115,101,108,101,99,116]) sswitch,hq]) (zl ‹_› hg)⟩)
  have G3:w.grownBy w3 (some C.b):=zl ‹_› hg
  have bl0_3:BL w3 w.heap.size (yA):=BL.grown ‹_› hg om
  have zc0_3:=bl0_3.cell
  have fz0_3:=bl0_3.frozen
  clear bl0_2 p2
  obtain ⟨lo3,hlo3,row3⟩:=hrow.named
  (try simp at hlo3)
  have HQ3:=zm hq
  clear hrow hq hg
  go_wp2
  refine bodyPost_ret (v:=.agg #[.int .i64 kd3,.string ⟨tx3.toArray⟩,.int .i64 nm3,.int .i64 ps3,.string ⟨#[]⟩,.int .i64 0,.slice ao3 kids3.length cp3]) zN rfl (yB (hi:=w3.heap.size) (s:=s3) (k':=k3) (tx:=tx3) (kids:=kids3) (by rw [←zk HR];simp only [aP,ub,ef svar,ef sbrace,ef sif,ef sfor,et sswitch,h3b (a:=[102,111,114]) (b:=[115,119,105,116,99,104]) (c:=[115,101,108,101,99,116]) sswitch,zk HQ3]) (row3.ag (yr zu oz) om lr) sq ?_ ?_)
  ·exact yv ‹_› ok oz
  ·exact yw ‹_› oz
 by_cases sselect:yI C.ts k=[115,101,108,101,99,116]
 ·skip
  go_enter Tryz.func99,Tryz.ntmps99
  go_wp2_with fail
  refine qc w ok k h (zy C ok k h _ (zw ‹_›)) (zw ‹_›) (yD ‹_›) fun w1 p1 hg _ G1=>?_
  have bl0_1:BL w1 w.heap.size (yA):=BL.grown (yN om) hg om
  clear hg
  have nf1:¬w.heap.size=C.b:=om
  go_wp2_with fail
  refine qc w ok k h (yc C ok k h _ ‹_›) ‹_› ‹_› fun w2 p2 hg _ G2=>?_
  have bl0_2:BL w2 w.heap.size (yA):=BL.grown ‹_› hg om
  have hl0_2:=bl0_2.lt
  clear bl0_1 p1 hg
  go_wp2_with fail
  refine (ih.at.breakable h k _ ‹_› (fun hx=>zk HO ((zk HR).symm.trans (by simp only [aP,ub,ef svar,ef sbrace,ef sif,ef sfor,ef sswitch,et sselect,h3c (a:=[102,111,114]) (b:=[115,119,105,116,99,104]) (c:=[115,101,108,101,99,116]) sselect,hx])))).mono ?_
  rintro e w3 hp
  rcases hp with ⟨kd3,tx3,nm3,ps3,kids3,s3,k3,ao3,cp3,hq,rfl,hrow,p3,hg⟩ | ⟨pb,rule,hq,rfl,hg⟩
  rotate_left
  (exact ⟨rfl,zs (by rw [←zk HR];simp only [aP,ub,ef svar,ef sbrace,ef sif,ef sfor,ef sswitch,et sselect,h3c (a:=[102,111,114]) (b:=[115,119,105,116,99,104]) (c:=[115,101,108,101,99,116]) sselect,hq]) (zl ‹_› hg)⟩)
  have G3:w.grownBy w3 (some C.b):=zl ‹_› hg
  have bl0_3:BL w3 w.heap.size (yA):=BL.grown ‹_› hg om
  have zc0_3:=bl0_3.cell
  have fz0_3:=bl0_3.frozen
  clear bl0_2 p2
  obtain ⟨lo3,hlo3,row3⟩:=hrow.named
  (try simp at hlo3)
  have HQ3:=zm hq
  clear hrow hq hg
  go_wp2
  refine bodyPost_ret (v:=.agg #[.int .i64 kd3,.string ⟨tx3.toArray⟩,.int .i64 nm3,.int .i64 ps3,.string ⟨#[]⟩,.int .i64 0,.slice ao3 kids3.length cp3]) zN rfl (yB (hi:=w3.heap.size) (s:=s3) (k':=k3) (tx:=tx3) (kids:=kids3) (by rw [←zk HR];simp only [aP,ub,ef svar,ef sbrace,ef sif,ef sfor,ef sswitch,et sselect,h3c (a:=[102,111,114]) (b:=[115,119,105,116,99,104]) (c:=[115,101,108,101,99,116]) sselect,zk HQ3]) (row3.ag (yr zu oz) om lr) sq ?_ ?_)
  ·exact yv ‹_› ok oz
  ·exact yw ‹_› oz
 by_cases sbreak:yI C.ts k=[98,114,101,97,107]
 ·skip
  have h6:=zm (dH sbreak)
  go_enter Tryz.func99,Tryz.ntmps99
  go_wp2_with fail
  refine qc w ok k h (zy C ok k h _ (zw ‹_›)) (zw ‹_›) (yD ‹_›) fun w1 p1 hg _ G1=>?_
  have bl0_1:BL w1 w.heap.size (yA):=BL.grown (yN om) hg om
  clear hg
  have nf1:¬w.heap.size=C.b:=om
  go_wp2_with fail
  refine qc w ok k h (yc C ok k h _ ‹_›) ‹_› ‹_› fun w2 p2 hg _ G2=>?_
  have bl0_2:BL w2 w.heap.size (yA):=BL.grown ‹_› hg om
  have hl0_2:=bl0_2.lt
  clear bl0_1 p1 hg
  go_wp2_with fail
  refine (jump_w C ok 27 h k _ ‹_› (zk h6)).mono ?_
  rintro e w3 hp
  rcases hp with ⟨kd3,tx3,nm3,ps3,kids3,s3,k3,ao3,cp3,hq,rfl,hrow,p3,hg⟩ | ⟨pb,rule,hq,rfl,hg⟩
  rotate_left
  (exact ⟨rfl,zs (by rw [←zk HR];simp only [aP,ub,ef svar,ef sbrace,ef sif,ef sfor,ef sswitch,ef sselect,et sbreak,h3n sfor sswitch sselect,hq]) (zl ‹_› hg)⟩)
  have G3:w.grownBy w3 (some C.b):=zl ‹_› hg
  have bl0_3:BL w3 w.heap.size (yA):=BL.grown ‹_› hg om
  have zc0_3:=bl0_3.cell
  have fz0_3:=bl0_3.frozen
  clear bl0_2 p2
  obtain ⟨lo3,hlo3,row3⟩:=hrow.named
  (try simp at hlo3)
  have HQ3:=zm hq
  clear hrow hq hg
  go_wp2
  refine bodyPost_ret (v:=.agg #[.int .i64 kd3,.string ⟨tx3.toArray⟩,.int .i64 nm3,.int .i64 ps3,.string ⟨#[]⟩,.int .i64 0,.slice ao3 kids3.length cp3]) zN rfl (yB (hi:=w3.heap.size) (s:=s3) (k':=k3) (tx:=tx3) (kids:=kids3) (by rw [←zk HR];simp only [aP,ub,ef svar,ef sbrace,ef sif,ef sfor,ef sswitch,ef sselect,et sbreak,h3n sfor sswitch sselect,zk HQ3]) (row3.ag (yr zu oz) om lr) sq ?_ ?_)
  ·exact yv ‹_› ok oz
  ·exact yw ‹_› oz
 by_cases scontinue:yI C.ts k=[99,111,110,116,105,110,117,101]
 ·skip
  have h6:=zm (dH scontinue)
  go_enter Tryz.func99,Tryz.ntmps99
  go_wp2_with fail
  refine qc w ok k h (zy C ok k h _ (zw ‹_›)) (zw ‹_›) (yD ‹_›) fun w1 p1 hg _ G1=>?_
  have bl0_1:BL w1 w.heap.size (yA):=BL.grown (yN om) hg om
  clear hg
  have nf1:¬w.heap.size=C.b:=om
  go_wp2_with fail
  refine qc w ok k h (yc C ok k h _ ‹_›) ‹_› ‹_› fun w2 p2 hg _ G2=>?_
  have bl0_2:BL w2 w.heap.size (yA):=BL.grown ‹_› hg om
  have hl0_2:=bl0_2.lt
  clear bl0_1 p1 hg
  go_wp2_with fail
  refine (jump_w C ok 28 h k _ ‹_› (zk h6)).mono ?_
  rintro e w3 hp
  rcases hp with ⟨kd3,tx3,nm3,ps3,kids3,s3,k3,ao3,cp3,hq,rfl,hrow,p3,hg⟩ | ⟨pb,rule,hq,rfl,hg⟩
  rotate_left
  (exact ⟨rfl,zs (by rw [←zk HR];simp only [aP,ub,ef svar,ef sbrace,ef sif,ef sfor,ef sswitch,ef sselect,ef sbreak,et scontinue,h3n sfor sswitch sselect,hq]) (zl ‹_› hg)⟩)
  have G3:w.grownBy w3 (some C.b):=zl ‹_› hg
  have bl0_3:BL w3 w.heap.size (yA):=BL.grown ‹_› hg om
  have zc0_3:=bl0_3.cell
  have fz0_3:=bl0_3.frozen
  clear bl0_2 p2
  obtain ⟨lo3,hlo3,row3⟩:=hrow.named
  (try simp at hlo3)
  have HQ3:=zm hq
  clear hrow hq hg
  go_wp2
  refine bodyPost_ret (v:=.agg #[.int .i64 kd3,.string ⟨tx3.toArray⟩,.int .i64 nm3,.int .i64 ps3,.string ⟨#[]⟩,.int .i64 0,.slice ao3 kids3.length cp3]) zN rfl (yB (hi:=w3.heap.size) (s:=s3) (k':=k3) (tx:=tx3) (kids:=kids3) (by rw [←zk HR];simp only [aP,ub,ef svar,ef sbrace,ef sif,ef sfor,ef sswitch,ef sselect,ef sbreak,et scontinue,h3n sfor sswitch sselect,zk HQ3]) (row3.ag (yr zu oz) om lr) sq ?_ ?_)
  ·exact yv ‹_› ok oz
  ·exact yw ‹_› oz
 by_cases sfallthrough:yI C.ts k=[102,97,108,108,116,104,114,111,117,103,104]
 ·skip
  have h6:=zm (dH sfallthrough)
  go_enter Tryz.func99,Tryz.ntmps99
  go_wp2_with fail
  refine qc w ok k h (zy C ok k h _ (zw ‹_›)) (zw ‹_›) (yD ‹_›) fun w1 p1 hg _ G1=>?_
  have bl0_1:BL w1 w.heap.size (yA):=BL.grown (yN om) hg om
  clear hg
  have nf1:¬w.heap.size=C.b:=om
  go_wp2_with fail
  refine qc w ok k h (yc C ok k h _ ‹_›) ‹_› ‹_› fun w2 p2 hg _ G2=>?_
  have bl0_2:BL w2 w.heap.size (yA):=BL.grown ‹_› hg om
  clear bl0_1 p1 hg
  go_wp2_with fail
  refine (yR C ok k h _ ‹_› (zk h6)).mono ?_
  rintro e w3 ⟨rfl,p3,hg⟩
  have G3:w.grownBy w3 (some C.b):=zl ‹_› hg
  have bl0_3:BL w3 w.heap.size (yA):=BL.grown ‹_› hg om
  have zc0_3:=bl0_3.cell
  have fz0_3:=bl0_3.frozen
  clear bl0_2 p2 hg
  go_wp2
  refine bodyPost_ret (v:=.agg #[.int .i64 29,.string ⟨#[]⟩,.int .i64 0,.int .i64 (zp C.ts k).pos,.string ⟨#[]⟩,.int .i64 0,.slice none 0 0]) zN rfl (yB (hi:=w3.heap.size) (s:=0) (k':=k+1) (tx:=[]) (kids:=[]) (by rw [←zk HR];simp only [aP,ub,ef svar,ef sbrace,ef sif,ef sfor,ef sswitch,ef sselect,ef sbreak,ef scontinue,et sfallthrough,h3n sfor sswitch sselect]) (zq.nil _ _ _) sq ?_ ?_)
  ·exact yv ‹_› ok oz
  ·exact yw ‹_› oz
 by_cases sreturn:yI C.ts k=[114,101,116,117,114,110]
 ·skip
  have h6:=zm (dH sreturn)
  go_enter Tryz.func99,Tryz.ntmps99
  go_wp2_with fail
  refine qc w ok k h (zy C ok k h _ (zw ‹_›)) (zw ‹_›) (yD ‹_›) fun w1 p1 hg _ G1=>?_
  have bl0_1:BL w1 w.heap.size (yA):=BL.grown (yN om) hg om
  clear hg
  have nf1:¬w.heap.size=C.b:=om
  go_wp2_with fail
  refine qc w ok k h (yc C ok k h _ ‹_›) ‹_› ‹_› fun w2 p2 hg _ G2=>?_
  have bl0_2:BL w2 w.heap.size (yA):=BL.grown ‹_› hg om
  have hl0_2:=bl0_2.lt
  clear bl0_1 p1 hg
  go_wp2_with fail
  refine (ih.at.returnStmt h k _ ‹_› (zk h6) (fun hx=>zk HO ((zk HR).symm.trans (by simp only [aP,ub,ef svar,ef sbrace,ef sif,ef sfor,ef sswitch,ef sselect,ef sbreak,ef scontinue,ef sfallthrough,et sreturn,h3n sfor sswitch sselect,hx])))).mono ?_
  rintro e w3 hp
  rcases hp with ⟨kd3,tx3,nm3,ps3,kids3,s3,k3,ao3,cp3,hq,rfl,hrow,p3,hg⟩ | ⟨pb,rule,hq,rfl,hg⟩
  rotate_left
  (exact ⟨rfl,zs (by rw [←zk HR];simp only [aP,ub,ef svar,ef sbrace,ef sif,ef sfor,ef sswitch,ef sselect,ef sbreak,ef scontinue,ef sfallthrough,et sreturn,h3n sfor sswitch sselect,hq]) (zl ‹_› hg)⟩)
  have G3:w.grownBy w3 (some C.b):=zl ‹_› hg
  have bl0_3:BL w3 w.heap.size (yA):=BL.grown ‹_› hg om
  have zc0_3:=bl0_3.cell
  have fz0_3:=bl0_3.frozen
  clear bl0_2 p2
  obtain ⟨lo3,hlo3,row3⟩:=hrow.named
  (try simp at hlo3)
  have HQ3:=zm hq
  clear hrow hq hg
  go_wp2
  refine bodyPost_ret (v:=.agg #[.int .i64 kd3,.string ⟨tx3.toArray⟩,.int .i64 nm3,.int .i64 ps3,.string ⟨#[]⟩,.int .i64 0,.slice ao3 kids3.length cp3]) zN rfl (yB (hi:=w3.heap.size) (s:=s3) (k':=k3) (tx:=tx3) (kids:=kids3) (by rw [←zk HR];simp only [aP,ub,ef svar,ef sbrace,ef sif,ef sfor,ef sswitch,ef sselect,ef sbreak,ef scontinue,ef sfallthrough,et sreturn,h3n sfor sswitch sselect,zk HQ3]) (row3.ag (yr zu oz) om lr) sq ?_ ?_)
  ·exact yv ‹_› ok oz
  ·exact yw ‹_› oz
 by_cases sgo:yI C.ts k=[103,111]
 ·skip
  have h6:=zm (dH sgo)
  go_enter Tryz.func99,Tryz.ntmps99
  go_wp2_with fail
  refine qc w ok k h (zy C ok k h _ (zw ‹_›)) (zw ‹_›) (yD ‹_›) fun w1 p1 hg _ G1=>?_
  have bl0_1:BL w1 w.heap.size (yA):=BL.grown (yN om) hg om
  clear hg
  have nf1:¬w.heap.size=C.b:=om
  go_wp2_with fail
  refine qc w ok k h (yc C ok k h _ ‹_›) ‹_› ‹_› fun w2 p2 hg _ G2=>?_
  have bl0_2:BL w2 w.heap.size (yA):=BL.grown ‹_› hg om
  have hl0_2:=bl0_2.lt
  clear bl0_1 p1 hg
  go_wp2_with fail
  refine (ih.at.callStmt 31 h k _ ‹_› (zk h6) (fun hx=>zk HO ((zk HR).symm.trans (by simp only [aP,ub,ef svar,ef sbrace,ef sif,ef sfor,ef sswitch,ef sselect,ef sbreak,ef scontinue,ef sfallthrough,ef sreturn,et sgo,h3n sfor sswitch sselect,hx])))).mono ?_
  rintro e w3 hp
  rcases hp with ⟨kd3,tx3,nm3,ps3,kids3,s3,k3,ao3,cp3,hq,rfl,hrow,p3,hg⟩ | ⟨pb,rule,hq,rfl,hg⟩
  rotate_left
  (exact ⟨rfl,zs (by rw [←zk HR];simp only [aP,ub,ef svar,ef sbrace,ef sif,ef sfor,ef sswitch,ef sselect,ef sbreak,ef scontinue,ef sfallthrough,ef sreturn,et sgo,h3n sfor sswitch sselect,hq]) (zl ‹_› hg)⟩)
  have G3:w.grownBy w3 (some C.b):=zl ‹_› hg
  have bl0_3:BL w3 w.heap.size (yA):=BL.grown ‹_› hg om
  have zc0_3:=bl0_3.cell
  have fz0_3:=bl0_3.frozen
  clear bl0_2 p2
  obtain ⟨lo3,hlo3,row3⟩:=hrow.named
  (try simp at hlo3)
  have HQ3:=zm hq
  clear hrow hq hg
  go_wp2
  refine bodyPost_ret (v:=.agg #[.int .i64 kd3,.string ⟨tx3.toArray⟩,.int .i64 nm3,.int .i64 ps3,.string ⟨#[]⟩,.int .i64 0,.slice ao3 kids3.length cp3]) zN rfl (yB (hi:=w3.heap.size) (s:=s3) (k':=k3) (tx:=tx3) (kids:=kids3) (by rw [←zk HR];simp only [aP,ub,ef svar,ef sbrace,ef sif,ef sfor,ef sswitch,ef sselect,ef sbreak,ef scontinue,ef sfallthrough,ef sreturn,et sgo,h3n sfor sswitch sselect,zk HQ3]) (row3.ag (yr zu oz) om lr) sq ?_ ?_)
  ·exact yv ‹_› ok oz
  ·exact yw ‹_› oz
 by_cases sdefer:yI C.ts k=[100,101,102,101,114]
 ·skip
  have h6:=zm (dH sdefer)
  go_enter Tryz.func99,Tryz.ntmps99
  go_wp2_with fail
  refine qc w ok k h (zy C ok k h _ (zw ‹_›)) (zw ‹_›) (yD ‹_›) fun w1 p1 hg _ G1=>?_
  have bl0_1:BL w1 w.heap.size (yA):=BL.grown (yN om) hg om
  clear hg
  have nf1:¬w.heap.size=C.b:=om
  go_wp2_with fail
  refine qc w ok k h (yc C ok k h _ ‹_›) ‹_› ‹_› fun w2 p2 hg _ G2=>?_
  have bl0_2:BL w2 w.heap.size (yA):=BL.grown ‹_› hg om
  have hl0_2:=bl0_2.lt
  clear bl0_1 p1 hg
  go_wp2_with fail
  refine (ih.at.callStmt 32 h k _ ‹_› (zk h6) (fun hx=>zk HO ((zk HR).symm.trans (by simp only [aP,ub,ef svar,ef sbrace,ef sif,ef sfor,ef sswitch,ef sselect,ef sbreak,ef scontinue,ef sfallthrough,ef sreturn,ef sgo,et sdefer,h3n sfor sswitch sselect,hx])))).mono ?_
  rintro e w3 hp
  rcases hp with ⟨kd3,tx3,nm3,ps3,kids3,s3,k3,ao3,cp3,hq,rfl,hrow,p3,hg⟩ | ⟨pb,rule,hq,rfl,hg⟩
  rotate_left
  (exact ⟨rfl,zs (by rw [←zk HR];simp only [aP,ub,ef svar,ef sbrace,ef sif,ef sfor,ef sswitch,ef sselect,ef sbreak,ef scontinue,ef sfallthrough,ef sreturn,ef sgo,et sdefer,h3n sfor sswitch sselect,hq]) (zl ‹_› hg)⟩)
  have G3:w.grownBy w3 (some C.b):=zl ‹_› hg
  have bl0_3:BL w3 w.heap.size (yA):=BL.grown ‹_› hg om
  have zc0_3:=bl0_3.cell
  have fz0_3:=bl0_3.frozen
  clear bl0_2 p2
  obtain ⟨lo3,hlo3,row3⟩:=hrow.named
  (try simp at hlo3)
  have HQ3:=zm hq
  clear hrow hq hg
  go_wp2
  refine bodyPost_ret (v:=.agg #[.int .i64 kd3,.string ⟨tx3.toArray⟩,.int .i64 nm3,.int .i64 ps3,.string ⟨#[]⟩,.int .i64 0,.slice ao3 kids3.length cp3]) zN rfl (yB (hi:=w3.heap.size) (s:=s3) (k':=k3) (tx:=tx3) (kids:=kids3) (by rw [←zk HR];simp only [aP,ub,ef svar,ef sbrace,ef sif,ef sfor,ef sswitch,ef sselect,ef sbreak,ef scontinue,ef sfallthrough,ef sreturn,ef sgo,et sdefer,h3n sfor sswitch sselect,zk HQ3]) (row3.ag (yr zu oz) om lr) sq ?_ ?_)
  ·exact yv ‹_› ok oz
  ·exact yw ‹_› oz
 have bsvar:(yI C.ts k==[118,97,114])=false:=beq_eq_false_iff_ne.2 svar
 have bsbrace:(yI C.ts k==[123])=false:=beq_eq_false_iff_ne.2 sbrace
 have bsif:(yI C.ts k==[105,102])=false:=beq_eq_false_iff_ne.2 sif
 have bsfor:(yI C.ts k==[102,111,114])=false:=beq_eq_false_iff_ne.2 sfor
 have bsswitch:(yI C.ts k==[115,119,105,116,99,104])=false:=beq_eq_false_iff_ne.2 sswitch
 have bsselect:(yI C.ts k==[115,101,108,101,99,116])=false:=beq_eq_false_iff_ne.2 sselect
 have bsbreak:(yI C.ts k==[98,114,101,97,107])=false:=beq_eq_false_iff_ne.2 sbreak
 have bscontinue:(yI C.ts k==[99,111,110,116,105,110,117,101])=false:=beq_eq_false_iff_ne.2 scontinue
 have bsfallthrough:(yI C.ts k==[102,97,108,108,116,104,114,111,117,103,104])=false:=beq_eq_false_iff_ne.2 sfallthrough
 have bsreturn:(yI C.ts k==[114,101,116,117,114,110])=false:=beq_eq_false_iff_ne.2 sreturn
 have bsgo:(yI C.ts k==[103,111])=false:=beq_eq_false_iff_ne.2 sgo
 have bsdefer:(yI C.ts k==[100,101,102,101,114])=false:=beq_eq_false_iff_ne.2 sdefer
 go_enter Tryz.func99,Tryz.ntmps99
 go_wp2_with fail
 refine qc w ok k h (zy C ok k h _ (zw ‹_›)) (zw ‹_›) (yD ‹_›) fun w1 p1 hg _ G1=>?_
 have bl0_1:BL w1 w.heap.size (yA):=BL.grown (yN om) hg om
 clear hg
 have nf1:¬w.heap.size=C.b:=om
 go_wp2_with fail
 refine qc w ok k h (yc C ok k h _ ‹_›) ‹_› ‹_› fun w2 p2 hg _ G2=>?_
 have bl0_2:BL w2 w.heap.size (yA):=BL.grown ‹_› hg om
 clear bl0_1 p1 hg
 by_cases cl:labels C.ts k=true
 rotate_left
 ·skip
  go_wp2_with fail
  refine qc w ok k h (qF C ok k h _ ‹_›) ‹_› ‹_› fun w3 p3 hg _ G3=>?_
  have bl0_3:BL w3 w.heap.size (yA):=BL.grown ‹_› hg om
  have hl0_3:=bl0_3.lt
  clear bl0_2 p2 hg
  go_wp2_with fail
  refine (ih.at.simple h k _ ‹_› (fun hx=>zk HO ((zk HR).symm.trans (by simp only [aP,ub,ef svar,ef sbrace,ef sif,ef sfor,ef sswitch,ef sselect,ef sbreak,ef scontinue,ef sfallthrough,ef sreturn,ef sgo,ef sdefer,h3n sfor sswitch sselect,ef cl,hx])))).mono ?_
  rintro e w4 hp
  rcases hp with ⟨kd4,tx4,nm4,ps4,kids4,s4,k4,ao4,cp4,hq,rfl,hrow,p4,hg⟩ | ⟨pb,rule,hq,rfl,hg⟩
  rotate_left
  (exact ⟨rfl,zs (by rw [←zk HR];simp only [aP,ub,ef svar,ef sbrace,ef sif,ef sfor,ef sswitch,ef sselect,ef sbreak,ef scontinue,ef sfallthrough,ef sreturn,ef sgo,ef sdefer,h3n sfor sswitch sselect,ef cl,hq]) (zl ‹_› hg)⟩)
  have G4:w.grownBy w4 (some C.b):=zl ‹_› hg
  have bl0_4:BL w4 w.heap.size (yA):=BL.grown ‹_› hg om
  have zc0_4:=bl0_4.cell
  have fz0_4:=bl0_4.frozen
  clear bl0_3 p3
  obtain ⟨lo4,hlo4,row4⟩:=hrow.named
  (try simp at hlo4)
  have HQ4:=zm hq
  clear hrow hq hg
  go_wp2
  refine bodyPost_ret (v:=.agg #[.int .i64 kd4,.string ⟨tx4.toArray⟩,.int .i64 nm4,.int .i64 ps4,.string ⟨#[]⟩,.int .i64 0,.slice ao4 kids4.length cp4]) zN rfl (yB (hi:=w4.heap.size) (s:=s4) (k':=k4) (tx:=tx4) (kids:=kids4) (by rw [←zk HR];simp only [aP,ub,ef svar,ef sbrace,ef sif,ef sfor,ef sswitch,ef sselect,ef sbreak,ef scontinue,ef sfallthrough,ef sreturn,ef sgo,ef sdefer,h3n sfor sswitch sselect,ef cl,zk HQ4]) (row4.ag (yr zu oz) om lr) sq ?_ ?_)
  ·exact yv ‹_› ok oz
  ·exact yw ‹_› oz
 go_wp2_with fail
 refine qc w ok k h (qF C ok k h _ ‹_›) ‹_› ‹_› fun w3 p3 hg _ G3=>?_
 have bl0_3:BL w3 w.heap.size (yA):=BL.grown ‹_› hg om
 have hl0_3:=bl0_3.lt
 clear bl0_2 p2 hg
 have h7:Hid ((zp C.ts k).kind≠6):=by have h8:=cl;unfold labels at h8;show (zp C.ts k).kind≠6;intro h9;simp [h9] at h8
 go_wp2_with fail
 refine (ih.at.labelled h k _ ‹_› (zk h7) (fun hx=>zk HO ((zk HR).symm.trans (by simp only [aP,ub,ef svar,ef sbrace,ef sif,ef sfor,ef sswitch,ef sselect,ef sbreak,ef scontinue,ef sfallthrough,ef sreturn,ef sgo,ef sdefer,h3n sfor sswitch sselect,et cl,hx])))).mono ?_
 rintro e w4 hp
 rcases hp with ⟨kd4,tx4,nm4,ps4,kids4,s4,k4,ao4,cp4,hq,rfl,hrow,p4,hg⟩ | ⟨pb,rule,hq,rfl,hg⟩
 rotate_left
 (exact ⟨rfl,zs (by rw [←zk HR];simp only [aP,ub,ef svar,ef sbrace,ef sif,ef sfor,ef sswitch,ef sselect,ef sbreak,ef scontinue,ef sfallthrough,ef sreturn,ef sgo,ef sdefer,h3n sfor sswitch sselect,et cl,hq]) (zl ‹_› hg)⟩)
 have G4:w.grownBy w4 (some C.b):=zl ‹_› hg
 have bl0_4:BL w4 w.heap.size (yA):=BL.grown ‹_› hg om
 have zc0_4:=bl0_4.cell
 have fz0_4:=bl0_4.frozen
 clear bl0_3 p3
 obtain ⟨lo4,hlo4,row4⟩:=hrow.named
 (try simp at hlo4)
 have HQ4:=zm hq
 clear hrow hq hg
 go_wp2
 refine bodyPost_ret (v:=.agg #[.int .i64 kd4,.string ⟨tx4.toArray⟩,.int .i64 nm4,.int .i64 ps4,.string ⟨#[]⟩,.int .i64 0,.slice ao4 kids4.length cp4]) zN rfl (yB (hi:=w4.heap.size) (s:=s4) (k':=k4) (tx:=tx4) (kids:=kids4) (by rw [←zk HR];simp only [aP,ub,ef svar,ef sbrace,ef sif,ef sfor,ef sswitch,ef sselect,ef sbreak,ef scontinue,ef sfallthrough,ef sreturn,ef sgo,ef sdefer,h3n sfor sswitch sselect,et cl,zk HQ4]) (row4.ag (yr zu oz) om lr) sq ?_ ?_)
 ·exact yv ‹_› ok oz
 ·exact yw ‹_› oz
theorem labelled_w (C:Ctx) (ok:C.Ok) (n:Nat) (ih:All C n):CNt C 119 .labelled #[.pointer (some ⟨C.b,0,none⟩)] (n+1):=by
 intro h k w p h6 hout
 have hr:run C.ts (n+1) .labelled h k=dD C.ts (run C.ts n) h k:=rfl
 rw [hr] at hout ⊢
 clear hr
 generalize hR:dD C.ts (run C.ts n) h k=r0 at hout ⊢
 have H6:=zm h6
 clear h6
 have hbl:=p.lt
 have G0:=zo w (some C.b)
 have HR:=zm hR
 clear hR
 have HO:=zm hout
 clear hout
 go_enter Tryz.func119,Tryz.ntmps119
 go_wp2_with fail
 refine (yR C ok k h _ (zw ‹_›) (zk H6)).mono ?_
 rintro e w1 ⟨rfl,p1,hg⟩
 have hz1:=hg.size
 (try simp at hz1)
 have G1:w.grownBy w1 (some C.b):=zl (yD ‹_›) hg
 have bl0_1:BL w1 w.heap.size (yA):=BL.grown (yN om) hg om
 clear hg
 have ⟨nf1,nf2,ne3⟩:¬w.heap.size=C.b∧¬w1.heap.size=C.b∧¬w.heap.size=w1.heap.size:=om
 by_cases c1:yb C.ts (k+1) [[58]]=true
 rotate_left
 ·skip
  go_wp2_with fail
  refine (yX C ok (k+1) h _ ⟨#[108,97,98,101,108]⟩ [58] (zw ‹_›) (Bool.eq_false_iff.2 c1)).mono ?_
  rintro e w2 ⟨rfl,hgq⟩
  exact ⟨rfl,zs (by rw [←zk HR];simp only [dD,ub,ef c1]) (zl (yD ‹_›) (zn hgq))⟩
 go_wp2_with fail
 refine (yJ C ok (k+1) h _ ⟨#[108,97,98,101,108]⟩ [58] (zw ‹_›) c1).mono ?_
 rintro e w2 ⟨rfl,p2,hg⟩
 have G2:w.grownBy w2 (some C.b):=zl (yD ‹_›) hg
 have bl0_2:BL w2 w.heap.size (yA):=BL.grown (yS ‹_›) hg om
 have hl0_2:=bl0_2.lt
 have bl1_2:BL w2 w1.heap.size (.cells #[.int .i64 (zp C.ts k).kind,.string ⟨(zp C.ts k).text.toArray⟩,.int .i64 (zp C.ts k).num,.int .i64 (zp C.ts k).pos] 85):=BL.grown (yN om) hg om
 have zc1_2:=bl1_2.cell
 clear bl0_1 p1 hg
 go_wp2
 go_region_held2 (fun w'=>w'.cell? ⟨w1.heap.size,1,none⟩=some (.string ⟨(zp C.ts k).text.toArray⟩)∧w'.cell? ⟨w1.heap.size,3,none⟩=some (.int .i64 (zp C.ts k).pos)) (go_keep) (first | (go_at_call 114;(refine (ih.at.breakable h (k+1+1) _ (pw1 ‹_›) (fun hx=>zk HO ((zk HR).symm.trans (by simp only [dD,ub,et c1,hx])))).mono ?_;rintro e w3 hp;rcases hp with ⟨kd3,tx3,nm3,ps3,kids3,s3,k3,ao3,cp3,hq,rfl,hrow,p3,hg⟩ | ⟨pb,rule,hq,rfl,hg⟩;rotate_left;(exact ⟨rfl,zs (by rw [←zk HR];simp only [dD,ub,et c1,hq]) (zl (gw1 ‹_›) hg)⟩);have hz3:=hg.size;(try simp at hz3);have G3:w.grownBy w3 (some C.b):=zl (gw1 ‹_›) hg;have bl0_3:BL w3 w.heap.size (yA):=BL.grown (bw1 ‹_›) hg om;have hl0_3:=bl0_3.lt;have zc0_3:=bl0_3.cell;have fz0_3:=bl0_3.frozen;have bl1_3:BL w3 w1.heap.size (.cells #[.int .i64 (zp C.ts k).kind,.string ⟨(zp C.ts k).text.toArray⟩,.int .i64 (zp C.ts k).num,.int .i64 (zp C.ts k).pos] 85):=BL.grown (bw1 ‹_›) hg om;have hl1_3:=bl1_3.lt;have zc1_3:=bl1_3.cell;have fz1_3:=bl1_3.frozen;clear bl0_2;clear bl1_2 zc1_2;clear p2;obtain ⟨lo3,hlo3,row3⟩:=hrow.named;(try simp at hlo3);have HQ3:=zm hq;clear hrow hq;clear hg;have ne7:¬C.b=w3.heap.size:=om;have nf7:¬w3.heap.size=C.b:=om;have ne8:¬w.heap.size=w3.heap.size:=om;have nf8:¬w3.heap.size=w.heap.size:=om;have ne9:¬w1.heap.size=w3.heap.size:=om;have nf9:¬w3.heap.size=w1.heap.size:=om)))
 go_wp2
 refine bodyPost_ret (v:=.agg #[.int .i64 35,.string ⟨(zp C.ts k).text.toArray⟩,.int .i64 0,.int .i64 (zp C.ts k).pos,.string ⟨#[]⟩,.int .i64 0,.slice (some ⟨w3.heap.size,0,none⟩) 1 1]) (by simp [results,Tryz.results119,go_sem, *]) rfl (yB (hi:=w3.heap.size+1) (s:=0) (k':=k3) (tx:=(zp C.ts k).text) (kids:=[.mk kd3 tx3 nm3 ps3 kids3]) (by rw [←zk HR];simp only [dD,ub,et c1,zk HQ3]) (rowB (cur:=#[.int .i64 kd3,.string ⟨tx3.toArray⟩,.int .i64 nm3,.int .i64 ps3,.string ⟨#[]⟩,.int .i64 0,.slice ao3 kids3.length cp3]) (yN sq) ((Nd.mk (kd:=kd3) (tx:=tx3) (nm:=nm3) (ps:=ps3) row3).ag (yQ (yr zu oz) sq)) rfl om om om om (.inr om)) sq ?_ ?_)
 ·exact zw (yv ‹_› ok oz)
 ·exact yD (yw ‹_› oz)
theorem initial_w (C:Ctx) (ok:C.Ok) (n:Nat) (ih:All C n):CN C 166 .initial #[.pointer (some ⟨C.b,0,none⟩)] (n+1):=by
 intro h k w p hout
 have hr:run C.ts (n+1) .initial h k=dR C.ts (run C.ts n) h k:=rfl
 rw [hr] at hout ⊢
 clear hr
 generalize hR:dR C.ts (run C.ts n) h k=r0 at hout ⊢
 have hbl:=p.lt
 have G0:=zo w (some C.b)
 have HR:=zm hR
 clear hR
 have HO:=zm hout
 clear hout
 go_enter Tryz.func166,Tryz.ntmps166
 by_cases n1:(zp C.ts k).kind=1
 rotate_left
 ·skip
  go_wp2_with fail
  refine (kH C ok k h _ ⟨#[105,110,105,116]⟩ (zw ‹_›) n1).mono ?_
  rintro e w1 ⟨rfl,hgq⟩
  exact ⟨rfl,zs (by rw [←zk HR];simp only [dR,ub,ef n1]) (zl (yD ‹_›) (zn hgq))⟩
 have Hn1:=zm n1
 clear n1
 go_wp2_with fail
 refine (jB C ok k h _ ⟨#[105,110,105,116]⟩ (zw ‹_›) (zk Hn1)).mono ?_
 rintro e w1 ⟨rfl,p1,hg⟩
 have hz1:=hg.size
 (try simp at hz1)
 have G1:w.grownBy w1 (some C.b):=zl (yD ‹_›) hg
 have bl0_1:BL w1 w.heap.size (yA):=BL.grown (yN om) hg om
 clear hg
 have ⟨nf1,nf2,ne3⟩:¬w.heap.size=C.b∧¬w1.heap.size=C.b∧¬w.heap.size=w1.heap.size:=om
 by_cases c1:yb C.ts (k+1) [[58]]=true
 rotate_left
 ·skip
  go_wp2_with fail
  refine (yX C ok (k+1) h _ ⟨#[105,110,105,116]⟩ [58] (zw ‹_›) (Bool.eq_false_iff.2 c1)).mono ?_
  rintro e w2 ⟨rfl,hgq⟩
  exact ⟨rfl,zs (by rw [←zk HR];simp only [dR,ub,et (zk Hn1),ef c1]) (zl (yD ‹_›) (zn hgq))⟩
 go_wp2_with fail
 refine (yJ C ok (k+1) h _ ⟨#[105,110,105,116]⟩ [58] (zw ‹_›) c1).mono ?_
 rintro e w2 ⟨rfl,p2,hg⟩
 have G2:w.grownBy w2 (some C.b):=zl (yD ‹_›) hg
 have bl0_2:BL w2 w.heap.size (yA):=BL.grown (yS ‹_›) hg om
 have hl0_2:=bl0_2.lt
 have bl1_2:BL w2 w1.heap.size (.cells #[.int .i64 (zp C.ts k).kind,.string ⟨(zp C.ts k).text.toArray⟩,.int .i64 (zp C.ts k).num,.int .i64 (zp C.ts k).pos] 85):=BL.grown (yN om) hg om
 have zc1_2:=bl1_2.cell
 clear bl0_1 p1 hg
 go_wp2
 go_region_held2 (fun w'=>w'.cell? ⟨w1.heap.size,1,none⟩=some (.string ⟨(zp C.ts k).text.toArray⟩)∧w'.cell? ⟨w1.heap.size,3,none⟩=some (.int .i64 (zp C.ts k).pos)) (go_keep) (first | (go_at_call 126;(refine (ih.at.expr h (k+1+1) _ (pw1 ‹_›) (fun hx=>zk HO ((zk HR).symm.trans (by simp only [dR,ub,et (zk Hn1),et c1,hx])))).mono ?_;rintro e w3 hp;rcases hp with ⟨kd3,tx3,nm3,ps3,kids3,s3,k3,ao3,cp3,hq,rfl,hrow,p3,hg⟩ | ⟨pb,rule,hq,rfl,hg⟩;rotate_left;(exact ⟨rfl,zs (by rw [←zk HR];simp only [dR,ub,et (zk Hn1),et c1,hq]) (zl (gw1 ‹_›) hg)⟩);have hz3:=hg.size;(try simp at hz3);have G3:w.grownBy w3 (some C.b):=zl (gw1 ‹_›) hg;have bl0_3:BL w3 w.heap.size (yA):=BL.grown (bw1 ‹_›) hg om;have hl0_3:=bl0_3.lt;have zc0_3:=bl0_3.cell;have fz0_3:=bl0_3.frozen;have bl1_3:BL w3 w1.heap.size (.cells #[.int .i64 (zp C.ts k).kind,.string ⟨(zp C.ts k).text.toArray⟩,.int .i64 (zp C.ts k).num,.int .i64 (zp C.ts k).pos] 85):=BL.grown (bw1 ‹_›) hg om;have hl1_3:=bl1_3.lt;have zc1_3:=bl1_3.cell;have fz1_3:=bl1_3.frozen;clear bl0_2;clear bl1_2 zc1_2;clear p2;obtain ⟨lo3,hlo3,row3⟩:=hrow.named;(try simp at hlo3);have HQ3:=zm hq;clear hrow hq;clear hg;have ne7:¬C.b=w3.heap.size:=om;have nf7:¬w3.heap.size=C.b:=om;have ne8:¬w.heap.size=w3.heap.size:=om;have nf8:¬w3.heap.size=w.heap.size:=om;have ne9:¬w1.heap.size=w3.heap.size:=om;have nf9:¬w3.heap.size=w1.heap.size:=om)))
 go_wp2
 refine bodyPost_ret (v:=.agg #[.int .i64 5,.string ⟨(zp C.ts k).text.toArray⟩,.int .i64 0,.int .i64 (zp C.ts k).pos,.string ⟨#[]⟩,.int .i64 0,.slice (some ⟨w3.heap.size,0,none⟩) 1 1]) (by simp [results,Tryz.results166,go_sem, *]) rfl (yB (hi:=w3.heap.size+1) (s:=0) (k':=k3) (tx:=(zp C.ts k).text) (kids:=[.mk kd3 tx3 nm3 ps3 kids3]) (by rw [←zk HR];simp only [dR,ub,et (zk Hn1),et c1,zk HQ3]) (rowB (cur:=#[.int .i64 kd3,.string ⟨tx3.toArray⟩,.int .i64 nm3,.int .i64 ps3,.string ⟨#[]⟩,.int .i64 0,.slice ao3 kids3.length cp3]) (yN sq) ((Nd.mk (kd:=kd3) (tx:=tx3) (nm:=nm3) (ps:=ps3) row3).ag (yQ (yr zu oz) sq)) rfl om om om om (.inr om)) sq ?_ ?_)
 ·exact zw (yv ‹_› ok oz)
 ·exact yD (yw ‹_› oz)
theorem newArgs_w (C:Ctx) (ok:C.Ok) (n:Nat) (ih:All C n):CL C 164 .newArgs #[.pointer (some ⟨C.b,0,none⟩)] (n+1):=by
 intro h k w p hout
 have hr:run C.ts (n+1) .newArgs h k=eU C.ts h k:=rfl
 rw [hr] at hout ⊢
 clear hr
 generalize hR:eU C.ts h k=r0 at hout ⊢
 have hbl:=p.lt
 have G0:=zo w (some C.b)
 have HR:=zm hR
 clear hR hout
 go_enter Tryz.func164,Tryz.ntmps164
 by_cases n1:(zp C.ts k).kind=1
 rotate_left
 ·skip
  go_wp2_with fail
  refine (kH C ok k h _ ⟨#[110,101,119]⟩ ‹_› n1).mono ?_
  rintro e w1 ⟨rfl,hgq⟩
  exact ⟨rfl,yK (by rw [←zk HR];simp only [eU,ub,ef n1]) (zl ‹_› (zn hgq))⟩
 have Hn1:=zm n1
 clear n1
 go_wp2_with fail
 refine (jB C ok k h _ ⟨#[110,101,119]⟩ ‹_› (zk Hn1)).mono ?_
 rintro e w1 ⟨rfl,p1,hg⟩
 have hz1:=hg.size
 (try simp at hz1)
 have G1:w.grownBy w1 (some C.b):=zl ‹_› hg
 clear hg
 have nf1:¬w1.heap.size=C.b:=om
 by_cases c1:yb C.ts (k+1) [[41]]=true
 rotate_left
 ·skip
  go_wp2_with fail
  refine (yX C ok (k+1) h _ ⟨#[110,101,119]⟩ [41] (zw ‹_›) (Bool.eq_false_iff.2 c1)).mono ?_
  rintro e w2 ⟨rfl,hgq⟩
  exact ⟨rfl,yK (by rw [←zk HR];simp only [eU,ub,et (zk Hn1),ef c1]) (zl (yD ‹_›) (zn hgq))⟩
 go_wp2_with fail
 refine (yJ C ok (k+1) h _ ⟨#[110,101,119]⟩ [41] (zw ‹_›) c1).mono ?_
 rintro e w2 ⟨rfl,p2,hg⟩
 have hz2:=hg.size
 (try simp at hz2)
 have G2:w.grownBy w2 (some C.b):=zl (yD ‹_›) hg
 have bl0_2:BL w2 w1.heap.size (.cells #[.int .i64 (zp C.ts k).kind,.string ⟨(zp C.ts k).text.toArray⟩,.int .i64 (zp C.ts k).num,.int .i64 (zp C.ts k).pos] 85):=BL.grown (yN om) hg om
 have zc0_2:=bl0_2.cell
 clear p1 hg
 go_wp2
 go_ret
 refine yg (hi:=w2.heap.size+1) (s:=0) (k':=k+1+1) (l:=[.mk 12 (zp C.ts k).text 0 (zp C.ts k).pos []]) (by rw [←zk HR];simp only [eU,ub,et (zk Hn1),et c1]) (rowB (cur:=#[.int .i64 12,.string ⟨(zp C.ts k).text.toArray⟩,.int .i64 0,.int .i64 (zp C.ts k).pos,.string ⟨#[]⟩,.int .i64 0,.slice none 0 0]) (yN om) (Nd.mk (kd:=12) (tx:=(zp C.ts k).text) (nm:=0) (ps:=(zp C.ts k).pos) (zq.nil _ w.heap.size w.heap.size)) rfl om om om om (.inr om)) sq ?_ ?_
 ·exact zw ‹_›
 ·exact yD ‹_›
theorem makeArgs_w (C:Ctx) (ok:C.Ok) (n:Nat) (ih:All C n):CL C 163 .makeArgs #[.pointer (some ⟨C.b,0,none⟩)] (n+1):=by
 intro h k w p hout
 have hr:run C.ts (n+1) .makeArgs h k=bD C.ts (run C.ts n) h k:=rfl
 rw [hr] at hout ⊢
 clear hr
 generalize hR:bD C.ts (run C.ts n) h k=r0 at hout ⊢
 have hbl:=p.lt
 have G0:=zo w (some C.b)
 have HR:=zm hR
 clear hR
 have HO:=zm hout
 clear hout
 go_enter Tryz.func163,Tryz.ntmps163
 go_wp2_with fail
 refine (ih.at.wtype h k _ ‹_› (fun hx=>zk HO ((zk HR).symm.trans (by simp only [bD,ub,hx])))).mono ?_
 rintro e w1 hp
 rcases hp with ⟨kd1,tx1,nm1,ps1,kids1,s1,k1,ao1,cp1,hq,rfl,hrow,p1,hg⟩ | ⟨pb,rule,hq,rfl,hg⟩
 rotate_left
 (exact ⟨rfl,yK (by rw [←zk HR];simp only [bD,ub,hq]) (zl ‹_› hg)⟩)
 have hz1:=hg.size
 (try simp at hz1)
 have G1:w.grownBy w1 (some C.b):=zl ‹_› hg
 obtain ⟨lo1,hlo1,dU⟩:=hrow.named
 (try simp at hlo1)
 have HQ1:=zm hq
 clear hrow hq hg
 have nf1:¬w1.heap.size=C.b:=om
 by_cases c2:yb C.ts k1 [[44]]=true
 rotate_left
 ·skip
  go_wp2_with fail
  refine qc w ok k1 h (yV C ok k1 h _ [44] (zw ‹_›) (Bool.eq_false_iff.2 c2)) (zw ‹_›) (yD ‹_›) fun w2 p2 hg hz2 G2=>?_
  (try simp at hz2)
  replace dU:=zq.ag dU (Ag.grown (yQ zu sq) hg sq om) lr lr
  have bl0_2:BL w2 w1.heap.size (yE kd1 ⟨tx1.toArray⟩ nm1 ps1 ao1 kids1.length cp1):=BL.grown (yN om) hg om
  clear p1 hg
  by_cases c3:yb C.ts k1 [[41]]=true
  rotate_left
  ·skip
   go_wp2_with fail
   refine (yX C ok k1 h _ ⟨#[109,97,107,101]⟩ [41] ‹_› (Bool.eq_false_iff.2 c3)).mono ?_
   rintro e w3 ⟨rfl,hgq⟩
   exact ⟨rfl,yK (by rw [←zk HR];simp only [bD,ub,zk HQ1,ef c2,ef c3]) (zl ‹_› (zn hgq))⟩
  go_wp2_with fail
  refine (yJ C ok k1 h _ ⟨#[109,97,107,101]⟩ [41] ‹_› c3).mono ?_
  rintro e w3 ⟨rfl,p3,hg⟩
  have G3:w.grownBy w3 (some C.b):=zl ‹_› hg
  replace dU:=zq.ag dU (Ag.grown zu hg om om) lr lr
  have bl0_3:BL w3 w1.heap.size (yE kd1 ⟨tx1.toArray⟩ nm1 ps1 ao1 kids1.length cp1):=BL.grown ‹_› hg om
  have hl0_3:=bl0_3.lt
  clear bl0_2 p2 hg
  go_wp2
  go_ret
  refine yg (hi:=w1.heap.size+1) (s:=0) (k':=k1+1) (l:=[.mk kd1 tx1 nm1 ps1 kids1]) (by rw [←zk HR];simp only [bD,ub,zk HQ1,ef c2,et c3]) (rowB (cur:=#[.int .i64 kd1,.string ⟨tx1.toArray⟩,.int .i64 nm1,.int .i64 ps1,.string ⟨#[]⟩,.int .i64 0,.slice ao1 kids1.length cp1]) ‹_› ((Nd.mk (kd:=kd1) (tx:=tx1) (nm:=nm1) (ps:=ps1) dU).ag zu) rfl om om om om (.inr om)) om ?_ ?_
  ·assumption
  ·assumption
 go_wp2_with fail
 refine (yU C ok k1 h _ [44] (zw ‹_›) c2).mono ?_
 rintro e w2 ⟨rfl,p2,hg⟩
 have hz2:=hg.size
 (try simp at hz2)
 have G2:w.grownBy w2 (some C.b):=zl (yD ‹_›) hg
 replace dU:=zq.ag dU (Ag.grown (yQ zu sq) hg sq om) lr lr
 have bl0_2:BL w2 w1.heap.size (yE kd1 ⟨tx1.toArray⟩ nm1 ps1 ao1 kids1.length cp1):=BL.grown (yN om) hg om
 clear p1 hg
 go_wp2_with fail
 refine (ih.at.expr h (k1+1) _ ‹_› (fun hx=>zk HO ((zk HR).symm.trans (by simp only [bD,ub,zk HQ1,et c2,hx])))).mono ?_
 rintro e w3 hp
 rcases hp with ⟨kd3,tx3,nm3,ps3,kids3,s3,k3,ao3,cp3,hq,rfl,hrow,p3,hg⟩ | ⟨pb,rule,hq,rfl,hg⟩
 rotate_left
 (exact ⟨rfl,yK (by rw [←zk HR];simp only [bD,ub,zk HQ1,et c2,hq]) (zl ‹_› hg)⟩)
 have G3:w.grownBy w3 (some C.b):=zl ‹_› hg
 replace dU:=zq.ag dU (Ag.grown zu hg om om) lr lr
 have bl0_3:BL w3 w1.heap.size (yE kd1 ⟨tx1.toArray⟩ nm1 ps1 ao1 kids1.length cp1):=BL.grown ‹_› hg om
 have hl0_3:=bl0_3.lt
 clear bl0_2 p2
 obtain ⟨lo3,hlo3,row3⟩:=hrow.named
 (try simp at hlo3)
 have HQ3:=zm hq
 clear hrow hq hg
 have rowx:zq w3 lo1 (w1.heap.size+1) (.slice (some ⟨w1.heap.size,0,none⟩) 1 1) [.mk kd1 tx1 nm1 ps1 kids1]:=rowB (cur:=#[.int .i64 kd1,.string ⟨tx1.toArray⟩,.int .i64 nm1,.int .i64 ps1,.string ⟨#[]⟩,.int .i64 0,.slice ao1 kids1.length cp1]) bl0_3 ((Nd.mk (kd:=kd1) (tx:=tx1) (nm:=nm1) (ps:=ps1) dU)) rfl om om om om (.inr om)
 go_wp2_with (first | (at_builtin;(refine dG rfl (.tmp 9) (.tmp 12) rfl (lo:=lo1) (hi:=w1.heap.size+1) (ao:=(some ⟨w1.heap.size,0,none⟩)) (cp:=1) (l:=[.mk kd1 tx1 nm1 ps1 kids1]) (t:=.mk kd3 tx3 nm3 ps3 kids3) (A:=lo3) (B:=w3.heap.size) (g0:=w3.heap.size) (cur:=#[.int .i64 kd3,.string ⟨tx3.toArray⟩,.int .i64 nm3,.int .i64 ps3,.string ⟨#[]⟩,.int .i64 0,.slice ao3 kids3.length cp3]) zH (zq.ag rowx (yQ zu om) lr lr) zH (yN om) ((Nd.mk (kd:=kd3) (tx:=tx3) (nm:=nm3) (ps:=ps3) row3).ag (yQ zu sq)) rfl iO zK sq sq om sq om ?_;intro g4 cp4 w4 hrw4 hgA hat4 hgl4;have hob:=rowx.own;have hz4:=hgA.size;(try simp at hz4);(try simp at hat4);have G4:w.grownBy w4 (some C.b):=yP (yD ‹_›) hgA (fun x hx=>by have:=hob x hx;omega);have p4:=PS.own (C:=C) (k:=k3) (h:=h) (zw ‹_›) ok hgA (fun x hx=>by have:=hob x hx;omega);clear p3 hgA hob;have ne6:¬C.b=w4.heap.size:=om;have nf6:¬w4.heap.size=C.b:=om)))
 have row4:=hrw4 w4 lr rfl (Ag.refl _ _ _) (Ag.refl _ _ _)
 clear hrw4
 by_cases c4:yb C.ts k3 [[41]]=true
 rotate_left
 ·skip
  go_wp2_with fail
  refine (yX C ok k3 h _ ⟨#[109,97,107,101]⟩ [41] ‹_› (Bool.eq_false_iff.2 c4)).mono ?_
  rintro e w5 ⟨rfl,hgq⟩
  exact ⟨rfl,yK (by rw [←zk HR];simp only [bD,ub,zk HQ1,et c2,zk HQ3,ef c4]) (zl ‹_› (zn hgq))⟩
 go_wp2_with fail
 refine (yJ C ok k3 h _ ⟨#[109,97,107,101]⟩ [41] ‹_› c4).mono ?_
 rintro e w5 ⟨rfl,p5,hg⟩
 have hz5:=hg.size
 (try simp at hz5)
 have G5:w.grownBy w5 (some C.b):=zl ‹_› hg
 replace row4:=zq.ag row4 (Ag.grown zu hg om om) lr lr
 clear p4 hg
 go_wp2
 go_ret
 refine yg (hi:=w4.heap.size) (s:=0) (k':=k3+1) (l:=[.mk kd1 tx1 nm1 ps1 kids1,.mk kd3 tx3 nm3 ps3 kids3]) (by rw [←zk HR];simp only [bD,ub,zk HQ1,et c2,zk HQ3,et c4]) (row4.ag zu om lr) om ?_ ?_
 ·assumption
 ·assumption
open Go.RowKit Lx Px
theorem function_w (C:Ctx) (ok:C.Ok) (n:Nat) (ih:All C n):CL C 56 .function #[.pointer (some ⟨C.b,0,none⟩)] (n+1):=by
 intro h k w p hout
 have hr:run C.ts (n+1) .function h k=bJ C.ts (run C.ts n) h k:=rfl
 rw [hr] at hout ⊢
 clear hr
 generalize hR:bJ C.ts (run C.ts n) h k=r0 at hout ⊢
 have hbl:=p.lt
 have htf3:=bT
 have G0:=zo w (some C.b)
 have HR:=zm hR
 clear hR
 have HO:=zm hout
 clear hout
 go_enter Tryz.func56,Tryz.ntmps56
 by_cases c1:yb C.ts k [[40]]=true
 rotate_left
 ·skip
  go_wp2_with fail
  refine (yX C ok k h _ ⟨#[115,105,103,110,97,116,117,114,101]⟩ [40] (zw ‹_›) (Bool.eq_false_iff.2 c1)).mono ?_
  rintro e w1 ⟨rfl,hgq⟩
  exact ⟨rfl,yK (by rw [←zk HR];simp only [bJ,ub,ef c1]) (zl (yD ‹_›) (zn hgq))⟩
 go_wp2_with fail
 refine (yJ C ok k h _ ⟨#[115,105,103,110,97,116,117,114,101]⟩ [40] (zw ‹_›) c1).mono ?_
 rintro e w1 ⟨rfl,p1,hg⟩
 have hz1:=hg.size
 (try simp at hz1)
 have G1:w.grownBy w1 (some C.b):=zl (yD ‹_›) hg
 have bl0_1:BL w1 w.heap.size (.cells #[.pointer (some ⟨C.b,0,none⟩)] 86):=BL.grown (yN om) hg om
 have hl0_1:=bl0_1.lt
 have zc0_1:=bl0_1.cell
 clear hg
 have ⟨nf1,nf2,nf3⟩:¬w.heap.size=C.b∧¬w1.heap.size=C.b∧¬w1.heap.size=w.heap.size:=om
 go_wp2_with fail
 refine (ih.at.listedN w.heap.size h (k+1) _ (zw ‹_›) ⟨(yS ‹_›),om⟩ (fun hx=>zk HO ((zk HR).symm.trans (by simp only [bJ,ub,et c1,hx])))).mono ?_
 rintro e w2 hp
 rcases hp with ⟨l2,s2,k2,ao2,cp2,hq,rfl,hrow,p2,hg⟩ | ⟨pb,rule,hq,rfl,hg⟩
 rotate_left
 (exact ⟨rfl,yK (by rw [←zk HR];simp only [bJ,ub,et c1,hq]) (zl (yD ‹_›) hg)⟩)
 have hz2:=hg.size
 (try simp at hz2)
 have G2:w.grownBy w2 (some C.b):=zl (yD ‹_›) hg
 have bl0_2:BL w2 w.heap.size (.cells #[.pointer (some ⟨C.b,0,none⟩)] 86):=BL.grown (yS ‹_›) hg om
 have hl0_2:=bl0_2.lt
 have zc0_2:=bl0_2.cell
 have bl1_2:BL w2 w1.heap.size (yE 6 ⟨#[]⟩ 0 (zp C.ts k).pos none 0 0):=BL.grown (yN om) hg om
 have zc1_2:=bl1_2.cell
 have fz1_2:=bl1_2.frozen
 clear bl0_1 zc0_1 p1
 obtain ⟨lo2,hlo2,row2⟩:=hrow.named
 (try simp at hlo2)
 have HQ2:=zm hq
 clear hrow hq hg
 go_wp2_with fail
 refine (ih.at.result h k2 _ (pw3 ‹_› ok sq) (fun hx=>zk HO ((zk HR).symm.trans (by simp only [bJ,ub,et c1,zk HQ2,hx])))).mono ?_
 rintro e w3 hp
 rcases hp with ⟨kd3,tx3,nm3,ps3,kids3,s3,k3,ao3,cp3,hq,rfl,hrow,p3,hg⟩ | ⟨pb,rule,hq,rfl,hg⟩
 rotate_left
 (exact ⟨rfl,yK (by rw [←zk HR];simp only [bJ,ub,et c1,zk HQ2,hq]) (zl (gw3 ‹_› sq) hg)⟩)
 have hz3:=hg.size
 (try simp at hz3)
 have G3:w.grownBy w3 (some C.b):=zl (gw3 ‹_› sq) hg
 replace row2:=zq.ag row2 (Ag.grown (aw3 zu sq) hg sq om) lr lr
 have bl0_3:BL w3 w.heap.size (.cells #[.pointer (some ⟨C.b,0,none⟩)] 86):=BL.grown (bw3 ‹_› om) hg om
 have hl0_3:=bl0_3.lt
 have zc0_3:=bl0_3.cell
 have bl1_3:BL w3 w1.heap.size (yE 6 ⟨#[]⟩ 0 (zp C.ts k).pos ao2 l2.length cp2):=BL.grown (by apply BL.mF ‹_›;simp) hg om
 have zc1_3:=bl1_3.cell
 clear bl0_2 zc0_2 bl1_2 zc1_2 fz1_2 p2
 obtain ⟨lo3,hlo3,row3⟩:=hrow.named
 (try simp at hlo3)
 have HQ3:=zm hq
 clear hrow hq hg
 have nf7:¬w3.heap.size=C.b:=om
 go_wp2
 go_region_held2 (fun w'=>w'.cell? ⟨w1.heap.size,0,none⟩=some (.int .i64 6)∧w'.cell? ⟨w1.heap.size,1,none⟩=some (.string ⟨#[]⟩)∧w'.cell? ⟨w1.heap.size,2,none⟩=some (.int .i64 0)∧w'.cell? ⟨w1.heap.size,3,none⟩=some (.int .i64 (zp C.ts k).pos)∧w'.cell? ⟨w1.heap.size,4,none⟩=some (.string ⟨#[]⟩)∧w'.cell? ⟨w1.heap.size,5,none⟩=some (.int .i64 0)∧w'.cell? ⟨w1.heap.size,6,none⟩=some (.slice ao2 l2.length cp2)∧w'.cell? ⟨w3.heap.size,0,none⟩=some (.int .i64 kd3)∧w'.cell? ⟨w3.heap.size,1,none⟩=some (.string ⟨tx3.toArray⟩)∧w'.cell? ⟨w3.heap.size,2,none⟩=some (.int .i64 nm3)∧w'.cell? ⟨w3.heap.size,3,none⟩=some (.int .i64 ps3)∧w'.cell? ⟨w3.heap.size,4,none⟩=some (.string ⟨#[]⟩)∧w'.cell? ⟨w3.heap.size,5,none⟩=some (.int .i64 0)∧w'.cell? ⟨w3.heap.size,6,none⟩=some (.slice ao3 kids3.length cp3)∧w'.cell? ⟨w.heap.size,0,none⟩=some (.pointer (some ⟨C.b,0,none⟩))) (go_keep) (first | (go_at_call 78;(refine (iT C ok 79 #[.pointer (some ⟨C.b,0,none⟩)] #[] en75 (run C.ts n .block false k3) false h k3 _ (pw1 (zw ‹_›)) (fun w0 _ q0=>ih.at.block false k3 w0 q0 (fun hx=>zk HO ((zk HR).symm.trans (by simp only [bJ,ub,et c1,zk HQ2,zk HQ3,hx]))))).mono ?_;rintro e w4 hp;rcases hp with ⟨kd4,tx4,nm4,ps4,kids4,s4,k4,ao4,cp4,hq,rfl,hrow,p4,hg⟩ | ⟨pb,rule,hq,rfl,hg⟩;rotate_left;(exact ⟨rfl,yK (by rw [←zk HR];simp only [bJ,ub,et c1,zk HQ2,zk HQ3,hq]) (zl (gw1 (yD ‹_›)) hg)⟩);have hz4:=hg.size;(try simp at hz4);have G4:w.grownBy w4 (some C.b):=zl (gw1 (yD ‹_›)) hg;replace row2:=zq.ag row2 (Ag.grown (aw1 (yQ zu om)) hg sq om) lr lr;replace row3:=zq.ag row3 (Ag.grown (aw1 (yQ zu sq)) hg sq om) lr lr;have bl0_4:BL w4 w.heap.size (.cells #[.pointer (some ⟨C.b,0,none⟩)] 86):=BL.grown (bw1 (yS ‹_›)) hg om;have hl0_4:=bl0_4.lt;have zc0_4:=bl0_4.cell;have fz0_4:=bl0_4.frozen;have bl1_4:BL w4 w1.heap.size (.cells #[.int .i64 6,.string ⟨#[]⟩,.int .i64 0,.int .i64 (zp C.ts k).pos,.string ⟨#[]⟩,.int .i64 0,.slice ao2 l2.length cp2] 25):=BL.grown (bw1 (yS ‹_›)) hg om;have hl1_4:=bl1_4.lt;have zc1_4:=bl1_4.cell;have fz1_4:=bl1_4.frozen;have bl2_4:BL w4 w3.heap.size (.cells #[.int .i64 kd3,.string ⟨tx3.toArray⟩,.int .i64 nm3,.int .i64 ps3,.string ⟨#[]⟩,.int .i64 0,.slice ao3 kids3.length cp3] 25):=BL.grown (bw1 (yN om)) hg om;have hl2_4:=bl2_4.lt;have zc2_4:=bl2_4.cell;have fz2_4:=bl2_4.frozen;clear bl0_3 zc0_3;clear bl1_3 zc1_3;clear p3;obtain ⟨lo4,hlo4,row4⟩:=hrow.named;(try simp at hlo4);have HQ4:=zm hq;clear hrow hq;clear hg;have ne10:¬C.b=w4.heap.size:=om;have nf10:¬w4.heap.size=C.b:=om;have ne11:¬w.heap.size=w4.heap.size:=om;have nf11:¬w4.heap.size=w.heap.size:=om;have ne12:¬w1.heap.size=w4.heap.size:=om;have nf12:¬w4.heap.size=w1.heap.size:=om;have ne13:¬w3.heap.size=w4.heap.size:=om;have nf13:¬w4.heap.size=w3.heap.size:=om)))
 go_wp2
 go_ret
 refine yg (hi:=w4.heap.size+1) (s:=0) (k':=k4) (l:=[.mk 6 [] 0 (zp C.ts k).pos l2,.mk kd3 tx3 nm3 ps3 kids3,.mk kd4 tx4 nm4 ps4 kids4]) (by rw [←zk HR];simp only [bJ,ub,et c1,zk HQ2,zk HQ3,zk HQ4]) (jI (cur:=#[.int .i64 6,.string ⟨#[]⟩,.int .i64 0,.int .i64 (zp C.ts k).pos,.string ⟨#[]⟩,.int .i64 0,.slice ao2 l2.length cp2,.int .i64 kd3,.string ⟨tx3.toArray⟩,.int .i64 nm3,.int .i64 ps3,.string ⟨#[]⟩,.int .i64 0,.slice ao3 kids3.length cp3,.int .i64 kd4,.string ⟨tx4.toArray⟩,.int .i64 nm4,.int .i64 ps4,.string ⟨#[]⟩,.int .i64 0,.slice ao4 kids4.length cp4]) (yN om) rfl rfl dc om om (Kids.snoc (Kids.snoc (Kids.one ((Nd.mk (kd:=6) (tx:=[]) (nm:=0) (ps:=(zp C.ts k).pos) row2).ag (yQ zu om)) om om (.inr om)) ((Nd.mk (kd:=kd3) (tx:=tx3) (nm:=nm3) (ps:=ps3) row3).ag (yQ zu om)) om om (.inr om)) ((Nd.mk (kd:=kd4) (tx:=tx4) (nm:=nm4) (ps:=ps4) row4).ag (yQ zu sq)) om om (.inr om))) sq ?_ ?_
 ·exact zw ‹_›
 ·exact yD ‹_›
open Go.RowKit Lx Px
theorem simple_w (C:Ctx) (ok:C.Ok) (n:Nat) (ih:All C n):CN C 120 .simple #[.pointer (some ⟨C.b,0,none⟩)] (n+1):=by
 intro h k w p hout
 have hr:run C.ts (n+1) .simple h k=dN C.ts (run C.ts n) h k:=rfl
 rw [hr] at hout ⊢
 clear hr
 generalize hR:dN C.ts (run C.ts n) h k=r0 at hout ⊢
 have hbl:=p.lt
 have G0:=zo w (some C.b)
 have HR:=zm hR
 clear hR
 have HO:=zm hout
 clear hout
 go_enter Tryz.func120,Tryz.ntmps120
 by_cases c0:yb C.ts k [[45],[33]]=true
 ·skip
  go_wp2_with fail
  refine qc w ok k h (isL C ok k h _ (w.heap.size+1) [[45],[33]] dc (zw ‹_›) zK) (zw ‹_›) (yD ‹_›) fun w1 p1 hg _ G1=>?_
  clear hg
  go_wp2_with fail
  refine (dA C ok k h _ ⟨#[115,105,109,112,108,101]⟩ ‹_›).mono ?_
  rintro e w2 ⟨rfl,hgq⟩
  have hg:=zn (r:=some C.b) hgq
  clear hgq
  have G2:w.grownBy w2 (some C.b):=zl ‹_› hg
  clear p1 hg
  go_wp2
  exact yp rfl (zs (by rw [←zk HR];simp only [dN,eq_self,(show ((0:Int)=1)=False from by decide),ub,et c0]) ‹_›)
 go_wp2_with fail
 refine qc w ok k h (isL C ok k h _ (w.heap.size+1) [[45],[33]] dc (zw ‹_›) zK) (zw ‹_›) (yD ‹_›) fun w1 p1 hg hz1 G1=>?_
 (try simp at hz1)
 have bl0_1:BL w1 (w.heap.size) (yA):=BL.grown (yN om) hg om
 clear hg
 have nf1:¬w.heap.size=C.b:=om
 go_wp2_with fail
 refine (ih.at.shaped h k _ ‹_› (fun hx=>zk HO ((zk HR).symm.trans (by simp only [dN,eq_self,(show ((0:Int)=1)=False from by decide),ub,ef c0,hx])))).mono ?_
 rintro e w2 hp
 rcases hp with ⟨kd2,tx2,nm2,ps2,kids2,s2,k2,ao2,cp2,hq,rfl,hrow,p2,hg⟩ | ⟨pb,rule,hq,rfl,hg⟩
 rotate_left
 (exact ⟨rfl,zs (by rw [←zk HR];simp only [dN,eq_self,(show ((0:Int)=1)=False from by decide),ub,ef c0,hq]) (zl ‹_› hg)⟩)
 have hz2:=hg.size
 (try simp at hz2)
 have G2:w.grownBy w2 (some C.b):=zl ‹_› hg
 have bl0_2:BL w2 (w.heap.size) (yA):=BL.grown ‹_› hg om
 have hl0_2:=bl0_2.lt
 clear bl0_1 p1
 obtain ⟨lo2,hlo2,row2⟩:=hrow.named
 (try simp at hlo2)
 have HQ2:=zm hq
 clear hrow hq hg
 have nf4:¬w2.heap.size=C.b:=om
 go_wp2_with fail
 refine (ih.at.acting kd2 tx2 nm2 ps2 kids2 s2 ao2 cp2 h k2 _ lo2 w2.heap.size (zw ‹_›) om sq sq (row2.ag (yQ zu sq) lr lr) (fun hx=>zk HO ((zk HR).symm.trans (by simp only [dN,eq_self,(show ((0:Int)=1)=False from by decide),ub,ef c0,zk HQ2,hx])))).mono ?_
 rintro e w3 hp
 rcases hp with ⟨kd3,tx3,nm3,ps3,kids3,k3,ao3,cp3,hq,rfl,hrow,p3,hg⟩ | ⟨k3,hq,rfl,p3,hg⟩ | ⟨pb,rule,hq,rfl,hg⟩
 ·skip
  have G3:w.grownBy w3 (some C.b):=zl (yD ‹_›) hg
  have bl0_3:BL w3 (w.heap.size) (yA):=BL.grown (yS ‹_›) hg om
  have hl0_3:=bl0_3.lt
  have zc0_3:=bl0_3.cell
  have fz0_3:=bl0_3.frozen
  clear bl0_2 p2
  obtain ⟨lo3,hlo3,row3⟩:=hrow.named
  (try simp at hlo3)
  have HQ3:=zm hq
  clear hrow hq hg
  go_wp2
  refine bodyPost_ret (v:=.agg #[.int .i64 kd3,.string ⟨tx3.toArray⟩,.int .i64 nm3,.int .i64 ps3,.string ⟨#[]⟩,.int .i64 0,.slice ao3 kids3.length cp3]) (by simp [results,Tryz.results120,go_sem, *]) rfl (yB (hi:=w3.heap.size) (s:=0) (k':=k3) (tx:=tx3) (kids:=kids3)  (by rw [←zk HR];simp only [dN,eq_self,(show ((0:Int)=1)=False from by decide),ub,ef c0,zk HQ2,zk HQ3]) (row3.ag (yQ (yr zu oz) sq) om lr) sq ?_ ?_)
  ·exact zw (yv ‹_› ok oz)
  ·exact yD (yw ‹_› oz)
 ·skip
  have hz3:=hg.size
  (try simp at hz3)
  have G3:w.grownBy w3 (some C.b):=zl (yD ‹_›) hg
  replace row2:=zq.ag row2 (Ag.grown (yQ zu sq) hg sq om) lr lr
  have bl0_3:BL w3 (w.heap.size) (yA):=BL.grown (yS ‹_›) hg om
  have bl1_3:BL w3 (w2.heap.size) (yE kd2 ⟨tx2.toArray⟩ nm2 ps2 ao2 kids2.length cp2):=BL.grown (yN om) hg om
  clear bl0_2 p2 hg
  have HQ3:=zm hq
  clear hq
  by_cases cs:stands s2=true
  rotate_left
  ·skip
   go_wp2_with fail
   refine qc w ok k3 h (kN s2 _) (zw ‹_›) (yD ‹_›) fun w4 p4 hg _ G4=>?_
   clear bl0_3 bl1_3 p3 hg
   go_wp2_with fail
   refine (dA C ok k3 h _ ⟨#[115,105,109,112,108,101]⟩ ‹_›).mono ?_
   rintro e w5 ⟨rfl,hgq⟩
   have hg:=zn (r:=some C.b) hgq
   clear hgq
   have G5:w.grownBy w5 (some C.b):=zl ‹_› hg
   clear p4 hg
   go_wp2
   exact yp rfl (zs (by rw [←zk HR];simp only [dN,eq_self,(show ((0:Int)=1)=False from by decide),ub,ef c0,zk HQ2,zk HQ3,ef cs]) ‹_›)
  go_wp2_with fail
  refine qc w ok k3 h (kN s2 _) (zw ‹_›) (yD ‹_›) fun w4 p4 hg _ G4=>?_
  replace row2:=zq.ag row2 (Ag.grown (yQ zu om) hg sq om) lr lr
  have bl0_4:BL w4 (w.heap.size) (yA):=BL.grown (yS ‹_›) hg om
  have bl1_4:BL w4 (w2.heap.size) (yE kd2 ⟨tx2.toArray⟩ nm2 ps2 ao2 kids2.length cp2):=BL.grown (yS ‹_›) hg om
  have hl1_4:=bl1_4.lt
  have zc1_4:=bl1_4.cell
  clear bl0_3 bl1_3 p3 hg
  go_wp2_with fail
  refine (sU kd2 nm2 ps2 tx2 kids2 ao2 cp2 lo2 w2.heap.size _ om om (row2.ag zu lr lr)).mono ?_
  rintro e w5 ⟨g5,rfl,hrow,hgq⟩
  have p5:=PS.quiet (C:=C) (k:=k3) (h:=h) ‹_› hgq
  have hg:=zn (r:=some C.b) hgq
  clear hgq
  have G5:w.grownBy w5 (some C.b):=zl ‹_› hg
  have bl0_5:BL w5 (w.heap.size) (yA):=BL.grown ‹_› hg om
  have zc0_5:=bl0_5.cell
  have fz0_5:=bl0_5.frozen
  clear bl0_4 bl1_4 zc1_4 p4 hg
  obtain ⟨lo5,hlo5,row5⟩:=hrow.named
  (try simp at hlo5)
  clear hrow
  go_wp2
  refine bodyPost_ret (v:=.agg #[.int .i64 34,.string ⟨#[]⟩,.int .i64 0,.int .i64 ps2,.string ⟨#[]⟩,.int .i64 0,.slice (some ⟨g5,0,none⟩) 1 1]) (by simp [results,Tryz.results120,go_sem, *]) rfl (yB (hi:=w5.heap.size) (s:=0) (k':=k3) (tx:=[]) (kids:=[.mk kd2 tx2 nm2 ps2 kids2])  (by rw [←zk HR];simp only [dN,eq_self,(show ((0:Int)=1)=False from by decide),ub,ef c0,zk HQ2,zk HQ3,et cs]) (row5.ag (yr zu oz) om lr) sq ?_ ?_)
  ·exact yv ‹_› ok oz
  ·exact yw ‹_› oz
 ·exact ⟨rfl,zs (by rw [←zk HR];simp only [dN,eq_self,(show ((0:Int)=1)=False from by decide),ub,ef c0,zk HQ2,hq]) (zl (yD ‹_›) hg)⟩
open Go.RowKit Lx Px
theorem forLead_w (C:Ctx) (ok:C.Ok) (n:Nat) (ih:All C n):∀ (h:Bool) (k:Nat) (w:World),PS w C k h→run C.ts (n+1) .forLead h k≠.out→Calls Tryz.prog 151 #[.pointer (some ⟨C.b,0,none⟩)] w (FPost C w.heap.size (run C.ts (n+1) .forLead h k) h w):=by
 intro h k w p hout
 have hr:run C.ts (n+1) .forLead h k=aZ C.ts (run C.ts n) h k:=rfl
 rw [hr] at hout ⊢
 clear hr
 generalize hR:aZ C.ts (run C.ts n) h k=r0 at hout ⊢
 have hbl:=p.lt
 have G0:=zo w (some C.b)
 have HR:=zm hR
 clear hR
 have HO:=zm hout
 clear hout
 go_enter Tryz.func151,Tryz.ntmps151
 go_wp2_with fail
 refine (ih.at.shaped h k _ (zw ‹_›) (fun hx=>zk HO ((zk HR).symm.trans (by simp only [aZ,eq_self,(show ((0:Int)=1)=False from by decide),ub,hx])))).mono ?_
 rintro e w1 hp
 rcases hp with ⟨kd1,tx1,nm1,ps1,kids1,s1,k1,ao1,cp1,hq,rfl,hrow,p1,hg⟩ | ⟨pb,rule,hq,rfl,hg⟩
 rotate_left
 (exact ⟨rfl,lZ (by rw [←zk HR];simp only [aZ,eq_self,(show ((0:Int)=1)=False from by decide),ub,hq]) (zl (yD ‹_›) hg)⟩)
 have hz1:=hg.size
 (try simp at hz1)
 have G1:w.grownBy w1 (some C.b):=zl (yD ‹_›) hg
 have bl0_1:BL w1 (w.heap.size) (yA):=BL.grown (yN om) hg om
 obtain ⟨lo1,hlo1,dU⟩:=hrow.named
 (try simp at hlo1)
 have HQ1:=zm hq
 clear hrow hq hg
 have ⟨nf1,nf2⟩:¬w.heap.size=C.b∧¬w1.heap.size=C.b:=om
 go_wp2_with fail
 refine (ih.at.acting kd1 tx1 nm1 ps1 kids1 s1 ao1 cp1 h k1 _ lo1 w1.heap.size (zw ‹_›) om sq sq (dU.ag (yQ zu sq) lr lr) (fun hx=>zk HO ((zk HR).symm.trans (by simp only [aZ,eq_self,(show ((0:Int)=1)=False from by decide),ub,zk HQ1,hx])))).mono ?_
 rintro e w2 hp
 rcases hp with ⟨kd2,tx2,nm2,ps2,kids2,k2,ao2,cp2,hq,rfl,hrow,p2,hg⟩ | ⟨k2,hq,rfl,p2,hg⟩ | ⟨pb,rule,hq,rfl,hg⟩
 ·skip
  have G2:w.grownBy w2 (some C.b):=zl (yD ‹_›) hg
  have bl0_2:BL w2 (w.heap.size) (yA):=BL.grown (yS ‹_›) hg om
  have hl0_2:=bl0_2.lt
  have zc0_2:=bl0_2.cell
  have fz0_2:=bl0_2.frozen
  clear bl0_1 p1
  obtain ⟨lo2,hlo2,row2⟩:=hrow.named
  (try simp at hlo2)
  have HQ2:=zm hq
  clear hrow hq hg
  go_wp2
  refine bodyPost_ret (v:=.tuple #[.agg #[.int .i64 kd2,.string ⟨tx2.toArray⟩,.int .i64 nm2,.int .i64 ps2,.string ⟨#[]⟩,.int .i64 0,.slice ao2 kids2.length cp2],.bool true]) (by simp [results,Tryz.results151,go_sem, *]) rfl (ng (hi:=w2.heap.size) (s:=1) (k':=k2) (tx:=tx2) (kids:=kids2) dc (by rw [←zk HR];simp only [aZ,eq_self,(show ((0:Int)=1)=False from by decide),ub,zk HQ1,zk HQ2]) (row2.ag (yQ (yr zu oz) sq) om lr) sq ?_ ?_)
  ·exact zw (yv ‹_› ok oz)
  ·exact yD (yw ‹_› oz)
 ·skip
  have hz2:=hg.size
  (try simp at hz2)
  have G2:w.grownBy w2 (some C.b):=zl (yD ‹_›) hg
  replace dU:=zq.ag dU (Ag.grown (yQ zu sq) hg sq om) lr lr
  have bl0_2:BL w2 (w.heap.size) (yA):=BL.grown (yS ‹_›) hg om
  have bl1_2:BL w2 (w1.heap.size) (yE kd1 ⟨tx1.toArray⟩ nm1 ps1 ao1 kids1.length cp1):=BL.grown (yN om) hg om
  clear bl0_1 p1 hg
  have HQ2:=zm hq
  clear hq
  by_cases cs:stands s1=true
  rotate_left
  ·skip
   go_wp2_with fail
   refine qc w ok k2 h (kN s1 _) (zw ‹_›) (yD ‹_›) fun w3 p3 hg _ G3=>?_
   replace dU:=zq.ag dU (Ag.grown (yQ zu om) hg sq om) lr lr
   have bl0_3:BL w3 (w.heap.size) (yA):=BL.grown (yS ‹_›) hg om
   have hl0_3:=bl0_3.lt
   have bl1_3:BL w3 (w1.heap.size) (yE kd1 ⟨tx1.toArray⟩ nm1 ps1 ao1 kids1.length cp1):=BL.grown (yS ‹_›) hg om
   have hl1_3:=bl1_3.lt
   have zc1_3:=bl1_3.cell
   clear bl0_2 bl1_2 p2 hg
   go_wp2_with fail
   refine (ih.at.opOf kd1 tx1 nm1 ps1 kids1 1 ao1 cp1 dc h k2 _ lo1 w1.heap.size ‹_› om om om (dU.ag zu lr lr) (fun hx=>zk HO ((zk HR).symm.trans (by simp only [aZ,eq_self,(show ((0:Int)=1)=False from by decide),ub,zk HQ1,zk HQ2,ef cs,hx])))).mono ?_
   rintro e w4 hp
   rcases hp with ⟨kd4,tx4,nm4,ps4,kids4,s4,k4,ao4,cp4,hq,rfl,hrow,p4,hg⟩ | ⟨pb,rule,hq,rfl,hg⟩
   rotate_left
   (exact ⟨rfl,lZ (by rw [←zk HR];simp only [aZ,eq_self,(show ((0:Int)=1)=False from by decide),ub,zk HQ1,zk HQ2,ef cs,hq]) (zl ‹_› hg)⟩)
   have G4:w.grownBy w4 (some C.b):=zl ‹_› hg
   have bl0_4:BL w4 (w.heap.size) (yA):=BL.grown ‹_› hg om
   have zc0_4:=bl0_4.cell
   have fz0_4:=bl0_4.frozen
   clear bl0_3 bl1_3 zc1_3 p3
   obtain ⟨lo4,hlo4,row4⟩:=hrow.named
   (try simp at hlo4)
   have HQ4:=zm hq
   clear hrow hq hg
   go_wp2
   refine bodyPost_ret (v:=.tuple #[.agg #[.int .i64 kd4,.string ⟨tx4.toArray⟩,.int .i64 nm4,.int .i64 ps4,.string ⟨#[]⟩,.int .i64 0,.slice ao4 kids4.length cp4],.bool false]) (by simp [results,Tryz.results151,go_sem, *]) rfl (ng (hi:=w4.heap.size) (s:=0) (k':=k4) (tx:=tx4) (kids:=kids4) dc (by rw [←zk HR];simp only [aZ,eq_self,(show ((0:Int)=1)=False from by decide),ub,zk HQ1,zk HQ2,ef cs,zk HQ4]) (row4.ag (yr zu oz) om lr) sq ?_ ?_)
   ·exact yv ‹_› ok oz
   ·exact yw ‹_› oz
  go_wp2_with fail
  refine qc w ok k2 h (kN s1 _) (zw ‹_›) (yD ‹_›) fun w3 p3 hg _ G3=>?_
  replace dU:=zq.ag dU (Ag.grown (yQ zu om) hg sq om) lr lr
  have bl0_3:BL w3 (w.heap.size) (yA):=BL.grown (yS ‹_›) hg om
  have bl1_3:BL w3 (w1.heap.size) (yE kd1 ⟨tx1.toArray⟩ nm1 ps1 ao1 kids1.length cp1):=BL.grown (yS ‹_›) hg om
  have hl1_3:=bl1_3.lt
  clear bl0_2 bl1_2 p2 hg
  by_cases c5:yb C.ts k2 [[59]]=true
  rotate_left
  ·skip
   go_wp2_with fail
   refine qc w ok k2 h (isL C ok k2 h _ w3.heap.size [[59]] dc ‹_› zK) ‹_› ‹_› fun w4 p4 hg _ G4=>?_
   replace dU:=zq.ag dU (Ag.grown zu hg om om) lr lr
   have bl0_4:BL w4 (w.heap.size) (yA):=BL.grown ‹_› hg om
   have hl0_4:=bl0_4.lt
   have bl1_4:BL w4 (w1.heap.size) (yE kd1 ⟨tx1.toArray⟩ nm1 ps1 ao1 kids1.length cp1):=BL.grown ‹_› hg om
   have hl1_4:=bl1_4.lt
   have zc1_4:=bl1_4.cell
   clear bl0_3 bl1_3 p3 hg
   go_wp2_with fail
   refine (ih.at.opOf kd1 tx1 nm1 ps1 kids1 1 ao1 cp1 dc h k2 _ lo1 w1.heap.size ‹_› om om om (dU.ag zu lr lr) (fun hx=>zk HO ((zk HR).symm.trans (by simp only [aZ,eq_self,(show ((0:Int)=1)=False from by decide),ub,zk HQ1,zk HQ2,et cs,ef c5,hx])))).mono ?_
   rintro e w5 hp
   rcases hp with ⟨kd5,tx5,nm5,ps5,kids5,s5,k5,ao5,cp5,hq,rfl,hrow,p5,hg⟩ | ⟨pb,rule,hq,rfl,hg⟩
   rotate_left
   (exact ⟨rfl,lZ (by rw [←zk HR];simp only [aZ,eq_self,(show ((0:Int)=1)=False from by decide),ub,zk HQ1,zk HQ2,et cs,ef c5,hq]) (zl ‹_› hg)⟩)
   have G5:w.grownBy w5 (some C.b):=zl ‹_› hg
   have bl0_5:BL w5 (w.heap.size) (yA):=BL.grown ‹_› hg om
   have zc0_5:=bl0_5.cell
   have fz0_5:=bl0_5.frozen
   clear bl0_4 bl1_4 zc1_4 p4
   obtain ⟨lo5,hlo5,row5⟩:=hrow.named
   (try simp at hlo5)
   have HQ5:=zm hq
   clear hrow hq hg
   go_wp2
   refine bodyPost_ret (v:=.tuple #[.agg #[.int .i64 kd5,.string ⟨tx5.toArray⟩,.int .i64 nm5,.int .i64 ps5,.string ⟨#[]⟩,.int .i64 0,.slice ao5 kids5.length cp5],.bool false]) (by simp [results,Tryz.results151,go_sem, *]) rfl (ng (hi:=w5.heap.size) (s:=0) (k':=k5) (tx:=tx5) (kids:=kids5) dc (by rw [←zk HR];simp only [aZ,eq_self,(show ((0:Int)=1)=False from by decide),ub,zk HQ1,zk HQ2,et cs,ef c5,zk HQ5]) (row5.ag (yr zu oz) om lr) sq ?_ ?_)
   ·exact yv ‹_› ok oz
   ·exact yw ‹_› oz
  go_wp2_with fail
  refine qc w ok k2 h (isL C ok k2 h _ w3.heap.size [[59]] dc ‹_› zK) ‹_› ‹_› fun w4 p4 hg _ G4=>?_
  replace dU:=zq.ag dU (Ag.grown zu hg om om) lr lr
  have bl0_4:BL w4 (w.heap.size) (yA):=BL.grown ‹_› hg om
  have hl0_4:=bl0_4.lt
  have bl1_4:BL w4 (w1.heap.size) (yE kd1 ⟨tx1.toArray⟩ nm1 ps1 ao1 kids1.length cp1):=BL.grown ‹_› hg om
  have hl1_4:=bl1_4.lt
  have zc1_4:=bl1_4.cell
  clear bl0_3 bl1_3 p3 hg
  go_wp2_with fail
  refine (sU kd1 nm1 ps1 tx1 kids1 ao1 cp1 lo1 w1.heap.size _ om om (dU.ag zu lr lr)).mono ?_
  rintro e w5 ⟨g5,rfl,hrow,hgq⟩
  have p5:=PS.quiet (C:=C) (k:=k2) (h:=h) ‹_› hgq
  have hg:=zn (r:=some C.b) hgq
  clear hgq
  have G5:w.grownBy w5 (some C.b):=zl ‹_› hg
  have bl0_5:BL w5 (w.heap.size) (yA):=BL.grown ‹_› hg om
  have zc0_5:=bl0_5.cell
  have fz0_5:=bl0_5.frozen
  clear bl0_4 bl1_4 zc1_4 p4 hg
  obtain ⟨lo5,hlo5,row5⟩:=hrow.named
  (try simp at hlo5)
  clear hrow
  go_wp2
  refine bodyPost_ret (v:=.tuple #[.agg #[.int .i64 34,.string ⟨#[]⟩,.int .i64 0,.int .i64 ps1,.string ⟨#[]⟩,.int .i64 0,.slice (some ⟨g5,0,none⟩) 1 1],.bool true]) (by simp [results,Tryz.results151,go_sem, *]) rfl (ng (hi:=w5.heap.size) (s:=1) (k':=k2) (tx:=[]) (kids:=[.mk kd1 tx1 nm1 ps1 kids1]) dc (by rw [←zk HR];simp only [aZ,eq_self,(show ((0:Int)=1)=False from by decide),ub,zk HQ1,zk HQ2,et cs,et c5]) (row5.ag (yr zu oz) om lr) sq ?_ ?_)
  ·exact yv ‹_› ok oz
  ·exact yw ‹_› oz
 ·exact ⟨rfl,lZ (by rw [←zk HR];simp only [aZ,eq_self,(show ((0:Int)=1)=False from by decide),ub,zk HQ1,hq]) (zl (yD ‹_›) hg)⟩
open Go.RowKit Lx Px
theorem file_w (C:Ctx) (ok:C.Ok) (n:Nat) (ih:All C n):CN C 17 (.fileMore []) #[.pointer (some ⟨C.b,0,none⟩)] (n+1):=by
 intro h k w p hout
 have hr:run C.ts (n+1) (.fileMore []) h k=run C.ts (n+1) (.fileMore []) h k:=rfl
 rw [hr] at hout ⊢
 clear hr
 generalize hR:run C.ts (n+1) (.fileMore []) h k=r0 at hout ⊢
 have hbl:=p.lt
 have htf0:=dw
 have G0:=zo w (some C.b)
 have HR:=zm hR
 clear hR
 have HO:=zm hout
 clear hout
 have hfew:=ok.few
 go_enter Tryz.func17,Tryz.ntmps17
 go_wp2
 go_loopg [6] (n+1) (fun gk _ wr=>∃ (acc:List Tree) (k':Nat) (ao:Option Addr) (cp:Nat),PS wr C k' h∧BL wr w.heap.size yA∧BL wr (w.heap.size+1) (.cells #[.int .i64 1,.string ⟨#[]⟩,.int .i64 0,.int .i64 0,.string ⟨#[]⟩,.int .i64 0,.slice ao acc.length cp] 25)∧zq wr (w.heap.size+2) wr.heap.size (.slice ao acc.length cp) acc∧w.grownBy wr (some C.b)∧Hid (run C.ts gk (.fileMore acc) h k'=r0)∧gk≤n+1∧acc.length≤k'∧w.heap.size+2≤wr.heap.size)
 case atStart=>exact ⟨[],k,none,0,(zw (zw ‹_›)),(yS (yN om)),by show BL _ (w.heap.size+1) (.cells #[.int .i64 1,.string ⟨#[]⟩,.int .i64 0,.int .i64 0,.string ⟨#[]⟩,.int .i64 0,.slice none 0 0] 25);exact yN sq,zq.nil _ _ _,(yD (yD ‹_›)),HR,Nat.le_refl _,Nat.zero_le _,by simp⟩
 case round=>
  obtain ⟨acc,k0,ao0,cp0,p0,bl0_0,bl1_0,row0,Gr,HRr,hle,hacc,hzw⟩:=hrel
  obtain ⟨m,rfl⟩:∃ m,gk=m+1:=zJ
  clear HR
  have HR:Hid (bU C.ts (run C.ts m) acc h k0=r0):=zk HRr
  have hkl0:=p0.kl
  have ihm:=ih m om
  clear HRr p
  go_wp2_with fail
  refine qc w ok k0 h (zy C ok k0 h _ ‹_›) ‹_› ‹_› fun w1 p1 hg hz1 G1=>?_
  (try simp at hz1)
  replace row0:=zq.ag row0 (Ag.grown zu hg om om) lr lr
  have bl0_1:BL w1 (w.heap.size) (yA):=BL.grown ‹_› hg om
  have zc0_1:=bl0_1.cell
  have fz0_1:=bl0_1.frozen
  have bl1_1:BL w1 (w.heap.size+1) (yE 1 ⟨#[]⟩ 0 0 ao0 acc.length cp0):=BL.grown ‹_› hg om
  have hl1_1:=bl1_1.lt
  have zc1_1:=bl1_1.cell
  clear bl0_0 bl1_0 hg
  have ⟨nf1,nf2,nf4⟩:¬w.heap.size=C.b∧¬w.heap.size+1=C.b∧¬w.heap.size+1=w.heap.size:=om
  clear p0
  by_cases c6:(zp C.ts k0).kind=6
  ·skip
   have b6:((zp C.ts k0).kind==6)=true:=by simp [c6]
   have C6:=zm c6
   clear c6
   go_wp2
   refine bodyPost_ret (v:=.agg #[.int .i64 1,.string ⟨#[]⟩,.int .i64 0,.int .i64 0,.string ⟨#[]⟩,.int .i64 0,.slice ao0 acc.length cp0]) (by simp [results,Tryz.results17,go_sem, *]) rfl (yB (hi:=wr.heap.size) (s:=0) (k':=k0) (tx:=[]) (kids:=acc)  (by rw [←zk HR];simp only [bU,ub,et (zk C6)]) (row0.ag (yr zu oz) om lr) sq ?_ ?_)
   ·exact yv ‹_› ok oz
   ·exact yw ‹_› oz
  have b6:((zp C.ts k0).kind==6)=false:=by simp [c6]
  go_wp2
  go_region_law (first | (refine iK rfl (.tmp 10) (.tmp 13) rfl (lo:=w.heap.size+2) (hi:=wr.heap.size) (ao:=ao0) (cp:=cp0) (l:=acc) (t:=.mk kd2 tx2 nm2 ps2 kids2) (A:=lo2) (B:=w2.heap.size) (g0:=w2.heap.size) (cur:=#[.int .i64 kd2,.string ⟨tx2.toArray⟩,.int .i64 nm2,.int .i64 ps2,.string ⟨#[]⟩,.int .i64 0,.slice ao2 kids2.length cp2]) zH (zq.ag row0 (yQ zu om) lr lr) zH (yN om) ((Nd.mk (kd:=kd2) (tx:=tx2) (nm:=nm2) (ps:=ps2) row2).ag (yQ zu sq)) rfl iO om sq sq om sq om ?_;intro g3 cp3 w3 hrw3 hgA hat3 hgl3;have hob:=row0.own;have hz3:=hgA.size;(try simp at hz3);(try simp at hat3);have G3:w.grownBy w3 (some C.b):=yP (yD ‹_›) hgA (fun x hx=>by have:=hob x hx;omega);have p3:=PS.own (C:=C) (k:=k2) (h:=h) (zw ‹_›) ok hgA (fun x hx=>by have:=hob x hx;omega);have bl0_3:BL w3 (w.heap.size) (yA):=BL.own (yS ‹_›) hgA (fun e=>by have:=hob _ e.symm;omega);have hl0_3:=bl0_3.lt;have zc0_3:=bl0_3.cell;have fz0_3:=bl0_3.frozen;have bl1_3:BL w3 (w.heap.size+1) (.cells #[.int .i64 1,.string ⟨#[]⟩,.int .i64 0,.int .i64 0,.string ⟨#[]⟩,.int .i64 0,.slice ao0 acc.length cp0] 25):=BL.own (yS ‹_›) hgA (fun e=>by have:=hob _ e.symm;omega);have hl1_3:=bl1_3.lt;have zc1_3:=bl1_3.cell;have fz1_3:=bl1_3.frozen;clear bl0_2 zc0_2 fz0_2;clear bl1_2 zc1_2 fz1_2;clear p2 hgA hob;have ne10:¬C.b=w3.heap.size:=om;have nf10:¬w3.heap.size=C.b:=om;have ne11:¬w.heap.size=w3.heap.size:=om;have nf11:¬w3.heap.size=w.heap.size:=om;have ne12:¬w.heap.size+1=w3.heap.size:=om;have nf12:¬w3.heap.size=w.heap.size+1:=om) | (go_simp;go_at_call 29;(refine (ihm.decl h k0 _ (pw1 ‹_›) (fun hx=>zk HO ((zk HR).symm.trans (by simp only [bU,ub,ef c6,hx])))).mono ?_;rintro e w2 hp;rcases hp with ⟨kd2,tx2,nm2,ps2,kids2,s2,k2,ao2,cp2,hq,rfl,hrow,p2,hg⟩ | ⟨pb,rule,hq,rfl,hg⟩;rotate_left;(exact ⟨rfl,zs (by rw [←zk HR];simp only [bU,ub,ef c6,hq]) (zl (gw1 ‹_›) hg)⟩);have hz2:=hg.size;(try simp at hz2);have G2:w.grownBy w2 (some C.b):=zl (gw1 ‹_›) hg;replace row0:=zq.ag row0 (Ag.grown (aw1 zu) hg sq om) lr lr;have bl0_2:BL w2 (w.heap.size) (yA):=BL.grown (bw1 ‹_›) hg om;have hl0_2:=bl0_2.lt;have zc0_2:=bl0_2.cell;have fz0_2:=bl0_2.frozen;have bl1_2:BL w2 (w.heap.size+1) (.cells #[.int .i64 1,.string ⟨#[]⟩,.int .i64 0,.int .i64 0,.string ⟨#[]⟩,.int .i64 0,.slice ao0 acc.length cp0] 25):=BL.grown (bw1 ‹_›) hg om;have hl1_2:=bl1_2.lt;have zc1_2:=bl1_2.cell;have fz1_2:=bl1_2.frozen;clear bl0_1 zc0_1 fz0_1;clear bl1_1 zc1_1;clear p1;obtain ⟨lo2,hlo2,row2⟩:=hrow.named;(try simp at hlo2);have HQ2:=zm hq;clear hrow hq;clear hg;have ne7:¬C.b=w2.heap.size:=om;have nf7:¬w2.heap.size=C.b:=om;have ne8:¬w.heap.size=w2.heap.size:=om;have nf8:¬w2.heap.size=w.heap.size:=om;have ne9:¬w.heap.size+1=w2.heap.size:=om;have nf9:¬w2.heap.size=w.heap.size+1:=om;skip)))
  all_goals
   have hmono:=yq C.ts m .decl h k0 _ s2 k2 (zk HQ2)
   simp only [st,bnd] at hmono
   have hmon:=hmono.1
   clear hmono
   have rowz:zq (w3.setCell ⟨w.heap.size+1,6,none⟩ (.slice (some ⟨g3,0,none⟩) (acc.length+1) cp3)) (w.heap.size+2) w3.heap.size (.slice (some ⟨g3,0,none⟩) (acc.length+1) cp3) (acc++[.mk kd2 tx2 nm2 ps2 kids2]):=zq.wide (hrw3 _ sq (Ag.one (aw3 zu sq)) (aw3 zu sq) (aw3 zu sq)) lr zK
   by_cases cw:yb C.ts k2 [[59]]=true
   rotate_left
   ·skip
    go_wp2_with fail
    refine (yX C ok k2 h _ ⟨#[102,105,108,101]⟩ [59] (pw3 ‹_› ok sq) (Bool.eq_false_iff.2 cw)).mono ?_
    rintro e w4 ⟨rfl,hgq⟩
    exact ⟨rfl,zs (by rw [←zk HR];simp only [bU,ub,ef c6,zk HQ2,ef cw]) (zl (gw3 ‹_› sq) (zn hgq))⟩
   go_wp2_with fail
   refine (yJ C ok k2 h _ ⟨#[102,105,108,101]⟩ [59] (pw3 ‹_› ok sq) cw).mono ?_
   rintro e w4 ⟨rfl,p4,hg⟩
   have rowy:=zq.ag rowz (Ag.grown (Ag.refl _ _ _) hg sq om) lr lr
   have hz4:=hg.size
   (try simp at hz4)
   have G4:w.grownBy w4 (some C.b):=zl (gw3 ‹_› sq) hg
   have bl0_4:BL w4 (w.heap.size) (yA):=BL.grown (bw3 ‹_› om) hg om
   have bl1_4:BL w4 (w.heap.size+1) (yE 1 ⟨#[]⟩ 0 0 (some ⟨g3,0,none⟩) (acc.length+1) cp3):=BL.grown (by apply BL.mF ‹_›;simp) hg om
   have hl1_4:=bl1_4.lt
   clear bl0_3 zc0_3 fz0_3 bl1_3 zc1_3 fz1_3 p3 hg
   go_wp2
   go_roundg m
   case measure=>omega
   case rel=>exact ⟨acc++[.mk kd2 tx2 nm2 ps2 kids2],k2+1,some ⟨g3,0,none⟩,cp3,‹_›,‹_›,by simpa using bl1_4,by simpa using zq.wide (hi':=w4.heap.size) rowy lr om,‹_›,zm (by rw [←zk HR];simp only [bU,ub,ef c6,zk HQ2,et cw]),om,by simp;omega,om⟩
open Go.RowKit Lx Px
theorem typeDecl_w (C:Ctx) (ok:C.Ok) (n:Nat) (ih:All C n):CNt C 52 .typeDecl #[.pointer (some ⟨C.b,0,none⟩)] (n+1):=by
 intro h k w p h6 hout
 have hr:run C.ts (n+1) .typeDecl h k=dF C.ts (run C.ts n) h k:=rfl
 rw [hr] at hout ⊢
 clear hr
 generalize hR:dF C.ts (run C.ts n) h k=r0 at hout ⊢
 have H6:=zm h6
 clear h6
 have hbl:=p.lt
 have htf1:=dL
 have htf3:=bT
 have G0:=zo w (some C.b)
 have HR:=zm hR
 clear hR
 have HO:=zm hout
 clear hout
 have hfew:=ok.few
 go_enter Tryz.func52,Tryz.ntmps52
 go_wp2_with fail
 refine (yR C ok k h _ (zw ‹_›) (zk H6)).mono ?_
 rintro e w1 ⟨rfl,p1,hg⟩
 have hz1:=hg.size
 (try simp at hz1)
 have G1:w.grownBy w1 (some C.b):=zl (yD ‹_›) hg
 have bl0_1:BL w1 (w.heap.size) (yA):=BL.grown (yN om) hg om
 clear hg
 have ⟨nf1,nf2,nf3⟩:¬w.heap.size=C.b∧¬w1.heap.size=C.b∧¬w1.heap.size=w.heap.size:=om
 by_cases n1:(zp C.ts (k+1)).kind=1
 rotate_left
 ·skip
  go_wp2_with fail
  refine (kH C ok (k+1) h _ ⟨#[100,101,99,108]⟩ (zw ‹_›) n1).mono ?_
  rintro e w2 ⟨rfl,hgq⟩
  exact ⟨rfl,zs (by rw [←zk HR];simp only [dF,ub,ef n1]) (zl (yD ‹_›) (zn hgq))⟩
 have Hn1:=zm n1
 clear n1
 go_wp2_with fail
 refine (jB C ok (k+1) h _ ⟨#[100,101,99,108]⟩ (zw ‹_›) (zk Hn1)).mono ?_
 rintro e w2 ⟨rfl,p2,hg⟩
 have G2:w.grownBy w2 (some C.b):=zl (yD ‹_›) hg
 have bl0_2:BL w2 (w.heap.size) (yA):=BL.grown (yS ‹_›) hg om
 have bl1_2:BL w2 (w1.heap.size) (yE 2 ⟨#[]⟩ 0 (zp C.ts k).pos none 0 0):=BL.grown (yN om) hg om
 have zc1_2:=bl1_2.cell
 have fz1_2:=bl1_2.frozen
 clear bl0_1 p1 hg
 by_cases c1:yb C.ts (k+1+1) [[115,116,114,117,99,116]]=true
 rotate_left
 ·skip
  go_wp2_with fail
  refine (yX C ok (k+1+1) h _ ⟨#[100,101,99,108]⟩ [115,116,114,117,99,116] (pw3 ‹_› ok sq) (Bool.eq_false_iff.2 c1)).mono ?_
  rintro e w3 ⟨rfl,hgq⟩
  exact ⟨rfl,zs (by rw [←zk HR];simp only [dF,ub,et (zk Hn1),ef c1]) (zl (gw3 ‹_› sq) (zn hgq))⟩
 go_wp2_with fail
 refine (yJ C ok (k+1+1) h _ ⟨#[100,101,99,108]⟩ [115,116,114,117,99,116] (pw3 ‹_› ok sq) c1).mono ?_
 rintro e w3 ⟨rfl,p3,hg⟩
 have G3:w.grownBy w3 (some C.b):=zl (gw3 ‹_› sq) hg
 have bl0_3:BL w3 (w.heap.size) (yA):=BL.grown (bw3 ‹_› om) hg om
 have bl1_3:BL w3 (w1.heap.size) (yE 2 ⟨(zp C.ts (k+1)).text.toArray⟩ 0 (zp C.ts k).pos none 0 0):=BL.grown (by apply BL.mF ‹_›;simp) hg om
 clear bl0_2 bl1_2 zc1_2 fz1_2 p2 hg
 by_cases c2:yb C.ts (k+1+1+1) [[123]]=true
 rotate_left
 ·skip
  go_wp2_with fail
  refine (yX C ok (k+1+1+1) h _ ⟨#[100,101,99,108]⟩ [123] ‹_› (Bool.eq_false_iff.2 c2)).mono ?_
  rintro e w4 ⟨rfl,hgq⟩
  exact ⟨rfl,zs (by rw [←zk HR];simp only [dF,ub,et (zk Hn1),et c1,ef c2]) (zl ‹_› (zn hgq))⟩
 go_wp2_with fail
 refine (yJ C ok (k+1+1+1) h _ ⟨#[100,101,99,108]⟩ [123] ‹_› c2).mono ?_
 rintro e w4 ⟨rfl,p4,hg⟩
 have G4:w.grownBy w4 (some C.b):=zl ‹_› hg
 have bl0_4:BL w4 (w.heap.size) (yA):=BL.grown ‹_› hg om
 have bl1_4:BL w4 (w1.heap.size) (yE 2 ⟨(zp C.ts (k+1)).text.toArray⟩ 0 (zp C.ts k).pos none 0 0):=BL.grown ‹_› hg om
 have hl1_4:=bl1_4.lt
 clear bl0_3 bl1_3 p3 hg
 have hb1:w1.heap.size+1≤w4.heap.size:=(by have:=bl1_4.lt;omega)
 have HR0:Hid ((run C.ts n (.fieldsMore []) h (k+1+1+1+1)).bind (fun l _ k5=>R.ok [nd 2 (zp C.ts (k+1)).text (zp C.ts k).pos l] 0 k5)=r0):=zm (by rw [←zk HR];simp only [dF,want,bI,if_true,et (zk Hn1),et c1,et c2])
 go_wp2
 go_loopg [17] n (fun gk _ wr=>∃ (acc:List Tree) (k':Nat) (ao:Option Addr) (cp:Nat),PS wr C k' h∧BL wr w.heap.size yA∧BL wr w1.heap.size (.cells #[.int .i64 2,.string ⟨(zp C.ts (k+1)).text.toArray⟩,.int .i64 0,.int .i64 (zp C.ts k).pos,.string ⟨#[]⟩,.int .i64 0,.slice ao acc.length cp] 25)∧zq wr (w1.heap.size+1) wr.heap.size (.slice ao acc.length cp) acc∧w.grownBy wr (some C.b)∧Hid ((run C.ts gk (.fieldsMore acc) h k').bind (fun l _ k5=>R.ok [nd 2 (zp C.ts (k+1)).text (zp C.ts k).pos l] 0 k5)=r0)∧gk≤n∧acc.length≤k'∧w1.heap.size+1≤wr.heap.size)
 case atStart=>exact ⟨[],k+1+1+1+1,none,0,‹_›,‹_›,by show BL _ w1.heap.size (.cells #[.int .i64 2,.string ⟨(zp C.ts (k+1)).text.toArray⟩,.int .i64 0,.int .i64 (zp C.ts k).pos,.string ⟨#[]⟩,.int .i64 0,.slice none 0 0] 25);assumption,zq.nil _ _ _,‹_›,HR0,Nat.le_refl _,Nat.zero_le _,om⟩
 case round=>
  clear HR bl0_4 bl1_4 p4 HR0
  obtain ⟨acc,k0,ao0,cp0,p0,bl0_0,bl1_0,row0,Gr,HRr,hle,hacc,hzw⟩:=hrel
  obtain ⟨m,rfl⟩:∃ m,gk=m+1:=zJ
  have HR:Hid ((bn C.ts (run C.ts m) acc h k0).bind (fun l _ k5=>R.ok [nd 2 (zp C.ts (k+1)).text (zp C.ts k).pos l] 0 k5)=r0):=zk HRr
  have hkl0:=p0.kl
  have ihm:=ih m om
  clear HRr p
  have p4:=p0
  clear p0
  by_cases c3:yb C.ts k0 [[125]]=true
  ·skip
   go_wp2_with fail
   refine (yU C ok k0 h _ [125] ‹_› c3).mono ?_
   rintro e w5 ⟨rfl,p5,hg⟩
   have hz5:=hg.size
   (try simp at hz5)
   have G5:w.grownBy w5 (some C.b):=zl ‹_› hg
   replace row0:=zq.ag row0 (Ag.grown zu hg om om) lr lr
   have bl0_5:BL w5 (w.heap.size) (yA):=BL.grown ‹_› hg om
   have zc0_5:=bl0_5.cell
   have fz0_5:=bl0_5.frozen
   have bl1_5:BL w5 (w1.heap.size) (yE 2 ⟨(zp C.ts (k+1)).text.toArray⟩ 0 (zp C.ts k).pos ao0 acc.length cp0):=BL.grown ‹_› hg om
   have zc1_5:=bl1_5.cell
   clear bl0_0 bl1_0 p4 hg
   go_wp2
   refine bodyPost_ret (v:=.agg #[.int .i64 2,.string ⟨(zp C.ts (k+1)).text.toArray⟩,.int .i64 0,.int .i64 (zp C.ts k).pos,.string ⟨#[]⟩,.int .i64 0,.slice ao0 acc.length cp0]) (by simp [results,Tryz.results52,go_sem, *]) rfl (yB (hi:=wr.heap.size) (s:=0) (k':=k0+1) (tx:=(zp C.ts (k+1)).text) (kids:=acc)  (by rw [←zk HR];simp only [bn,ub,et c3]) (row0.ag (yr zu oz) om lr) sq ?_ ?_)
   ·exact yv ‹_› ok oz
   ·exact yw ‹_› oz
  go_wp2_with fail
  refine qc w ok k0 h (yV C ok k0 h _ [125] ‹_› (Bool.eq_false_iff.2 c3)) ‹_› ‹_› fun w5 p5 hg hz5 G5=>?_
  (try simp at hz5)
  replace row0:=zq.ag row0 (Ag.grown zu hg om om) lr lr
  have bl0_5:BL w5 (w.heap.size) (yA):=BL.grown ‹_› hg om
  have bl1_5:BL w5 (w1.heap.size) (yE 2 ⟨(zp C.ts (k+1)).text.toArray⟩ 0 (zp C.ts k).pos ao0 acc.length cp0):=BL.grown ‹_› hg om
  have hl1_5:=bl1_5.lt
  have zc1_5:=bl1_5.cell
  clear bl0_0 bl1_0 p4 hg
  go_wp2
  go_region_law (first | (refine iK rfl (.tmp 20) (.tmp 23) rfl (lo:=w1.heap.size+1) (hi:=wr.heap.size) (ao:=ao0) (cp:=cp0) (l:=acc) (t:=.mk kd6 tx6 nm6 ps6 kids6) (A:=lo6) (B:=w6.heap.size) (g0:=w6.heap.size) (cur:=#[.int .i64 kd6,.string ⟨tx6.toArray⟩,.int .i64 nm6,.int .i64 ps6,.string ⟨#[]⟩,.int .i64 0,.slice ao6 kids6.length cp6]) zH (zq.ag row0 (yQ zu om) lr lr) zH (yN om) ((Nd.mk (kd:=kd6) (tx:=tx6) (nm:=nm6) (ps:=ps6) row6).ag (yQ zu sq)) rfl iO om sq sq om sq om ?_;intro g7 cp7 w7 hrw7 hgA hat7 hgl7;have hob:=row0.own;have hz7:=hgA.size;(try simp at hz7);(try simp at hat7);have G7:w.grownBy w7 (some C.b):=yP (yD ‹_›) hgA (fun x hx=>by have:=hob x hx;omega);have p7:=PS.own (C:=C) (k:=k6) (h:=h) (zw ‹_›) ok hgA (fun x hx=>by have:=hob x hx;omega);have bl0_7:BL w7 (w.heap.size) (yA):=BL.own (yS ‹_›) hgA (fun e=>by have:=hob _ e.symm;omega);have hl0_7:=bl0_7.lt;have zc0_7:=bl0_7.cell;have fz0_7:=bl0_7.frozen;have bl1_7:BL w7 (w1.heap.size) (.cells #[.int .i64 2,.string ⟨(zp C.ts (k+1)).text.toArray⟩,.int .i64 0,.int .i64 (zp C.ts k).pos,.string ⟨#[]⟩,.int .i64 0,.slice ao0 acc.length cp0] 25):=BL.own (yS ‹_›) hgA (fun e=>by have:=hob _ e.symm;omega);have hl1_7:=bl1_7.lt;have zc1_7:=bl1_7.cell;have fz1_7:=bl1_7.frozen;clear bl0_6 zc0_6 fz0_6;clear bl1_6 zc1_6 fz1_6;clear p6 hgA hob;have ne19:¬C.b=w7.heap.size:=om;have nf19:¬w7.heap.size=C.b:=om;have ne20:¬w.heap.size=w7.heap.size:=om;have nf20:¬w7.heap.size=w.heap.size:=om;have ne21:¬w1.heap.size=w7.heap.size:=om;have nf21:¬w7.heap.size=w1.heap.size:=om) | (go_simp;go_at_call 54;(refine (ihm.named 5 h k0 _ (pw1 ‹_›) (fun hx=>zk HO ((zk HR).symm.trans (by simp only [bn,ub,ef c3,hx])))).mono ?_;rintro e w6 hp;rcases hp with ⟨kd6,tx6,nm6,ps6,kids6,s6,k6,ao6,cp6,hq,rfl,hrow,p6,hg⟩ | ⟨pb,rule,hq,rfl,hg⟩;rotate_left;(exact ⟨rfl,zs (by rw [←zk HR];simp only [bn,ub,ef c3,hq]) (zl (gw1 ‹_›) hg)⟩);have hz6:=hg.size;(try simp at hz6);have G6:w.grownBy w6 (some C.b):=zl (gw1 ‹_›) hg;replace row0:=zq.ag row0 (Ag.grown (aw1 zu) hg sq om) lr lr;have bl0_6:BL w6 (w.heap.size) (yA):=BL.grown (bw1 ‹_›) hg om;have hl0_6:=bl0_6.lt;have zc0_6:=bl0_6.cell;have fz0_6:=bl0_6.frozen;have bl1_6:BL w6 (w1.heap.size) (.cells #[.int .i64 2,.string ⟨(zp C.ts (k+1)).text.toArray⟩,.int .i64 0,.int .i64 (zp C.ts k).pos,.string ⟨#[]⟩,.int .i64 0,.slice ao0 acc.length cp0] 25):=BL.grown (bw1 ‹_›) hg om;have hl1_6:=bl1_6.lt;have zc1_6:=bl1_6.cell;have fz1_6:=bl1_6.frozen;clear bl0_5;clear bl1_5 zc1_5;clear p5;obtain ⟨lo6,hlo6,row6⟩:=hrow.named;(try simp at hlo6);have HQ6:=zm hq;clear hrow hq;clear hg;have ne16:¬C.b=w6.heap.size:=om;have nf16:¬w6.heap.size=C.b:=om;have ne17:¬w.heap.size=w6.heap.size:=om;have nf17:¬w6.heap.size=w.heap.size:=om;have ne18:¬w1.heap.size=w6.heap.size:=om;have nf18:¬w6.heap.size=w1.heap.size:=om;skip)))
  all_goals
   have hmono:=yq C.ts m (.named 5) h k0 _ s6 k6 (zk HQ6)
   simp only [st,bnd] at hmono
   have hmon:=hmono.1
   clear hmono
   have rowz:zq (w7.setCell ⟨w1.heap.size,6,none⟩ (.slice (some ⟨g7,0,none⟩) (acc.length+1) cp7)) (w1.heap.size+1) w7.heap.size (.slice (some ⟨g7,0,none⟩) (acc.length+1) cp7) (acc++[.mk kd6 tx6 nm6 ps6 kids6]):=zq.wide (hrw7 _ sq (Ag.one (aw3 zu sq)) (aw3 zu sq) (aw3 zu sq)) lr zK
   by_cases cw:yb C.ts k6 [[59]]=true
   rotate_left
   ·skip
    go_wp2_with fail
    refine (yX C ok k6 h _ ⟨#[102,105,101,108,100]⟩ [59] (pw3 ‹_› ok sq) (Bool.eq_false_iff.2 cw)).mono ?_
    rintro e w8 ⟨rfl,hgq⟩
    exact ⟨rfl,zs (by rw [←zk HR];simp only [bn,ub,ef c3,zk HQ6,ef cw]) (zl (gw3 ‹_› sq) (zn hgq))⟩
   go_wp2_with fail
   refine (yJ C ok k6 h _ ⟨#[102,105,101,108,100]⟩ [59] (pw3 ‹_› ok sq) cw).mono ?_
   rintro e w8 ⟨rfl,p8,hg⟩
   have rowy:=zq.ag rowz (Ag.grown (Ag.refl _ _ _) hg sq om) lr lr
   have hz8:=hg.size
   (try simp at hz8)
   have G8:w.grownBy w8 (some C.b):=zl (gw3 ‹_› sq) hg
   have bl0_8:BL w8 (w.heap.size) (yA):=BL.grown (bw3 ‹_› om) hg om
   have bl1_8:BL w8 (w1.heap.size) (yE 2 ⟨(zp C.ts (k+1)).text.toArray⟩ 0 (zp C.ts k).pos (some ⟨g7,0,none⟩) (acc.length+1) cp7):=BL.grown (by apply BL.mF ‹_›;simp) hg om
   have hl1_8:=bl1_8.lt
   clear bl0_7 zc0_7 fz0_7 bl1_7 zc1_7 fz1_7 p7 hg
   go_wp2
   go_roundg m
   case measure=>omega
   case rel=>exact ⟨acc++[.mk kd6 tx6 nm6 ps6 kids6],k6+1,some ⟨g7,0,none⟩,cp7,‹_›,‹_›,by simpa using bl1_8,by simpa using zq.wide (hi':=w8.heap.size) rowy lr om,‹_›,zm (by rw [←zk HR];simp only [bn,ub,ef c3,zk HQ6,et cw]),om,by simp;omega,om⟩
open Go.RowKit Lx Px
theorem opOf_w (C:Ctx) (ok:C.Ok) (n:Nat) (ih:All C n) (kd:Int) (tx:List UInt8) (nm ps:Int) (kids:List Tree) (least:Int) (ao:Option Addr) (cp:Nat) (hleast:1≤least):CLd C 150 (.opOf (.mk kd tx nm ps kids) least) #[.pointer (some ⟨C.b,0,none⟩),.agg #[.int .i64 kd,.string ⟨tx.toArray⟩,.int .i64 nm,.int .i64 ps,.string ⟨#[]⟩,.int .i64 0,.slice ao kids.length cp],.int .i64 least] kids ao cp iV (n+1):=by
 intro h k w lo hi p hblo hhi hlow rowa hout
 have hr:run C.ts (n+1) (.opOf (.mk kd tx nm ps kids) least) h k=run C.ts (n+1) (.opOf (.mk kd tx nm ps kids) least) h k:=rfl
 rw [hr] at hout ⊢
 clear hr
 generalize hR:run C.ts (n+1) (.opOf (.mk kd tx nm ps kids) least) h k=r0 at hout ⊢
 have hbl:=p.lt
 have G0:=zo w (some C.b)
 have HR:=zm hR
 clear hR
 have HO:=zm hout
 clear hout
 go_enter Tryz.func150,Tryz.ntmps150
 go_wp2
 go_loopg [10] (n+1) (fun gk _ wr=>∃ (kdx:Int) (txx:List UInt8) (nmx psx:Int) (kidsx:List Tree) (k':Nat) (aox:Option Addr) (cpx:Nat),PS wr C k' h∧BL wr w.heap.size (.cells #[.int .i64 kdx,.string ⟨txx.toArray⟩,.int .i64 nmx,.int .i64 psx,.string ⟨#[]⟩,.int .i64 0,.slice aox kidsx.length cpx] 25)∧BL wr (w.heap.size+1) yA∧yh wr lo hi (w.heap.size+2) wr.heap.size (.slice aox kidsx.length cpx) kidsx∧w.grownBy wr (some C.b)∧Hid (run C.ts gk (.opOf (.mk kdx txx nmx psx kidsx) least) h k'=r0)∧gk≤n+1∧w.heap.size+2≤wr.heap.size)
 case atStart=>exact ⟨kd,tx,nm,ps,kids,k,ao,cp,(zw (zw ‹_›)),(yS (yN om)),(yN sq),yh.of (rowa.ag (yQ (yQ zu om) sq) lr lr) _ _,(yD (yD ‹_›)),HR,Nat.le_refl _,by simp⟩
 case round=>
  obtain ⟨kdx,txx,nmx,psx,kidsx,k0,aox,cpx,p0,bl0_0,bl1_0,rowl,Gr,HRr,hle,hzw⟩:=hrel
  obtain ⟨m,rfl⟩:∃ m,gk=m+1:=zJ
  clear HR rowa
  have HR:Hid (jy C.ts (run C.ts m) (.mk kdx txx nmx psx kidsx) least h k0=r0):=zk HRr
  have ihm:=ih m om
  clear HRr p
  go_wp2_with fail
  refine qb ok k0 h (yc C ok k0 h _ ‹_›) ‹_› fun w1 p1 hg _=>?_
  replace rowl:=yh.ag rowl (Ag.grown zu hg om om) (Ag.grown zu hg om om) lr
  have hz1:=hg.size
  (try simp at hz1)
  have G1:w.grownBy w1 (some C.b):=zl ‹_› hg
  have bl0_1:BL w1 (w.heap.size) (yE kdx ⟨txx.toArray⟩ nmx psx aox kidsx.length cpx):=BL.grown ‹_› hg om
  have bl1_1:BL w1 (w.heap.size+1) (yA):=BL.grown ‹_› hg om
  have hl1_1:=bl1_1.lt
  clear bl0_0 bl1_0 hg
  have ⟨nf1,nf2,ne4⟩:¬w.heap.size=C.b∧¬w.heap.size+1=C.b∧¬w.heap.size=w.heap.size+1:=om
  clear p0
  go_wp2_with fail
  refine qb ok k0 h (nV (yI C.ts k0) _) ‹_› fun w2 p2 hg _=>?_
  replace rowl:=yh.ag rowl (Ag.grown zu hg om om) (Ag.grown zu hg om om) lr
  have hz2:=hg.size
  (try simp at hz2)
  have G2:w.grownBy w2 (some C.b):=zl ‹_› hg
  have bl0_2:BL w2 (w.heap.size) (yE kdx ⟨txx.toArray⟩ nmx psx aox kidsx.length cpx):=BL.grown ‹_› hg om
  have zc0_2:=bl0_2.cell
  have bl1_2:BL w2 (w.heap.size+1) (yA):=BL.grown ‹_› hg om
  have hl1_2:=bl1_2.lt
  have zc1_2:=bl1_2.cell
  have fz1_2:=bl1_2.frozen
  clear bl0_1 bl1_1 p1 hg
  have hsb:=o6 (yI C.ts k0)
  obtain ⟨hsb1,hsb2⟩:=hsb
  by_cases cl:least≤aF (yI C.ts k0)
  rotate_left
  ·skip
   have hlt2:aF (yI C.ts k0)<least:=om
   clear cl
   go_wp2
   refine bodyPost_ret (v:=.agg #[.int .i64 kdx,.string ⟨txx.toArray⟩,.int .i64 nmx,.int .i64 psx,.string ⟨#[]⟩,.int .i64 0,.slice aox kidsx.length cpx]) (by simp [results,Tryz.results150,go_sem, *]) rfl (yB (hi:=w2.heap.size) (s:=0) (k':=k0) (tx:=txx) (kids:=kidsx)  (by rw [←zk HR];simp only [jy,ub,ef (show ¬least≤aF (yI C.ts k0) from by omega)]) (yh.toI (z:=w2.heap.size) (yh.ag rowl (aw8 zu oz) (yr zu oz) lr) om om om) sq ?_ ?_)
   ·exact yv ‹_› ok oz
   ·exact yw ‹_› oz
  obtain ⟨h6,hst⟩:=strength_ne (ts:=C.ts) (k:=k0) om
  have H6:=zm h6
  clear h6 hst
  go_wp2_with fail
  refine (yR C ok k0 h _ ‹_› (zk H6)).mono ?_
  rintro e w3 ⟨rfl,p3,hg⟩
  replace rowl:=yh.ag rowl (Ag.grown zu hg om om) (Ag.grown zu hg om om) lr
  have hz3:=hg.size
  (try simp at hz3)
  have G3:w.grownBy w3 (some C.b):=zl ‹_› hg
  have bl0_3:BL w3 (w.heap.size) (yE kdx ⟨txx.toArray⟩ nmx psx aox kidsx.length cpx):=BL.grown ‹_› hg om
  have bl1_3:BL w3 (w.heap.size+1) (yA):=BL.grown ‹_› hg om
  have hl1_3:=bl1_3.lt
  clear bl0_2 zc0_2 bl1_2 zc1_2 fz1_2 p2 hg
  have nf10:¬w3.heap.size=C.b:=om
  go_wp2_with fail
  refine qb ok (k0+1) h (nV (zp C.ts k0).text _) (zw ‹_›) fun w4 p4 hg _=>?_
  replace rowl:=yh.ag rowl (Ag.grown (yQ zu om) hg sq om) (Ag.grown (yQ zu om) hg sq om) lr
  have hz4:=hg.size
  (try simp at hz4)
  have G4:w.grownBy w4 (some C.b):=zl (yD ‹_›) hg
  have bl0_4:BL w4 (w.heap.size) (yE kdx ⟨txx.toArray⟩ nmx psx aox kidsx.length cpx):=BL.grown (yS ‹_›) hg om
  have bl1_4:BL w4 (w.heap.size+1) (yA):=BL.grown (yS ‹_›) hg om
  have hl1_4:=bl1_4.lt
  have bl2_4:BL w4 (w3.heap.size) (.cells #[.int .i64 (zp C.ts k0).kind,.string ⟨(zp C.ts k0).text.toArray⟩,.int .i64 (zp C.ts k0).num,.int .i64 (zp C.ts k0).pos] 85):=BL.grown (yN om) hg om
  clear bl0_3 bl1_3 p3 hg
  obtain ⟨hsc1,hsc2⟩:=o6 (zp C.ts k0).text
  go_wp2_with fail
  refine (ihm.op (aF (zp C.ts k0).text+1) om h (k0+1) _ ‹_› (fun hx=>zk HO ((zk HR).symm.trans (by simp only [jy,ub,et (show least≤aF (yI C.ts k0) from by omega),hx])))).mono ?_
  rintro e w5 hp
  rcases hp with ⟨kd5,tx5,nm5,ps5,kids5,s5,k5,ao5,cp5,hq,rfl,hrow,p5,hg⟩ | ⟨pb,rule,hq,rfl,hg⟩
  rotate_left
  (exact ⟨rfl,zs (by rw [←zk HR];simp only [jy,ub,et (show least≤aF (yI C.ts k0) from by omega),hq]) (zl ‹_› hg)⟩)
  replace rowl:=yh.ag rowl (Ag.grown zu hg om om) (Ag.grown zu hg om om) lr
  have G5:w.grownBy w5 (some C.b):=zl ‹_› hg
  have bl0_5:BL w5 (w.heap.size) (yE kdx ⟨txx.toArray⟩ nmx psx aox kidsx.length cpx):=BL.grown ‹_› hg om
  have hl0_5:=bl0_5.lt
  have zc0_5:=bl0_5.cell
  have fz0_5:=bl0_5.frozen
  have bl1_5:BL w5 (w.heap.size+1) (yA):=BL.grown ‹_› hg om
  have hl1_5:=bl1_5.lt
  have bl2_5:BL w5 (w3.heap.size) (.cells #[.int .i64 (zp C.ts k0).kind,.string ⟨(zp C.ts k0).text.toArray⟩,.int .i64 (zp C.ts k0).num,.int .i64 (zp C.ts k0).pos] 85):=BL.grown ‹_› hg om
  have hl2_5:=bl2_5.lt
  have zc2_5:=bl2_5.cell
  clear bl0_4 bl1_4 bl2_4 p4
  obtain ⟨lo5,hlo5,row5⟩:=hrow.named
  (try simp at hlo5)
  have HQ5:=zm hq
  clear hrow hq hg
  go_wp2
  go_roundg m
  case measure=>omega
  case rel=>exact ⟨42,(zp C.ts k0).text,0,(zp C.ts k0).pos,[.mk kdx txx nmx psx kidsx,.mk kd5 tx5 nm5 ps5 kids5],k5,some ⟨w5.heap.size+1,0,none⟩,2,(zw (zw (yv ‹_› ok oz))),by show BL _ w.heap.size (.cells #[.int .i64 42,.string ⟨(zp C.ts k0).text.toArray⟩,.int .i64 0,.int .i64 (zp C.ts k0).pos,.string ⟨#[]⟩,.int .i64 0,.slice (some ⟨w5.heap.size+1,0,none⟩) 2 2] 25);exact yS (yS (by apply BL.put7 ‹_›;rfl)),(yS (yS (bw7 ‹_› oz))),rowJ2 (b:=wr.heap.size) (cur:=#[.int .i64 kdx,.string ⟨txx.toArray⟩,.int .i64 nmx,.int .i64 psx,.string ⟨#[]⟩,.int .i64 0,.slice aox kidsx.length cpx,.int .i64 kd5,.string ⟨tx5.toArray⟩,.int .i64 nm5,.int .i64 ps5,.string ⟨#[]⟩,.int .i64 0,.slice ao5 kids5.length cp5]) (yN sq) (yh.nd (yh.ag rowl (yQ (yQ (aw8 zu oz) sq) sq) (yQ (yQ (yr zu oz) sq) sq) lr)) ((Nd.mk (kd:=kd5) (tx:=tx5) (nm:=nm5) (ps:=ps5) row5).ag (yQ (yQ (yr zu oz) sq) sq)) rfl rfl om om om om sq om om,(yD (yD (yw ‹_› oz))),zm (by rw [←zk HR];simp only [jy,ub,et (show least≤aF (yI C.ts k0) from by omega),zk HQ5]),om,sq⟩
end Go.Proofs.YtgbjpnnockoomaaGreatDoor
