import Derived.Test.YtgbjpnnockoomaaGreatDoorQg
import Derived.Test.YtgbjpnnockoomaaGreatDoorParB
set_option linter.unusedVariables false
set_option linter.unusedSimpArgs false
set_option maxHeartbeats 4000000
set_option maxRecDepth 100000
namespace Go.Proofs.YtgbjpnnockoomaaGreatDoor
open Go.RowKit Lx Px
theorem switch_1_w (C:Ctx) (ok:C.Ok) (n:Nat) (ih:All C n):∀ (h:Bool) (k:Nat) (w:World),PS w C k h→(zp C.ts k).kind≠6→(yb C.ts (k+1) [[123]]=true)→run C.ts (n+1) .switchStmt h k≠.out→Calls Tryz.prog 128 #[.pointer (some ⟨C.b,0,none⟩)] w (iV C w.heap.size (run C.ts (n+1) .switchStmt h k) h w):=by
 intro h k w p h6 c1 hout
 have hr:run C.ts (n+1) .switchStmt h k=yt C.ts (run C.ts n) h k:=rfl
 rw [hr] at hout ⊢
 clear hr
 generalize hR:yt C.ts (run C.ts n) h k=r0 at hout ⊢
 have H6:=zm h6
 clear h6
 have hbl:=p.lt
 have htb:=ok.lt
 have htf0:=dw
 have htf1:=dL
 have htf3:=bT
 have hmf:=ig
 have G0:=zo w (some C.b)
 have HR:=zm hR
 clear hR
 have HO:=zm hout
 clear hout
 go_enter Tryz.func128,Tryz.ntmps128
 go_wp2_with fail
 refine (yR C ok k h _ (zw wg) (zk H6)).mono ?_
 rintro e w1 ⟨rfl,p1,hg⟩
 have hz1:=hg.size
 (try simp at hz1)
 have G1:w.grownBy w1 (some C.b):=zl (yD wg) hg
 have bl0_1:BL w1 (w.heap.size) (yA):=BL.grown (yN om) hg om
 have hl0_1:=bl0_1.lt
 clear hg
 have ⟨⟨ne1,nf1⟩,⟨ne2,nf2⟩,⟨ne3,nf3⟩⟩:NN C.b w.heap.size∧NN C.b w1.heap.size∧NN w.heap.size w1.heap.size:=om
 go_wp2_with fail
 refine qc w ok (k+1) h (dh _) wg wg fun w2 p2 hg hz2 G2=>?_
 (try simp at hz2)
 have bl0_2:BL w2 (w.heap.size) (yA):=BL.grown wg hg om
 have hl0_2:=bl0_2.lt
 clear bl0_1 p1 hg
 have ⟨⟨ne4,nf4⟩,⟨ne5,nf5⟩⟩:NN C.b w2.heap.size∧NN w.heap.size w2.heap.size:=om
 go_wp2_with fail
 refine qc w ok (k+1) h (isL C ok (k+1) h _ (w2.heap.size+1) [[123]] dc (zw wg) zK) (zw wg) (yD wg) fun w3 p3 hg hz3 G3=>?_
 (try simp at hz3)
 have bl0_3:BL w3 (w.heap.size) (yA):=BL.grown (yS wg) hg om
 have hl0_3:=bl0_3.lt
 have bl1_3:BL w3 (w2.heap.size) (yE 8 ⟨#[]⟩ 0 0 none 0 0):=BL.grown (yN om) hg om
 have hl1_3:=bl1_3.lt
 have zc1_3:=bl1_3.cell
 clear bl0_2 p2 hg
 have ⟨⟨ne6,nf6⟩,⟨ne7,nf7⟩,⟨ne8,nf8⟩⟩:NN C.b w3.heap.size∧NN w.heap.size w3.heap.size∧NN w2.heap.size w3.heap.size:=om
 go_wp2
 go_region_law (first | (have hbx:=bx;have hlenj:l4.length≤1000000:=(by have h1:=yq C.ts n (.clauses false) h (k+1) l4 s4 k4 (zk HQ4);have h2:=ok.few;have h3:=p4.kl;simp only [st,bnd] at h1;omega);refine gQ rfl (.tmp 19) (.tmp 23) rfl (lo:=(w.heap.size+1)) (g1:=w3.heap.size) (u:=(w.heap.size+1)) (v:=(w.heap.size+1)) (A:=lo4) (B:=w4.heap.size) (t:=.mk 8 [] 0 0 []) (cur:=#[.int .i64 8,.string ⟨#[]⟩,.int .i64 0,.int .i64 0,.string ⟨#[]⟩,.int .i64 0,.slice none 0 0]) (l:=l4) zH zA rfl (Nd.mk (kd:=8) (tx:=[]) (nm:=0) (ps:=0) (zq.nil _ (w.heap.size+1) (w.heap.size+1))) zH (zq.ag row4 zB lr lr) hlenj oz oz oz oz oz oz oz oz ?_;intro g5 cp5 w5 hrw5 hgA hat5 hgl5;have hob:∀ x,(Value.slice (some ⟨w3.heap.size,0,none⟩) 1 1).ownBlock=some x→x=w3.heap.size:=(fun x hx=>by simp only [Value.ownBlock,Option.some.injEq] at hx;omega);have hz5:=hgA.size;(try simp at hz5);(try simp at hat5);have G5:w.grownBy w5 (some C.b):=yP zC hgA (fun x hx=>by have:=hob x hx;omega);have p5:=PS.own (C:=C) (k:=k4) (h:=h) zF ok hgA (fun x hx=>by have:=hob x hx;omega);have bl0_5:BL w5 (w.heap.size) (yA):=BL.own zA hgA (fun e=>by have:=hob _ e.symm;omega);have hl0_5:=bl0_5.lt;have zc0_5:=bl0_5.cell;have fz0_5:=bl0_5.frozen;have bl1_5:BL w5 (w2.heap.size) (.cells #[.int .i64 8,.string ⟨#[]⟩,.int .i64 0,.int .i64 0,.string ⟨#[]⟩,.int .i64 0,.slice none 0 0] 25):=BL.own zA hgA (fun e=>by have:=hob _ e.symm;omega);have hl1_5:=bl1_5.lt;have zc1_5:=bl1_5.cell;have fz1_5:=bl1_5.frozen;clear p4 hgA hob;have nz0:¬w.heap.size=w5.heap.size:=om;have ny0:¬w5.heap.size=w.heap.size:=om;have nz1:¬w2.heap.size=w5.heap.size:=om;have ny1:¬w5.heap.size=w2.heap.size:=om) | (have hlenj:l4.length≤1000000:=(by have h1:=yq C.ts n (.clauses false) h (k+1) l4 s4 k4 (zk HQ4);have h2:=ok.few;have h3:=p4.kl;simp only [st,bnd] at h1;omega);refine gQ rfl (.tmp 19) (.tmp 23) rfl (lo:=(w.heap.size+1)) (g1:=w4.heap.size) (u:=(w.heap.size+1)) (v:=(w.heap.size+1)) (A:=lo4) (B:=w4.heap.size) (t:=.mk 8 [] 0 0 []) (cur:=#[.int .i64 8,.string ⟨#[]⟩,.int .i64 0,.int .i64 0,.string ⟨#[]⟩,.int .i64 0,.slice none 0 0]) (l:=l4) zH zA rfl (Nd.mk (kd:=8) (tx:=[]) (nm:=0) (ps:=0) (zq.nil _ (w.heap.size+1) (w.heap.size+1))) zH (zq.ag row4 zB lr lr) hlenj oz oz oz oz oz oz oz oz ?_;intro g5 cp5 w5 hrw5 hgA hat5 hgl5;have hob:∀ x,(Value.slice (some ⟨w4.heap.size,0,none⟩) 1 1).ownBlock=some x→x=w4.heap.size:=(fun x hx=>by simp only [Value.ownBlock,Option.some.injEq] at hx;omega);have hz5:=hgA.size;(try simp at hz5);(try simp at hat5);have G5:w.grownBy w5 (some C.b):=yP zC hgA (fun x hx=>by have:=hob x hx;omega);have p5:=PS.own (C:=C) (k:=k4) (h:=h) zF ok hgA (fun x hx=>by have:=hob x hx;omega);have bl0_5:BL w5 (w.heap.size) (yA):=BL.own zA hgA (fun e=>by have:=hob _ e.symm;omega);have hl0_5:=bl0_5.lt;have zc0_5:=bl0_5.cell;have fz0_5:=bl0_5.frozen;have bl1_5:BL w5 (w2.heap.size) (.cells #[.int .i64 8,.string ⟨#[]⟩,.int .i64 0,.int .i64 0,.string ⟨#[]⟩,.int .i64 0,.slice none 0 0] 25):=BL.own zA hgA (fun e=>by have:=hob _ e.symm;omega);have hl1_5:=bl1_5.lt;have zc1_5:=bl1_5.cell;have fz1_5:=bl1_5.frozen;clear p4 hgA hob;have nz0:¬w.heap.size=w5.heap.size:=om;have ny0:¬w5.heap.size=w.heap.size:=om;have nz1:¬w2.heap.size=w5.heap.size:=om;have ny1:¬w5.heap.size=w2.heap.size:=om) | (go_simp;go_at_call 139;refine (ih.at.clausesF h (k+1) _ zF (fun hx=>zk HO ((zk HR).symm.trans (by simp only [yt,ub,et c1,hx])))).mono ?_;rintro e w4 hp;rcases hp with ⟨l4,s4,k4,ao4,cp4,hq,rfl,hrow,p4,hg⟩ | ⟨pb,rule,hq,rfl,hg⟩;rotate_left;(exact ⟨rfl,zs (by rw [←zk HR];simp only [yt,ub,et c1,hq]) (zl zC hg)⟩);(try ((refine_lift have bx:BL w4 (w3.heap.size) (.cells #[.int .i64 8,.string ⟨#[]⟩,.int .i64 0,.int .i64 0,.string ⟨#[]⟩,.int .i64 0,.slice none 0 0] 25):=?_;?_);rotate_left;(focus ((refine BL.grown ?_ hg ?_);(focus (((repeat (first | with_reducible assumption | ((with_reducible apply BL.put7);(with_reducible assumption);rfl) | ((with_reducible apply BL.o5);(with_reducible assumption);rfl) | with_reducible refine BL.drew ?_ | (with_reducible refine BL.new ?_;(first | omega | (simp <;> omega))) | with_reducible refine BL.alloc ?_ _ | (with_reducible refine BL.set ?_ _ ?_;rotate_left;(first | omega | (simp <;> omega))) | ((with_reducible apply BL.mF);(with_reducible assumption);(first | rfl | simp)))));done));(focus ((first | omega | (simp <;> omega));done))));have hlx:=bx.lt;have zcx:=bx.cell));have hz4:=hg.size;(try simp at hz4);have G4:w.grownBy w4 (some C.b):=zl zC hg;have bl0_4:BL w4 (w.heap.size) (yA):=BL.grown zA hg oz;have hl0_4:=bl0_4.lt;have zc0_4:=bl0_4.cell;have fz0_4:=bl0_4.frozen;have bl1_4:BL w4 (w2.heap.size) (.cells #[.int .i64 8,.string ⟨#[]⟩,.int .i64 0,.int .i64 0,.string ⟨#[]⟩,.int .i64 0,.slice none 0 0] 25):=BL.grown zA hg oz;have hl1_4:=bl1_4.lt;have zc1_4:=bl1_4.cell;have fz1_4:=bl1_4.frozen;clear bl0_3;clear bl1_3 zc1_3;clear p3;obtain ⟨lo4,hlo4,row4⟩:=hrow.named;(try simp at hlo4);have HQ4:=zm hq;clear hrow hq;clear hg;have ne9:¬C.b=w4.heap.size:=om;have nf9:¬w4.heap.size=C.b:=om;have ne10:¬w.heap.size=w4.heap.size:=om;have nf10:¬w4.heap.size=w.heap.size:=om;have ne11:¬w2.heap.size=w4.heap.size:=om;have nf11:¬w4.heap.size=w2.heap.size:=om))
 all_goals
  go_wp2
  refine bodyPost_ret (v:=.agg #[.int .i64 23,.string ⟨#[]⟩,.int .i64 0,.int .i64 (zp C.ts k).pos,.string ⟨#[]⟩,.int .i64 0,.slice (some ⟨g5,0,none⟩) (l4.length+1) cp5]) (by simp [results,Tryz.results128,go_sem, *]) rfl (yB (hi:=(World.heap _).size) (s:=0) (k':=k4) (tx:=[]) (kids:=(.mk 8 [] 0 0 []::l4))  (by rw [←zk HR];simp only [yt,ub,et c1,zk HQ4]) (zq.ag (hrw5 _ sq (Ag.one (yr zu oz)) (yr zu oz) (yr zu oz)) (Ag.refl _ _ _) om lr) om ?_ ?_)
  ·exact yv wg ok oz
  ·exact yw wg oz
open Go.RowKit Lx Px
theorem switch_2_w (C:Ctx) (ok:C.Ok) (n:Nat) (ih:All C n):∀ (h:Bool) (k:Nat) (w:World),PS w C k h→(zp C.ts k).kind≠6→(¬yb C.ts (k+1) [[123]]=true)→run C.ts (n+1) .switchStmt h k≠.out→Calls Tryz.prog 128 #[.pointer (some ⟨C.b,0,none⟩)] w (iV C w.heap.size (run C.ts (n+1) .switchStmt h k) h w):=by
 intro h k w p h6 c1 hout
 have hr:run C.ts (n+1) .switchStmt h k=yt C.ts (run C.ts n) h k:=rfl
 rw [hr] at hout ⊢
 clear hr
 generalize hR:yt C.ts (run C.ts n) h k=r0 at hout ⊢
 have H6:=zm h6
 clear h6
 have hbl:=p.lt
 have htb:=ok.lt
 have htf0:=dw
 have htf1:=dL
 have htf3:=bT
 have hmf:=ig
 have G0:=zo w (some C.b)
 have HR:=zm hR
 clear hR
 have HO:=zm hout
 clear hout
 go_enter Tryz.func128,Tryz.ntmps128
 go_wp2_with fail
 refine (yR C ok k h _ (zw wg) (zk H6)).mono ?_
 rintro e w1 ⟨rfl,p1,hg⟩
 have hz1:=hg.size
 (try simp at hz1)
 have G1:w.grownBy w1 (some C.b):=zl (yD wg) hg
 have bl0_1:BL w1 (w.heap.size) (yA):=BL.grown (yN om) hg om
 have hl0_1:=bl0_1.lt
 clear hg
 have ⟨⟨ne1,nf1⟩,⟨ne2,nf2⟩,⟨ne3,nf3⟩⟩:NN C.b w.heap.size∧NN C.b w1.heap.size∧NN w.heap.size w1.heap.size:=om
 go_wp2_with fail
 refine qc w ok (k+1) h (dh _) wg wg fun w2 p2 hg hz2 G2=>?_
 (try simp at hz2)
 have bl0_2:BL w2 (w.heap.size) (yA):=BL.grown wg hg om
 have hl0_2:=bl0_2.lt
 clear bl0_1 p1 hg
 have ⟨⟨ne4,nf4⟩,⟨ne5,nf5⟩⟩:NN C.b w2.heap.size∧NN w.heap.size w2.heap.size:=om
 go_wp2_with fail
 refine qc w ok (k+1) h (isL C ok (k+1) h _ (w2.heap.size+1) [[123]] dc (zw wg) zK) (zw wg) (yD wg) fun w3 p3 hg hz3 G3=>?_
 (try simp at hz3)
 have bl0_3:BL w3 (w.heap.size) (yA):=BL.grown (yS wg) hg om
 have hl0_3:=bl0_3.lt
 have bl1_3:BL w3 (w2.heap.size) (yE 8 ⟨#[]⟩ 0 0 none 0 0):=BL.grown (yN om) hg om
 have hl1_3:=bl1_3.lt
 clear bl0_2 p2 hg
 have ⟨⟨ne6,nf6⟩,⟨ne7,nf7⟩,⟨ne8,nf8⟩⟩:NN C.b w3.heap.size∧NN w.heap.size w3.heap.size∧NN w2.heap.size w3.heap.size:=om
 go_wp2_with fail
 refine (iT C ok 126 #[.pointer (some ⟨C.b,0,none⟩)] #[] uI (run C.ts n .expr true (k+1)) true h (k+1) _ wg (fun w0 _ q0=>ih.at.expr true (k+1) w0 q0 (fun hx=>zk HO ((zk HR).symm.trans (by simp only [yt,ub,ef c1,hx]))))).mono ?_
 rintro e w4 hp
 rcases hp with ⟨kd4,tx4,nm4,ps4,kids4,s4,k4,ao4,cp4,hq,rfl,hrow,p4,hg⟩ | ⟨pb,rule,hq,rfl,hg⟩
 rotate_left
 (exact ⟨rfl,zs (by rw [←zk HR];simp only [yt,ub,ef c1,hq]) (zl wg hg)⟩)
 have hz4:=hg.size
 (try simp at hz4)
 have G4:w.grownBy w4 (some C.b):=zl wg hg
 have bl0_4:BL w4 (w.heap.size) (yA):=BL.grown wg hg om
 have hl0_4:=bl0_4.lt
 have bl1_4:BL w4 (w2.heap.size) (yE 8 ⟨#[]⟩ 0 0 none 0 0):=BL.grown wg hg om
 have hl1_4:=bl1_4.lt
 have zc1_4:=bl1_4.cell
 have fz1_4:=bl1_4.frozen
 clear bl0_3 bl1_3 p3
 obtain ⟨lo4,hlo4,row4⟩:=hrow.named
 (try simp at hlo4)
 have HQ4:=zm hq
 clear hrow hq hg
 have ⟨⟨ne9,nf9⟩,⟨ne10,nf10⟩,⟨ne11,nf11⟩⟩:NN C.b w4.heap.size∧NN w.heap.size w4.heap.size∧NN w2.heap.size w4.heap.size:=om
 go_wp2
 go_region_law (first | (have hbx:=bx;have hlenj:l5.length≤1000000:=(by have h1:=yq C.ts n (.clauses false) h k4 l5 s5 k5 (zk HQ5);have h2:=ok.few;have h3:=p5.kl;simp only [st,bnd] at h1;omega);refine gQ rfl (.tmp 19) (.tmp 23) rfl (lo:=(w.heap.size+1)) (g1:=w4.heap.size) (u:=lo4) (v:=w4.heap.size) (A:=lo5) (B:=w5.heap.size) (t:=.mk kd4 tx4 nm4 ps4 kids4) (cur:=#[.int .i64 kd4,.string ⟨tx4.toArray⟩,.int .i64 nm4,.int .i64 ps4,.string ⟨#[]⟩,.int .i64 0,.slice ao4 kids4.length cp4]) (l:=l5) zH zA rfl ((Nd.mk (kd:=kd4) (tx:=tx4) (nm:=nm4) (ps:=ps4) row4).ag zB) zH (zq.ag row5 zB lr lr) hlenj oz oz oz oz oz oz oz oz ?_;intro g6 cp6 w6 hrw6 hgA hat6 hgl6;have hob:∀ x,(Value.slice (some ⟨w4.heap.size,0,none⟩) 1 1).ownBlock=some x→x=w4.heap.size:=(fun x hx=>by simp only [Value.ownBlock,Option.some.injEq] at hx;omega);have hz6:=hgA.size;(try simp at hz6);(try simp at hat6);have G6:w.grownBy w6 (some C.b):=yP zC hgA (fun x hx=>by have:=hob x hx;omega);have p6:=PS.own (C:=C) (k:=k5) (h:=h) zF ok hgA (fun x hx=>by have:=hob x hx;omega);have bl0_6:BL w6 (w.heap.size) (yA):=BL.own zA hgA (fun e=>by have:=hob _ e.symm;omega);have hl0_6:=bl0_6.lt;have zc0_6:=bl0_6.cell;have fz0_6:=bl0_6.frozen;have bl1_6:BL w6 (w2.heap.size) (.cells #[.int .i64 kd4,.string ⟨tx4.toArray⟩,.int .i64 nm4,.int .i64 ps4,.string ⟨#[]⟩,.int .i64 0,.slice ao4 kids4.length cp4] 25):=BL.own zA hgA (fun e=>by have:=hob _ e.symm;omega);have hl1_6:=bl1_6.lt;have zc1_6:=bl1_6.cell;have fz1_6:=bl1_6.frozen;clear p5 hgA hob;have nz0:¬w.heap.size=w6.heap.size:=om;have ny0:¬w6.heap.size=w.heap.size:=om;have nz1:¬w2.heap.size=w6.heap.size:=om;have ny1:¬w6.heap.size=w2.heap.size:=om) | (have hlenj:l5.length≤1000000:=(by have h1:=yq C.ts n (.clauses false) h k4 l5 s5 k5 (zk HQ5);have h2:=ok.few;have h3:=p5.kl;simp only [st,bnd] at h1;omega);refine gQ rfl (.tmp 19) (.tmp 23) rfl (lo:=(w.heap.size+1)) (g1:=w5.heap.size) (u:=lo4) (v:=w4.heap.size) (A:=lo5) (B:=w5.heap.size) (t:=.mk kd4 tx4 nm4 ps4 kids4) (cur:=#[.int .i64 kd4,.string ⟨tx4.toArray⟩,.int .i64 nm4,.int .i64 ps4,.string ⟨#[]⟩,.int .i64 0,.slice ao4 kids4.length cp4]) (l:=l5) zH zA rfl ((Nd.mk (kd:=kd4) (tx:=tx4) (nm:=nm4) (ps:=ps4) row4).ag zB) zH (zq.ag row5 zB lr lr) hlenj oz oz oz oz oz oz oz oz ?_;intro g6 cp6 w6 hrw6 hgA hat6 hgl6;have hob:∀ x,(Value.slice (some ⟨w5.heap.size,0,none⟩) 1 1).ownBlock=some x→x=w5.heap.size:=(fun x hx=>by simp only [Value.ownBlock,Option.some.injEq] at hx;omega);have hz6:=hgA.size;(try simp at hz6);(try simp at hat6);have G6:w.grownBy w6 (some C.b):=yP zC hgA (fun x hx=>by have:=hob x hx;omega);have p6:=PS.own (C:=C) (k:=k5) (h:=h) zF ok hgA (fun x hx=>by have:=hob x hx;omega);have bl0_6:BL w6 (w.heap.size) (yA):=BL.own zA hgA (fun e=>by have:=hob _ e.symm;omega);have hl0_6:=bl0_6.lt;have zc0_6:=bl0_6.cell;have fz0_6:=bl0_6.frozen;have bl1_6:BL w6 (w2.heap.size) (.cells #[.int .i64 kd4,.string ⟨tx4.toArray⟩,.int .i64 nm4,.int .i64 ps4,.string ⟨#[]⟩,.int .i64 0,.slice ao4 kids4.length cp4] 25):=BL.own zA hgA (fun e=>by have:=hob _ e.symm;omega);have hl1_6:=bl1_6.lt;have zc1_6:=bl1_6.cell;have fz1_6:=bl1_6.frozen;clear p5 hgA hob;have nz0:¬w.heap.size=w6.heap.size:=om;have ny0:¬w6.heap.size=w.heap.size:=om;have nz1:¬w2.heap.size=w6.heap.size:=om;have ny1:¬w6.heap.size=w2.heap.size:=om) | (go_simp;go_at_call 139;refine (ih.at.clausesF h k4 _ zF (fun hx=>zk HO ((zk HR).symm.trans (by simp only [yt,ub,ef c1,zk HQ4,hx])))).mono ?_;rintro e w5 hp;rcases hp with ⟨l5,s5,k5,ao5,cp5,hq,rfl,hrow,p5,hg⟩ | ⟨pb,rule,hq,rfl,hg⟩;rotate_left;(exact ⟨rfl,zs (by rw [←zk HR];simp only [yt,ub,ef c1,zk HQ4,hq]) (zl zC hg)⟩);(try ((refine_lift have bx:BL w5 (w4.heap.size) (.cells #[.int .i64 kd4,.string ⟨tx4.toArray⟩,.int .i64 nm4,.int .i64 ps4,.string ⟨#[]⟩,.int .i64 0,.slice ao4 kids4.length cp4] 25):=?_;?_);rotate_left;(focus ((refine BL.grown ?_ hg ?_);(focus (((repeat (first | with_reducible assumption | ((with_reducible apply BL.put7);(with_reducible assumption);rfl) | ((with_reducible apply BL.o5);(with_reducible assumption);rfl) | with_reducible refine BL.drew ?_ | (with_reducible refine BL.new ?_;(first | omega | (simp <;> omega))) | with_reducible refine BL.alloc ?_ _ | (with_reducible refine BL.set ?_ _ ?_;rotate_left;(first | omega | (simp <;> omega))) | ((with_reducible apply BL.mF);(with_reducible assumption);(first | rfl | simp)))));done));(focus ((first | omega | (simp <;> omega));done))));have hlx:=bx.lt;have zcx:=bx.cell));have hz5:=hg.size;(try simp at hz5);have G5:w.grownBy w5 (some C.b):=zl zC hg;replace row4:=zq.ag row4 (Ag.grown zB hg oz oz) lr lr;have bl0_5:BL w5 (w.heap.size) (yA):=BL.grown zA hg oz;have hl0_5:=bl0_5.lt;have zc0_5:=bl0_5.cell;have fz0_5:=bl0_5.frozen;have bl1_5:BL w5 (w2.heap.size) (.cells #[.int .i64 kd4,.string ⟨tx4.toArray⟩,.int .i64 nm4,.int .i64 ps4,.string ⟨#[]⟩,.int .i64 0,.slice ao4 kids4.length cp4] 25):=BL.grown zA hg oz;have hl1_5:=bl1_5.lt;have zc1_5:=bl1_5.cell;have fz1_5:=bl1_5.frozen;clear bl0_4;clear bl1_4 zc1_4 fz1_4;clear p4;obtain ⟨lo5,hlo5,row5⟩:=hrow.named;(try simp at hlo5);have HQ5:=zm hq;clear hrow hq;clear hg;have ne12:¬C.b=w5.heap.size:=om;have nf12:¬w5.heap.size=C.b:=om;have ne13:¬w.heap.size=w5.heap.size:=om;have nf13:¬w5.heap.size=w.heap.size:=om;have ne14:¬w2.heap.size=w5.heap.size:=om;have nf14:¬w5.heap.size=w2.heap.size:=om))
 all_goals
  go_wp2
  refine bodyPost_ret (v:=.agg #[.int .i64 23,.string ⟨#[]⟩,.int .i64 0,.int .i64 (zp C.ts k).pos,.string ⟨#[]⟩,.int .i64 0,.slice (some ⟨g6,0,none⟩) (l5.length+1) cp6]) (by simp [results,Tryz.results128,go_sem, *]) rfl (yB (hi:=(World.heap _).size) (s:=0) (k':=k5) (tx:=[]) (kids:=(.mk kd4 tx4 nm4 ps4 kids4::l5))  (by rw [←zk HR];simp only [yt,ub,ef c1,zk HQ4,zk HQ5]) (zq.ag (hrw6 _ sq (Ag.one (yr zu oz)) (yr zu oz) (yr zu oz)) (Ag.refl _ _ _) om lr) om ?_ ?_)
  ·exact yv wg ok oz
  ·exact yw wg oz
open Go.RowKit Lx Px
theorem vP (C:Ctx) (ok:C.Ok) (n:Nat) (ih:All C n):CNt C 128 .switchStmt #[.pointer (some ⟨C.b,0,none⟩)] (n+1):=by
 intro h k w p h6 hout
 by_cases c1:yb C.ts (k+1) [[123]]=true
 ·exact switch_1_w C ok n ih h k w p h6 c1 hout
 ·exact switch_2_w C ok n ih h k w p h6 c1 hout
end Go.Proofs.YtgbjpnnockoomaaGreatDoor
