import Derived.Test.YtgbjpnnockoomaaGreatDoorQg
import Derived.Test.YtgbjpnnockoomaaGreatDoorParB
set_option linter.unusedVariables false
set_option linter.unusedSimpArgs false
set_option maxHeartbeats 4000000
set_option maxRecDepth 100000
namespace Go.Proofs.YtgbjpnnockoomaaGreatDoor
open Go.RowKit Lx Px
theorem mark_L_w (C:Ctx) (ok:C.Ok) (n:Nat) (ih:All C n):∀ (h:Bool) (k:Nat) (w:World),PS w C k h→(¬yb C.ts k [[40]]=true)→(h=false)→(¬yb C.ts k [[38]]=true)→(yb C.ts k [[91]]=true)→run C.ts (n+1) .markOperand h k≠.out→Calls Tryz.prog 155 #[.pointer (some ⟨C.b,0,none⟩)] w (iV C w.heap.size (run C.ts (n+1) .markOperand h k) h w):=by
 intro h k w p c40 hh c38 c91 hout
 subst hh
 have hr:run C.ts (n+1) .markOperand false k=yG C.ts (run C.ts n) false k:=rfl
 rw [hr] at hout ⊢
 clear hr
 generalize hR:yG C.ts (run C.ts n) false k=r0 at hout ⊢
 have hbl:=p.lt
 have htb:=ok.lt
 have htf0:=dw
 have htf1:=dL
 have htf3:=bT
 have hmf:=ig
 have G0:=zo w (some C.b)
 have HR:=zm hR
 clear hR
 have HO:=zm hout
 clear hout
 go_enter Tryz.func155,Tryz.ntmps155
 go_wp2_with fail
 refine qc w ok k false (zy C ok k false _ (zw wg)) (zw wg) (yD wg) fun w1 p1 hg hz1 G1=>?_
 (try simp at hz1)
 have bl0_1:BL w1 (w.heap.size) (yA):=BL.grown (yN om) hg om
 have hl0_1:=bl0_1.lt
 clear hg
 have ⟨⟨ne1,nf1⟩,⟨ne2,nf2⟩,⟨ne3,nf3⟩⟩:NN C.b w.heap.size∧NN C.b w1.heap.size∧NN w.heap.size w1.heap.size:=om
 go_wp2_with fail
 refine qc w ok k false (yV C ok k false _ [40] (zw wg) (Bool.eq_false_iff.2 c40)) (zw wg) (yD wg) fun w2 p2 hg hz2 G2=>?_
 (try simp at hz2)
 have bl0_2:BL w2 (w.heap.size) (yA):=BL.grown (yS wg) hg om
 have hl0_2:=bl0_2.lt
 have bl1_2:BL w2 (w1.heap.size) (.cells #[.int .i64 (zp C.ts k).kind,.string ⟨(zp C.ts k).text.toArray⟩,.int .i64 (zp C.ts k).num,.int .i64 (zp C.ts k).pos] 85):=BL.grown (yN om) hg om
 have hl1_2:=bl1_2.lt
 clear bl0_1 p1 hg
 have ⟨⟨ne4,nf4⟩,⟨ne5,nf5⟩,⟨ne6,nf6⟩⟩:NN C.b w2.heap.size∧NN w.heap.size w2.heap.size∧NN w1.heap.size w2.heap.size:=om
 have hin2:w2.cell? ⟨C.b,2,none⟩=some (.bool false):=zv p2.blk 2
 go_wp2_with fail
 refine qc w ok k false (yV C ok k false _ [38] wg (Bool.eq_false_iff.2 c38)) wg wg fun w3 p3 hg hz3 G3=>?_
 (try simp at hz3)
 have bl0_3:BL w3 (w.heap.size) (yA):=BL.grown wg hg om
 have hl0_3:=bl0_3.lt
 have bl1_3:BL w3 (w1.heap.size) (.cells #[.int .i64 (zp C.ts k).kind,.string ⟨(zp C.ts k).text.toArray⟩,.int .i64 (zp C.ts k).num,.int .i64 (zp C.ts k).pos] 85):=BL.grown wg hg om
 have hl1_3:=bl1_3.lt
 clear bl0_2 bl1_2 p2 hg
 have ⟨⟨ne7,nf7⟩,⟨ne8,nf8⟩,⟨ne9,nf9⟩⟩:NN C.b w3.heap.size∧NN w.heap.size w3.heap.size∧NN w1.heap.size w3.heap.size:=om
 have hin3:w3.cell? ⟨C.b,2,none⟩=some (.bool false):=zv p3.blk 2
 go_wp2_with fail
 refine (yU C ok k false _ [91] wg c91).mono ?_
 rintro e w4 ⟨rfl,p4,hg⟩
 have hz4:=hg.size
 (try simp at hz4)
 have G4:w.grownBy w4 (some C.b):=zl wg hg
 have bl0_4:BL w4 (w.heap.size) (yA):=BL.grown wg hg om
 have hl0_4:=bl0_4.lt
 have bl1_4:BL w4 (w1.heap.size) (.cells #[.int .i64 (zp C.ts k).kind,.string ⟨(zp C.ts k).text.toArray⟩,.int .i64 (zp C.ts k).num,.int .i64 (zp C.ts k).pos] 85):=BL.grown wg hg om
 have hl1_4:=bl1_4.lt
 clear bl0_3 bl1_3 p3 hg
 have ⟨⟨ne10,nf10⟩,⟨ne11,nf11⟩,⟨ne12,nf12⟩⟩:NN C.b w4.heap.size∧NN w.heap.size w4.heap.size∧NN w1.heap.size w4.heap.size:=om
 clear hin2 hin3
 by_cases c93:yb C.ts (k+1) [[93]]=true
 rotate_left
 ·skip
  go_wp2_with fail
  refine (yX C ok (k+1) false _ ⟨#[111,112,101,114,97,110,100]⟩ [93] wg (Bool.eq_false_iff.2 c93)).mono ?_
  rintro e w5 ⟨rfl,hgq⟩
  exact ⟨rfl,zs (by rw [←zk HR];simp only [yG,ub,ef c40,ef c38,et c91,Bool.true_eq_false,Bool.false_eq_true,ef c93]) (zl wg (zn hgq))⟩
 go_wp2_with fail
 refine (yJ C ok (k+1) false _ ⟨#[111,112,101,114,97,110,100]⟩ [93] wg c93).mono ?_
 rintro e w5 ⟨rfl,p5,hg⟩
 have hz5:=hg.size
 (try simp at hz5)
 have G5:w.grownBy w5 (some C.b):=zl wg hg
 have bl0_5:BL w5 (w.heap.size) (yA):=BL.grown wg hg om
 have hl0_5:=bl0_5.lt
 have bl1_5:BL w5 (w1.heap.size) (.cells #[.int .i64 (zp C.ts k).kind,.string ⟨(zp C.ts k).text.toArray⟩,.int .i64 (zp C.ts k).num,.int .i64 (zp C.ts k).pos] 85):=BL.grown wg hg om
 have hl1_5:=bl1_5.lt
 clear bl0_4 bl1_4 p4 hg
 have ⟨⟨ne13,nf13⟩,⟨ne14,nf14⟩,⟨ne15,nf15⟩⟩:NN C.b w5.heap.size∧NN w.heap.size w5.heap.size∧NN w1.heap.size w5.heap.size:=om
 go_wp2_with fail
 refine (ih.at.wtype false (k+1+1) _ wg (fun hx=>zk HO ((zk HR).symm.trans (by simp only [yG,ub,ef c40,ef c38,et c91,Bool.true_eq_false,Bool.false_eq_true,et c93,hx])))).mono ?_
 rintro e w6 hp
 rcases hp with ⟨kd6,tx6,nm6,ps6,kids6,s6,k6,ao6,cp6,hq,rfl,hrow,p6,hg⟩ | ⟨pb,rule,hq,rfl,hg⟩
 rotate_left
 (exact ⟨rfl,zs (by rw [←zk HR];simp only [yG,ub,ef c40,ef c38,et c91,Bool.true_eq_false,Bool.false_eq_true,et c93,hq]) (zl wg hg)⟩)
 have hz6:=hg.size
 (try simp at hz6)
 have G6:w.grownBy w6 (some C.b):=zl wg hg
 have bl0_6:BL w6 (w.heap.size) (yA):=BL.grown wg hg om
 have hl0_6:=bl0_6.lt
 have bl1_6:BL w6 (w1.heap.size) (.cells #[.int .i64 (zp C.ts k).kind,.string ⟨(zp C.ts k).text.toArray⟩,.int .i64 (zp C.ts k).num,.int .i64 (zp C.ts k).pos] 85):=BL.grown wg hg om
 have hl1_6:=bl1_6.lt
 have zc1_6:=bl1_6.cell
 clear bl0_5 bl1_5 p5
 obtain ⟨lo6,hlo6,row6⟩:=hrow.named
 (try simp at hlo6)
 have HQ6:=zm hq
 clear hrow hq hg
 have ⟨⟨ne16,nf16⟩,⟨ne17,nf17⟩,⟨ne18,nf18⟩⟩:NN C.b w6.heap.size∧NN w.heap.size w6.heap.size∧NN w1.heap.size w6.heap.size:=om
 go_wp2
 go_region_law (first | (have hbx:=bx;have hlenj:l7.length≤1000000:=(by have h1:=yq C.ts n (.braced .expr) false k6 l7 s7 k7 (zk HQ7);have h2:=ok.few;have h3:=p7.kl;simp only [st,bnd] at h1;omega);refine gQ rfl (.tmp 58) (.tmp 62) rfl (lo:=(w.heap.size+1)) (g1:=w6.heap.size+1) (u:=lo6) (v:=w6.heap.size) (A:=lo7) (B:=w7.heap.size) (t:=.mk kd6 tx6 nm6 ps6 kids6) (cur:=#[.int .i64 kd6,.string ⟨tx6.toArray⟩,.int .i64 nm6,.int .i64 ps6,.string ⟨#[]⟩,.int .i64 0,.slice ao6 kids6.length cp6]) (l:=l7) zH zA rfl ((Nd.mk (kd:=kd6) (tx:=tx6) (nm:=nm6) (ps:=ps6) row6).ag zB) zH (zq.ag row7 zB lr lr) hlenj oz oz oz oz oz oz oz oz ?_;intro g8 cp8 w8 hrw8 hgA hat8 hgl8;have hob:∀ x,(Value.slice (some ⟨w6.heap.size+1,0,none⟩) 1 1).ownBlock=some x→x=w6.heap.size+1:=(fun x hx=>by simp only [Value.ownBlock,Option.some.injEq] at hx;omega);have hz8:=hgA.size;(try simp at hz8);(try simp at hat8);have G8:w.grownBy w8 (some C.b):=yP zC hgA (fun x hx=>by have:=hob x hx;omega);have p8:=PS.own (C:=C) (k:=k7) (h:=false) zF ok hgA (fun x hx=>by have:=hob x hx;omega);have bl0_8:BL w8 (w.heap.size) (yA):=BL.own zA hgA (fun e=>by have:=hob _ e.symm;omega);have hl0_8:=bl0_8.lt;have zc0_8:=bl0_8.cell;have fz0_8:=bl0_8.frozen;have bl1_8:BL w8 (w1.heap.size) (.cells #[.int .i64 (zp C.ts k).kind,.string ⟨(zp C.ts k).text.toArray⟩,.int .i64 (zp C.ts k).num,.int .i64 (zp C.ts k).pos] 85):=BL.own zA hgA (fun e=>by have:=hob _ e.symm;omega);have hl1_8:=bl1_8.lt;have zc1_8:=bl1_8.cell;have fz1_8:=bl1_8.frozen;have bl2_8:BL w8 (w6.heap.size) (.cells #[.int .i64 kd6,.string ⟨tx6.toArray⟩,.int .i64 nm6,.int .i64 ps6,.string ⟨#[]⟩,.int .i64 0,.slice ao6 kids6.length cp6] 25):=BL.own zA hgA (fun e=>by have:=hob _ e.symm;omega);have hl2_8:=bl2_8.lt;have zc2_8:=bl2_8.cell;have fz2_8:=bl2_8.frozen;clear p7 hgA hob;have nz0:¬w.heap.size=w8.heap.size:=om;have ny0:¬w8.heap.size=w.heap.size:=om;have nz1:¬w1.heap.size=w8.heap.size:=om;have ny1:¬w8.heap.size=w1.heap.size:=om;have nz2:¬w6.heap.size=w8.heap.size:=om;have ny2:¬w8.heap.size=w6.heap.size:=om) | (have hlenj:l7.length≤1000000:=(by have h1:=yq C.ts n (.braced .expr) false k6 l7 s7 k7 (zk HQ7);have h2:=ok.few;have h3:=p7.kl;simp only [st,bnd] at h1;omega);refine gQ rfl (.tmp 58) (.tmp 62) rfl (lo:=(w.heap.size+1)) (g1:=w7.heap.size) (u:=lo6) (v:=w6.heap.size) (A:=lo7) (B:=w7.heap.size) (t:=.mk kd6 tx6 nm6 ps6 kids6) (cur:=#[.int .i64 kd6,.string ⟨tx6.toArray⟩,.int .i64 nm6,.int .i64 ps6,.string ⟨#[]⟩,.int .i64 0,.slice ao6 kids6.length cp6]) (l:=l7) zH zA rfl ((Nd.mk (kd:=kd6) (tx:=tx6) (nm:=nm6) (ps:=ps6) row6).ag zB) zH (zq.ag row7 zB lr lr) hlenj oz oz oz oz oz oz oz oz ?_;intro g8 cp8 w8 hrw8 hgA hat8 hgl8;have hob:∀ x,(Value.slice (some ⟨w7.heap.size,0,none⟩) 1 1).ownBlock=some x→x=w7.heap.size:=(fun x hx=>by simp only [Value.ownBlock,Option.some.injEq] at hx;omega);have hz8:=hgA.size;(try simp at hz8);(try simp at hat8);have G8:w.grownBy w8 (some C.b):=yP zC hgA (fun x hx=>by have:=hob x hx;omega);have p8:=PS.own (C:=C) (k:=k7) (h:=false) zF ok hgA (fun x hx=>by have:=hob x hx;omega);have bl0_8:BL w8 (w.heap.size) (yA):=BL.own zA hgA (fun e=>by have:=hob _ e.symm;omega);have hl0_8:=bl0_8.lt;have zc0_8:=bl0_8.cell;have fz0_8:=bl0_8.frozen;have bl1_8:BL w8 (w1.heap.size) (.cells #[.int .i64 (zp C.ts k).kind,.string ⟨(zp C.ts k).text.toArray⟩,.int .i64 (zp C.ts k).num,.int .i64 (zp C.ts k).pos] 85):=BL.own zA hgA (fun e=>by have:=hob _ e.symm;omega);have hl1_8:=bl1_8.lt;have zc1_8:=bl1_8.cell;have fz1_8:=bl1_8.frozen;have bl2_8:BL w8 (w6.heap.size) (.cells #[.int .i64 kd6,.string ⟨tx6.toArray⟩,.int .i64 nm6,.int .i64 ps6,.string ⟨#[]⟩,.int .i64 0,.slice ao6 kids6.length cp6] 25):=BL.own zA hgA (fun e=>by have:=hob _ e.symm;omega);have hl2_8:=bl2_8.lt;have zc2_8:=bl2_8.cell;have fz2_8:=bl2_8.frozen;clear p7 hgA hob;have nz0:¬w.heap.size=w8.heap.size:=om;have ny0:¬w8.heap.size=w.heap.size:=om;have nz1:¬w1.heap.size=w8.heap.size:=om;have ny1:¬w8.heap.size=w1.heap.size:=om;have nz2:¬w6.heap.size=w8.heap.size:=om;have ny2:¬w8.heap.size=w6.heap.size:=om) | (go_simp;go_at_call 165;refine (ih.at.bracedE false k6 _ zF (fun hx=>zk HO ((zk HR).symm.trans (by simp only [yG,ub,ef c40,ef c38,et c91,Bool.true_eq_false,Bool.false_eq_true,et c93,zk HQ6,hx])))).mono ?_;rintro e w7 hp;rcases hp with ⟨l7,s7,k7,ao7,cp7,hq,rfl,hrow,p7,hg⟩ | ⟨pb,rule,hq,rfl,hg⟩;rotate_left;(exact ⟨rfl,zs (by rw [←zk HR];simp only [yG,ub,ef c40,ef c38,et c91,Bool.true_eq_false,Bool.false_eq_true,et c93,zk HQ6,hq]) (zl zC hg)⟩);(try ((refine_lift have bx:BL w7 (w6.heap.size+1) (.cells #[.int .i64 kd6,.string ⟨tx6.toArray⟩,.int .i64 nm6,.int .i64 ps6,.string ⟨#[]⟩,.int .i64 0,.slice ao6 kids6.length cp6] 25):=?_;?_);rotate_left;(focus ((refine BL.grown ?_ hg ?_);(focus (((repeat (first | with_reducible assumption | ((with_reducible apply BL.put7);(with_reducible assumption);rfl) | ((with_reducible apply BL.o5);(with_reducible assumption);rfl) | with_reducible refine BL.drew ?_ | (with_reducible refine BL.new ?_;(first | omega | (simp <;> omega))) | with_reducible refine BL.alloc ?_ _ | (with_reducible refine BL.set ?_ _ ?_;rotate_left;(first | omega | (simp <;> omega))) | ((with_reducible apply BL.mF);(with_reducible assumption);(first | rfl | simp)))));done));(focus ((first | omega | (simp <;> omega));done))));have hlx:=bx.lt;have zcx:=bx.cell));have hz7:=hg.size;(try simp at hz7);have G7:w.grownBy w7 (some C.b):=zl zC hg;replace row6:=zq.ag row6 (Ag.grown zB hg oz oz) lr lr;have bl0_7:BL w7 (w.heap.size) (yA):=BL.grown zA hg oz;have hl0_7:=bl0_7.lt;have zc0_7:=bl0_7.cell;have fz0_7:=bl0_7.frozen;have bl1_7:BL w7 (w1.heap.size) (.cells #[.int .i64 (zp C.ts k).kind,.string ⟨(zp C.ts k).text.toArray⟩,.int .i64 (zp C.ts k).num,.int .i64 (zp C.ts k).pos] 85):=BL.grown zA hg oz;have hl1_7:=bl1_7.lt;have zc1_7:=bl1_7.cell;have fz1_7:=bl1_7.frozen;have bl2_7:BL w7 (w6.heap.size) (.cells #[.int .i64 kd6,.string ⟨tx6.toArray⟩,.int .i64 nm6,.int .i64 ps6,.string ⟨#[]⟩,.int .i64 0,.slice ao6 kids6.length cp6] 25):=BL.grown zA hg oz;have hl2_7:=bl2_7.lt;have zc2_7:=bl2_7.cell;have fz2_7:=bl2_7.frozen;clear bl0_6;clear bl1_6 zc1_6;clear p6;obtain ⟨lo7,hlo7,row7⟩:=hrow.named;(try simp at hlo7);have HQ7:=zm hq;clear hrow hq;clear hg;have ne19:¬C.b=w7.heap.size:=om;have nf19:¬w7.heap.size=C.b:=om;have ne20:¬w.heap.size=w7.heap.size:=om;have nf20:¬w7.heap.size=w.heap.size:=om;have ne21:¬w1.heap.size=w7.heap.size:=om;have nf21:¬w7.heap.size=w1.heap.size:=om;have ne22:¬w6.heap.size=w7.heap.size:=om;have nf22:¬w7.heap.size=w6.heap.size:=om))
 all_goals
  go_wp2
  refine bodyPost_ret (v:=.agg #[.int .i64 50,.string ⟨#[]⟩,.int .i64 0,.int .i64 (zp C.ts k).pos,.string ⟨#[]⟩,.int .i64 0,.slice (some ⟨g8,0,none⟩) (l7.length+1) cp8]) (by simp [results,Tryz.results155,go_sem, *]) rfl (yB (hi:=(World.heap _).size) (s:=0) (k':=k7) (tx:=[]) (kids:=(.mk kd6 tx6 nm6 ps6 kids6::l7))  (by rw [←zk HR];simp only [yG,ub,ef c40,ef c38,et c91,Bool.true_eq_false,Bool.false_eq_true,et c93,zk HQ6,zk HQ7]) (zq.ag (hrw8 _ sq (Ag.one (yr zu oz)) (yr zu oz) (yr zu oz)) (Ag.refl _ _ _) om lr) om ?_ ?_)
  ·exact yv wg ok oz
  ·exact yw wg oz
end Go.Proofs.YtgbjpnnockoomaaGreatDoor
