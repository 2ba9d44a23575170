import Derived.Test.YtgbjpnnockoomaaGreatDoorQg
import Derived.Test.YtgbjpnnockoomaaGreatDoorParB
import Derived.Test.YtgbjpnnockoomaaGreatDoorSteps
set_option linter.unusedVariables false
set_option linter.unusedSimpArgs false
set_option maxHeartbeats 4000000
set_option maxRecDepth 100000
namespace Go.Proofs.YtgbjpnnockoomaaGreatDoor
open Go.RowKit Lx Px
theorem mark_P_w (C:Ctx) (ok:C.Ok) (n:Nat) (ih:All C n):∀ (h:Bool) (k:Nat) (w:World),PS w C k h→(yb C.ts k [[40]]=true)→run C.ts (n+1) .markOperand h k≠.out→Calls Tryz.prog 155 #[.pointer (some ⟨C.b,0,none⟩)] w (iV C w.heap.size (run C.ts (n+1) .markOperand h k) h w):=by
 intro h k w p c40 hout
 have hr:run C.ts (n+1) .markOperand h k=yG C.ts (run C.ts n) h k:=rfl
 rw [hr] at hout ⊢
 clear hr
 generalize hR:yG C.ts (run C.ts n) h k=r0 at hout ⊢
 have hbl:=p.lt
 have G0:=zo w (some C.b)
 have HR:=zm hR
 clear hR
 have HO:=zm hout
 clear hout
 go_enter Tryz.func155,Tryz.ntmps155
 go_wp2_with fail
 refine qc w ok k h (zy C ok k h _ (zw wg)) (zw wg) (yD wg) fun w1 p1 hg hz1 G1=>?_
 (try simp at hz1)
 have bl0_1:BL w1 (w.heap.size) (yA):=BL.grown (yN om) hg om
 clear hg
 have nf1:¬w.heap.size=C.b:=om
 go_wp2_with fail
 refine (yU C ok k h _ [40] (zw wg) c40).mono ?_
 rintro e w2 ⟨rfl,p2,hg⟩
 have hz2:=hg.size
 (try simp at hz2)
 have G2:w.grownBy w2 (some C.b):=zl (yD wg) hg
 have bl0_2:BL w2 (w.heap.size) (yA):=BL.grown (yS wg) hg om
 have hl0_2:=bl0_2.lt
 clear bl0_1 p1 hg
 go_wp2_with fail
 refine (iT C ok 126 #[.pointer (some ⟨C.b,0,none⟩)] #[] uI (run C.ts n .expr false (k+1)) false h (k+1) _ wg (fun w0 _ q0=>ih.at.expr false (k+1) w0 q0 (fun hx=>zk HO ((zk HR).symm.trans (by simp only [yG,ub,et c40,Bool.true_eq_false,Bool.false_eq_true,hx]))))).mono ?_
 rintro e w3 hp
 rcases hp with ⟨kd3,tx3,nm3,ps3,kids3,s3,k3,ao3,cp3,hq,rfl,hrow,p3,hg⟩ | ⟨pb,rule,hq,rfl,hg⟩
 rotate_left
 (exact ⟨rfl,zs (by rw [←zk HR];simp only [yG,ub,et c40,Bool.true_eq_false,Bool.false_eq_true,hq]) (zl wg hg)⟩)
 have G3:w.grownBy w3 (some C.b):=zl wg hg
 have bl0_3:BL w3 (w.heap.size) (yA):=BL.grown wg hg om
 have hl0_3:=bl0_3.lt
 clear bl0_2 p2
 obtain ⟨lo3,hlo3,row3⟩:=hrow.named
 (try simp at hlo3)
 have HQ3:=zm hq
 clear hrow hq hg
 have nf7:¬w3.heap.size=C.b:=om
 by_cases c41:yb C.ts k3 [[41]]=true
 rotate_left
 ·skip
  go_wp2_with fail
  refine (yX C ok k3 h _ ⟨#[111,112,101,114,97,110,100]⟩ [41] (zw wg) (Bool.eq_false_iff.2 c41)).mono ?_
  rintro e w4 ⟨rfl,hgq⟩
  exact ⟨rfl,zs (by rw [←zk HR];simp only [yG,ub,et c40,Bool.true_eq_false,Bool.false_eq_true,zk HQ3,ef c41]) (zl (yD wg) (zn hgq))⟩
 go_wp2_with fail
 refine (yJ C ok k3 h _ ⟨#[111,112,101,114,97,110,100]⟩ [41] (zw wg) c41).mono ?_
 rintro e w4 ⟨rfl,p4,hg⟩
 have hz4:=hg.size
 (try simp at hz4)
 have G4:w.grownBy w4 (some C.b):=zl (yD wg) hg
 replace row3:=zq.ag row3 (Ag.grown (yQ zu sq) hg sq om) lr lr
 have bl0_4:BL w4 (w.heap.size) (yA):=BL.grown (yS wg) hg om
 have zc0_4:=bl0_4.cell
 have fz0_4:=bl0_4.frozen
 have bl2_4:BL w4 (w3.heap.size) (yE kd3 ⟨tx3.toArray⟩ nm3 ps3 ao3 kids3.length cp3):=BL.grown (yN om) hg om
 have zc2_4:=bl2_4.cell
 clear bl0_3 p3 hg
 go_wp2
 refine bodyPost_ret (v:=.agg #[.int .i64 kd3,.string ⟨tx3.toArray⟩,.int .i64 nm3,.int .i64 ps3,.string ⟨#[]⟩,.int .i64 0,.slice ao3 kids3.length cp3]) (by simp [results,Tryz.results155,go_sem, *]) rfl (yB (hi:=w3.heap.size) (s:=0) (k':=k3+1) (tx:=tx3) (kids:=kids3)  (by rw [←zk HR];simp only [yG,ub,et c40,Bool.true_eq_false,Bool.false_eq_true,zk HQ3,et c41]) (row3.ag (yr zu oz) om lr) sq ?_ ?_)
 ·exact yv wg ok oz
 ·exact yw wg oz
open Go.RowKit Lx Px
theorem mark_A_w (C:Ctx) (ok:C.Ok) (n:Nat) (ih:All C n):∀ (h:Bool) (k:Nat) (w:World),PS w C k h→(¬yb C.ts k [[40]]=true)→(h=false)→(yb C.ts k [[38]]=true)→run C.ts (n+1) .markOperand h k≠.out→Calls Tryz.prog 155 #[.pointer (some ⟨C.b,0,none⟩)] w (iV C w.heap.size (run C.ts (n+1) .markOperand h k) h w):=by
 intro h k w p c40 hh c38 hout
 subst hh
 have hr:run C.ts (n+1) .markOperand false k=yG C.ts (run C.ts n) false k:=rfl
 rw [hr] at hout ⊢
 clear hr
 generalize hR:yG C.ts (run C.ts n) false k=r0 at hout ⊢
 have hbl:=p.lt
 have htb:=ok.lt
 have htf0:=dw
 have htf1:=dL
 have htf3:=bT
 have hmf:=ig
 have G0:=zo w (some C.b)
 have HR:=zm hR
 clear hR
 have HO:=zm hout
 clear hout
 go_enter Tryz.func155,Tryz.ntmps155
 go_wp2_with fail
 refine qc w ok k false (zy C ok k false _ (zw wg)) (zw wg) (yD wg) fun w1 p1 hg hz1 G1=>?_
 (try simp at hz1)
 have bl0_1:BL w1 (w.heap.size) (yA):=BL.grown (yN om) hg om
 have hl0_1:=bl0_1.lt
 clear hg
 have ⟨⟨ne1,nf1⟩,⟨ne2,nf2⟩,⟨ne3,nf3⟩⟩:NN C.b w.heap.size∧NN C.b w1.heap.size∧NN w.heap.size w1.heap.size:=om
 go_wp2_with fail
 refine qc w ok k false (yV C ok k false _ [40] (zw wg) (Bool.eq_false_iff.2 c40)) (zw wg) (yD wg) fun w2 p2 hg hz2 G2=>?_
 (try simp at hz2)
 have bl0_2:BL w2 (w.heap.size) (yA):=BL.grown (yS wg) hg om
 have hl0_2:=bl0_2.lt
 have bl1_2:BL w2 (w1.heap.size) (.cells #[.int .i64 (zp C.ts k).kind,.string ⟨(zp C.ts k).text.toArray⟩,.int .i64 (zp C.ts k).num,.int .i64 (zp C.ts k).pos] 85):=BL.grown (yN om) hg om
 have hl1_2:=bl1_2.lt
 clear bl0_1 p1 hg
 have ⟨⟨ne4,nf4⟩,⟨ne5,nf5⟩,⟨ne6,nf6⟩⟩:NN C.b w2.heap.size∧NN w.heap.size w2.heap.size∧NN w1.heap.size w2.heap.size:=om
 have hin2:w2.cell? ⟨C.b,2,none⟩=some (.bool false):=zv p2.blk 2
 go_wp2_with fail
 refine (yU C ok k false _ [38] wg c38).mono ?_
 rintro e w3 ⟨rfl,p3,hg⟩
 have hz3:=hg.size
 (try simp at hz3)
 have G3:w.grownBy w3 (some C.b):=zl wg hg
 have bl0_3:BL w3 (w.heap.size) (yA):=BL.grown wg hg om
 have hl0_3:=bl0_3.lt
 have bl1_3:BL w3 (w1.heap.size) (.cells #[.int .i64 (zp C.ts k).kind,.string ⟨(zp C.ts k).text.toArray⟩,.int .i64 (zp C.ts k).num,.int .i64 (zp C.ts k).pos] 85):=BL.grown wg hg om
 have hl1_3:=bl1_3.lt
 have zc1_3:=bl1_3.cell
 clear bl0_2 bl1_2 p2 hg
 have ⟨⟨ne7,nf7⟩,⟨ne8,nf8⟩,⟨ne9,nf9⟩⟩:NN C.b w3.heap.size∧NN w.heap.size w3.heap.size∧NN w1.heap.size w3.heap.size:=om
 clear hin2
 go_wp2
 go_region_law (first | (go_simp;go_at_call 55;refine (name_any C ok (k+1) false _ ⟨#[111,112,101,114,97,110,100]⟩ (by first | with_reducible exact pw1 wg | with_reducible exact pw1 (zw wg))).mono ?_;rintro e w4 hp;rcases hp with ⟨hcn,rfl,p4,hg⟩ | ⟨hcn,rfl,hgq⟩;rotate_left;(exact ⟨rfl,zs (by rw [←zk HR];simp only [yG,ub,ef c40,et c38,Bool.true_eq_false,Bool.false_eq_true,ef hcn]) (zl zX (zn hgq))⟩);have Hcn:=zm hcn;clear hcn;(try ((refine_lift have bx:BL w4 (w3.heap.size) (.cells #[.int .i64 0,.string ⟨#[]⟩,.int .i64 0,.int .i64 0,.string ⟨#[]⟩,.int .i64 0,.slice none 0 0] 25):=?_;?_);rotate_left;(focus ((refine BL.grown ?_ hg ?_);(focus ((exact bw1 (yN om));done));(focus ((first | omega | (simp <;> omega));done))));have hlx:=bx.lt;have zcx:=bx.cell;have fzx:=bx.frozen));have hz4:=hg.size;(try simp at hz4);have G4:w.grownBy w4 (some C.b):=zl zX hg;have bl0_4:BL w4 (w.heap.size) (yA):=BL.grown zY hg om;have hl0_4:=bl0_4.lt;have zc0_4:=bl0_4.cell;have fz0_4:=bl0_4.frozen;have bl1_4:BL w4 (w1.heap.size) (.cells #[.int .i64 (zp C.ts k).kind,.string ⟨(zp C.ts k).text.toArray⟩,.int .i64 (zp C.ts k).num,.int .i64 (zp C.ts k).pos] 85):=BL.grown zY hg om;have hl1_4:=bl1_4.lt;have zc1_4:=bl1_4.cell;have fz1_4:=bl1_4.frozen;clear bl0_3;clear bl1_3 zc1_3;clear p3;clear hg;have ne10:¬C.b=w4.heap.size:=om;have nf10:¬w4.heap.size=C.b:=om;have ne11:¬w.heap.size=w4.heap.size:=om;have nf11:¬w4.heap.size=w.heap.size:=om;have ne12:¬w1.heap.size=w4.heap.size:=om;have nf12:¬w4.heap.size=w1.heap.size:=om))
 all_goals
  first
  |  (have hbx:=bx
      have nx1:¬w3.heap.size=w4.heap.size:=om
      have nx2:¬w4.heap.size=w3.heap.size:=om
      go_wp2_with fail
      refine (ih.at.bracedI false (k+1+1) _ (yv wg ok oz) (fun hx=>zk HO ((zk HR).symm.trans (by simp only [yG,ub,ef c40,et c38,Bool.true_eq_false,Bool.false_eq_true,et (zk Hcn),hx])))).mono ?_
      rintro e w5 hp
      rcases hp with ⟨l5,s5,k5,ao5,cp5,hq,rfl,hrow,p5,hg⟩ | ⟨pb,rule,hq,rfl,hg⟩
      rotate_left
      (exact ⟨rfl,zs (by rw [←zk HR];simp only [yG,ub,ef c40,et c38,Bool.true_eq_false,Bool.false_eq_true,et (zk Hcn),hq]) (zl (yw wg oz) hg)⟩)
      have hz5:=hg.size
      (try simp at hz5)
      have G5:w.grownBy w5 (some C.b):=zl (yw wg oz) hg
      have bl0_5:BL w5 (w.heap.size) (yA):=BL.grown (bw7 wg oz) hg om
      have hl0_5:=bl0_5.lt
      have zc0_5:=bl0_5.cell
      have fz0_5:=bl0_5.frozen
      have bl1_5:BL w5 (w1.heap.size) (.cells #[.int .i64 (zp C.ts k).kind,.string ⟨(zp C.ts k).text.toArray⟩,.int .i64 (zp C.ts k).num,.int .i64 (zp C.ts k).pos] 85):=BL.grown (bw7 wg oz) hg om
      have hl1_5:=bl1_5.lt
      have bl2_5:BL w5 (w3.heap.size) (yE 49 ⟨(zp C.ts (k+1)).text.toArray⟩ 0 (zp C.ts k).pos none 0 0):=BL.grown zT hg om
      have hl2_5:=bl2_5.lt
      have zc2_5:=bl2_5.cell
      have fz2_5:=bl2_5.frozen
      clear bl0_4 zc0_4 fz0_4 bl1_4 zc1_4 fz1_4 p4
      obtain ⟨lo5,hlo5,row5⟩:=hrow.named
      (try simp at hlo5)
      have HQ5:=zm hq
      clear hrow hq hg
      have ⟨⟨ne13,nf13⟩,⟨ne14,nf14⟩,⟨ne15,nf15⟩,⟨ne16,nf16⟩⟩:NN C.b w5.heap.size∧NN w.heap.size w5.heap.size∧NN w1.heap.size w5.heap.size∧NN w3.heap.size w5.heap.size:=om
      go_wp2
      refine bodyPost_ret (v:=.agg #[.int .i64 49,.string ⟨(zp C.ts (k+1)).text.toArray⟩,.int .i64 0,.int .i64 (zp C.ts k).pos,.string ⟨#[]⟩,.int .i64 0,.slice ao5 l5.length cp5]) (by simp [results,Tryz.results155,go_sem, *]) rfl (yB (hi:=w5.heap.size) (s:=0) (k':=k5) (tx:=(zp C.ts (k+1)).text) (kids:=l5)  (by rw [←zk HR];simp only [yG,ub,ef c40,et c38,Bool.true_eq_false,Bool.false_eq_true,et (zk Hcn),zk HQ5]) (row5.ag (yr (aw3 zu sq) oz) om lr) sq ?_ ?_)
      ·exact yv (pw3 wg ok sq) ok oz
      ·exact yw (gw3 wg sq) oz
      done)
  |  (skip
      go_wp2_with fail
      refine (ih.at.bracedI false (k+1+1) _ (zw wg) (fun hx=>zk HO ((zk HR).symm.trans (by simp only [yG,ub,ef c40,et c38,Bool.true_eq_false,Bool.false_eq_true,et (zk Hcn),hx])))).mono ?_
      rintro e w5 hp
      rcases hp with ⟨l5,s5,k5,ao5,cp5,hq,rfl,hrow,p5,hg⟩ | ⟨pb,rule,hq,rfl,hg⟩
      rotate_left
      (exact ⟨rfl,zs (by rw [←zk HR];simp only [yG,ub,ef c40,et c38,Bool.true_eq_false,Bool.false_eq_true,et (zk Hcn),hq]) (zl (yD wg) hg)⟩)
      have hz5:=hg.size
      (try simp at hz5)
      have G5:w.grownBy w5 (some C.b):=zl (yD wg) hg
      have bl0_5:BL w5 (w.heap.size) (yA):=BL.grown (yS wg) hg om
      have hl0_5:=bl0_5.lt
      have zc0_5:=bl0_5.cell
      have fz0_5:=bl0_5.frozen
      have bl1_5:BL w5 (w1.heap.size) (.cells #[.int .i64 (zp C.ts k).kind,.string ⟨(zp C.ts k).text.toArray⟩,.int .i64 (zp C.ts k).num,.int .i64 (zp C.ts k).pos] 85):=BL.grown (yS wg) hg om
      have hl1_5:=bl1_5.lt
      have bl2_5:BL w5 (w4.heap.size) (yE 49 ⟨(zp C.ts (k+1)).text.toArray⟩ 0 (zp C.ts k).pos none 0 0):=BL.grown (yN om) hg om
      have hl2_5:=bl2_5.lt
      have zc2_5:=bl2_5.cell
      have fz2_5:=bl2_5.frozen
      clear bl0_4 zc0_4 fz0_4 bl1_4 zc1_4 fz1_4 p4
      obtain ⟨lo5,hlo5,row5⟩:=hrow.named
      (try simp at hlo5)
      have HQ5:=zm hq
      clear hrow hq hg
      have ⟨⟨ne13,nf13⟩,⟨ne14,nf14⟩,⟨ne15,nf15⟩,⟨ne16,nf16⟩⟩:NN C.b w5.heap.size∧NN w.heap.size w5.heap.size∧NN w1.heap.size w5.heap.size∧NN w4.heap.size w5.heap.size:=om
      go_wp2
      refine bodyPost_ret (v:=.agg #[.int .i64 49,.string ⟨(zp C.ts (k+1)).text.toArray⟩,.int .i64 0,.int .i64 (zp C.ts k).pos,.string ⟨#[]⟩,.int .i64 0,.slice ao5 l5.length cp5]) (by simp [results,Tryz.results155,go_sem, *]) rfl (yB (hi:=w5.heap.size) (s:=0) (k':=k5) (tx:=(zp C.ts (k+1)).text) (kids:=l5)  (by rw [←zk HR];simp only [yG,ub,ef c40,et c38,Bool.true_eq_false,Bool.false_eq_true,et (zk Hcn),zk HQ5]) (row5.ag (yr (aw3 zu sq) oz) om lr) sq ?_ ?_)
      ·exact yv (pw3 wg ok sq) ok oz
      ·exact yw (gw3 wg sq) oz
      done)
open Go.RowKit Lx Px
theorem mark_H_w (C:Ctx) (ok:C.Ok) (n:Nat) (ih:All C n):∀ (h:Bool) (k:Nat) (w:World),PS w C k h→(¬yb C.ts k [[40]]=true)→(h=true)→run C.ts (n+1) .markOperand h k≠.out→Calls Tryz.prog 155 #[.pointer (some ⟨C.b,0,none⟩)] w (iV C w.heap.size (run C.ts (n+1) .markOperand h k) h w):=by
 intro h k w p c40 hh hout
 subst hh
 have hr:run C.ts (n+1) .markOperand true k=yG C.ts (run C.ts n) true k:=rfl
 rw [hr] at hout ⊢
 clear hr
 generalize hR:yG C.ts (run C.ts n) true k=r0 at hout ⊢
 have G0:=zo w (some C.b)
 have HR:=zm hR
 clear hR hout
 go_enter Tryz.func155,Tryz.ntmps155
 go_wp2_with fail
 refine qc w ok k true (zy C ok k true _ (zw wg)) (zw wg) (yD wg) fun w1 p1 hg _ G1=>?_
 clear hg
 go_wp2_with fail
 refine qc w ok k true (yV C ok k true _ [40] (zw wg) (Bool.eq_false_iff.2 c40)) (zw wg) (yD wg) fun w2 p2 hg _ G2=>?_
 clear p1 hg
 have hin2:w2.cell? ⟨C.b,2,none⟩=some (.bool true):=zv p2.blk 2
 go_wp2_with fail
 refine (dA C ok k true _ ⟨#[111,112,101,114,97,110,100]⟩ wg).mono ?_
 rintro e w3 ⟨rfl,hgq⟩
 have hg:=zn (r:=some C.b) hgq
 clear hgq
 have G3:w.grownBy w3 (some C.b):=zl wg hg
 clear p2 hg
 go_wp2
 exact yp rfl (zs (by rw [←zk HR];simp only [yG,ub,ef c40,Bool.true_eq_false,Bool.false_eq_true]) wg)
open Go.RowKit Lx Px
theorem mark_N_w (C:Ctx) (ok:C.Ok) (n:Nat) (ih:All C n):∀ (h:Bool) (k:Nat) (w:World),PS w C k h→(¬yb C.ts k [[40]]=true)→(h=false)→(¬yb C.ts k [[38]]=true)→(¬yb C.ts k [[91]]=true)→run C.ts (n+1) .markOperand h k≠.out→Calls Tryz.prog 155 #[.pointer (some ⟨C.b,0,none⟩)] w (iV C w.heap.size (run C.ts (n+1) .markOperand h k) h w):=by
 intro h k w p c40 hh c38 c91 hout
 subst hh
 have hr:run C.ts (n+1) .markOperand false k=yG C.ts (run C.ts n) false k:=rfl
 rw [hr] at hout ⊢
 clear hr
 generalize hR:yG C.ts (run C.ts n) false k=r0 at hout ⊢
 have G0:=zo w (some C.b)
 have HR:=zm hR
 clear hR hout
 go_enter Tryz.func155,Tryz.ntmps155
 go_wp2_with fail
 refine qc w ok k false (zy C ok k false _ (zw wg)) (zw wg) (yD wg) fun w1 p1 hg _ G1=>?_
 clear hg
 go_wp2_with fail
 refine qc w ok k false (yV C ok k false _ [40] (zw wg) (Bool.eq_false_iff.2 c40)) (zw wg) (yD wg) fun w2 p2 hg _ G2=>?_
 clear p1 hg
 have hin2:w2.cell? ⟨C.b,2,none⟩=some (.bool false):=zv p2.blk 2
 go_wp2_with fail
 refine qc w ok k false (yV C ok k false _ [38] wg (Bool.eq_false_iff.2 c38)) wg wg fun w3 p3 hg _ G3=>?_
 clear p2 hg
 have hin3:w3.cell? ⟨C.b,2,none⟩=some (.bool false):=zv p3.blk 2
 go_wp2_with fail
 refine qc w ok k false (yV C ok k false _ [91] wg (Bool.eq_false_iff.2 c91)) wg wg fun w4 p4 hg _ G4=>?_
 clear p3 hg
 go_wp2_with fail
 refine (dA C ok k false _ ⟨#[111,112,101,114,97,110,100]⟩ wg).mono ?_
 rintro e w5 ⟨rfl,hgq⟩
 have hg:=zn (r:=some C.b) hgq
 clear hgq
 have G5:w.grownBy w5 (some C.b):=zl wg hg
 clear p4 hg
 go_wp2
 exact yp rfl (zs (by rw [←zk HR];simp only [yG,ub,ef c40,ef c38,ef c91,Bool.true_eq_false,Bool.false_eq_true]) wg)
open Go.RowKit Lx Px
theorem wtype_w (C:Ctx) (ok:C.Ok) (n:Nat) (ih:All C n):CN C 74 .wtype #[.pointer (some ⟨C.b,0,none⟩)] (n+1):=by
 intro h k w p hout
 have hr:run C.ts (n+1) .wtype h k=bK C.ts (run C.ts n) h k:=rfl
 rw [hr] at hout ⊢
 clear hr
 generalize hR:bK C.ts (run C.ts n) h k=r0 at hout ⊢
 have hbl:=p.lt
 have htb:=ok.lt
 have htf0:=dw
 have htf1:=dL
 have htf3:=bT
 have hmf:=ig
 have G0:=zo w (some C.b)
 have HR:=zm hR
 clear hR
 have HO:=zm hout
 clear hout
 by_cases sint:yI C.ts k=[105,110,116]
 ·skip
  have h6:=zm (dH sint)
  go_enter Tryz.func74,Tryz.ntmps74
  go_wp2_with fail
  refine qc w ok k h (zy C ok k h _ (zw wg)) (zw wg) (yD wg) fun w1 p1 hg hz1 G1=>?_
  (try simp at hz1)
  have bl0_1:BL w1 w.heap.size (yA):=BL.grown (yN om) hg om
  have hl0_1:=bl0_1.lt
  clear hg
  have ⟨⟨ne1,nf1⟩,⟨ne2,nf2⟩,⟨ne3,nf3⟩⟩:NN C.b w.heap.size∧NN C.b w1.heap.size∧NN w.heap.size w1.heap.size:=om
  go_wp2_with fail
  refine qc w ok k h (yc C ok k h _ wg) wg wg fun w2 p2 hg hz2 G2=>?_
  (try simp at hz2)
  have bl0_2:BL w2 w.heap.size (yA):=BL.grown wg hg om
  have hl0_2:=bl0_2.lt
  clear bl0_1 p1 hg
  have ⟨⟨ne4,nf4⟩,⟨ne5,nf5⟩⟩:NN C.b w2.heap.size∧NN w.heap.size w2.heap.size:=om
  go_wp2_with fail
  refine (yR C ok k h _ wg (zk h6)).mono ?_
  rintro e w3 ⟨rfl,p3,hg⟩
  have hz3:=hg.size
  (try simp at hz3)
  have G3:w.grownBy w3 (some C.b):=zl wg hg
  have bl0_3:BL w3 w.heap.size (yA):=BL.grown wg hg om
  have hl0_3:=bl0_3.lt
  have zc0_3:=bl0_3.cell
  have fz0_3:=bl0_3.frozen
  clear bl0_2 p2 hg
  have ⟨⟨ne6,nf6⟩,⟨ne7,nf7⟩⟩:NN C.b w3.heap.size∧NN w.heap.size w3.heap.size:=om
  go_wp2
  refine bodyPost_ret (v:=.agg #[.int .i64 9,.string ⟨#[]⟩,.int .i64 0,.int .i64 (zp C.ts k).pos,.string ⟨#[]⟩,.int .i64 0,.slice none 0 0]) zb rfl (yB (hi:=w3.heap.size) (s:=0) (k':=k+1) (tx:=[]) (kids:=[]) (by rw [←zk HR];simp only [bK,ub,et sint]) (zq.nil _ _ _) sq ?_ ?_)
  ·exact yv wg ok oz
  ·exact yw wg oz
 by_cases sbool:yI C.ts k=[98,111,111,108]
 ·skip
  have h6:=zm (dH sbool)
  have bsint:(yI C.ts k==[105,110,116])=false:=beq_eq_false_iff_ne.2 sint
  go_enter Tryz.func74,Tryz.ntmps74
  go_wp2_with fail
  refine qc w ok k h (zy C ok k h _ (zw wg)) (zw wg) (yD wg) fun w1 p1 hg hz1 G1=>?_
  (try simp at hz1)
  have bl0_1:BL w1 w.heap.size (yA):=BL.grown (yN om) hg om
  have hl0_1:=bl0_1.lt
  clear hg
  have ⟨⟨ne1,nf1⟩,⟨ne2,nf2⟩,⟨ne3,nf3⟩⟩:NN C.b w.heap.size∧NN C.b w1.heap.size∧NN w.heap.size w1.heap.size:=om
  go_wp2_with fail
  refine qc w ok k h (yc C ok k h _ wg) wg wg fun w2 p2 hg hz2 G2=>?_
  (try simp at hz2)
  have bl0_2:BL w2 w.heap.size (yA):=BL.grown wg hg om
  have hl0_2:=bl0_2.lt
  clear bl0_1 p1 hg
  have ⟨⟨ne4,nf4⟩,⟨ne5,nf5⟩⟩:NN C.b w2.heap.size∧NN w.heap.size w2.heap.size:=om
  go_wp2_with fail
  refine (yR C ok k h _ wg (zk h6)).mono ?_
  rintro e w3 ⟨rfl,p3,hg⟩
  have hz3:=hg.size
  (try simp at hz3)
  have G3:w.grownBy w3 (some C.b):=zl wg hg
  have bl0_3:BL w3 w.heap.size (yA):=BL.grown wg hg om
  have hl0_3:=bl0_3.lt
  have zc0_3:=bl0_3.cell
  have fz0_3:=bl0_3.frozen
  clear bl0_2 p2 hg
  have ⟨⟨ne6,nf6⟩,⟨ne7,nf7⟩⟩:NN C.b w3.heap.size∧NN w.heap.size w3.heap.size:=om
  go_wp2
  refine bodyPost_ret (v:=.agg #[.int .i64 10,.string ⟨#[]⟩,.int .i64 0,.int .i64 (zp C.ts k).pos,.string ⟨#[]⟩,.int .i64 0,.slice none 0 0]) zb rfl (yB (hi:=w3.heap.size) (s:=0) (k':=k+1) (tx:=[]) (kids:=[]) (by rw [←zk HR];simp only [bK,ub,ef sint,et sbool]) (zq.nil _ _ _) sq ?_ ?_)
  ·exact yv wg ok oz
  ·exact yw wg oz
 by_cases sstring:yI C.ts k=[115,116,114,105,110,103]
 ·skip
  have h6:=zm (dH sstring)
  have bsint:(yI C.ts k==[105,110,116])=false:=beq_eq_false_iff_ne.2 sint
  have bsbool:(yI C.ts k==[98,111,111,108])=false:=beq_eq_false_iff_ne.2 sbool
  go_enter Tryz.func74,Tryz.ntmps74
  go_wp2_with fail
  refine qc w ok k h (zy C ok k h _ (zw wg)) (zw wg) (yD wg) fun w1 p1 hg hz1 G1=>?_
  (try simp at hz1)
  have bl0_1:BL w1 w.heap.size (yA):=BL.grown (yN om) hg om
  have hl0_1:=bl0_1.lt
  clear hg
  have ⟨⟨ne1,nf1⟩,⟨ne2,nf2⟩,⟨ne3,nf3⟩⟩:NN C.b w.heap.size∧NN C.b w1.heap.size∧NN w.heap.size w1.heap.size:=om
  go_wp2_with fail
  refine qc w ok k h (yc C ok k h _ wg) wg wg fun w2 p2 hg hz2 G2=>?_
  (try simp at hz2)
  have bl0_2:BL w2 w.heap.size (yA):=BL.grown wg hg om
  have hl0_2:=bl0_2.lt
  clear bl0_1 p1 hg
  have ⟨⟨ne4,nf4⟩,⟨ne5,nf5⟩⟩:NN C.b w2.heap.size∧NN w.heap.size w2.heap.size:=om
  go_wp2_with fail
  refine (yR C ok k h _ wg (zk h6)).mono ?_
  rintro e w3 ⟨rfl,p3,hg⟩
  have hz3:=hg.size
  (try simp at hz3)
  have G3:w.grownBy w3 (some C.b):=zl wg hg
  have bl0_3:BL w3 w.heap.size (yA):=BL.grown wg hg om
  have hl0_3:=bl0_3.lt
  have zc0_3:=bl0_3.cell
  have fz0_3:=bl0_3.frozen
  clear bl0_2 p2 hg
  have ⟨⟨ne6,nf6⟩,⟨ne7,nf7⟩⟩:NN C.b w3.heap.size∧NN w.heap.size w3.heap.size:=om
  go_wp2
  refine bodyPost_ret (v:=.agg #[.int .i64 11,.string ⟨#[]⟩,.int .i64 0,.int .i64 (zp C.ts k).pos,.string ⟨#[]⟩,.int .i64 0,.slice none 0 0]) zb rfl (yB (hi:=w3.heap.size) (s:=0) (k':=k+1) (tx:=[]) (kids:=[]) (by rw [←zk HR];simp only [bK,ub,ef sint,ef sbool,et sstring]) (zq.nil _ _ _) sq ?_ ?_)
  ·exact yv wg ok oz
  ·exact yw wg oz
 by_cases sptr:yI C.ts k=[42]
 ·skip
  have h6:=zm (dH sptr)
  have bsint:(yI C.ts k==[105,110,116])=false:=beq_eq_false_iff_ne.2 sint
  have bsbool:(yI C.ts k==[98,111,111,108])=false:=beq_eq_false_iff_ne.2 sbool
  have bsstring:(yI C.ts k==[115,116,114,105,110,103])=false:=beq_eq_false_iff_ne.2 sstring
  go_enter Tryz.func74,Tryz.ntmps74
  go_wp2_with fail
  refine qc w ok k h (zy C ok k h _ (zw wg)) (zw wg) (yD wg) fun w1 p1 hg hz1 G1=>?_
  (try simp at hz1)
  have bl0_1:BL w1 w.heap.size (yA):=BL.grown (yN om) hg om
  have hl0_1:=bl0_1.lt
  clear hg
  have ⟨⟨ne1,nf1⟩,⟨ne2,nf2⟩,⟨ne3,nf3⟩⟩:NN C.b w.heap.size∧NN C.b w1.heap.size∧NN w.heap.size w1.heap.size:=om
  go_wp2_with fail
  refine qc w ok k h (yc C ok k h _ wg) wg wg fun w2 p2 hg hz2 G2=>?_
  (try simp at hz2)
  have bl0_2:BL w2 w.heap.size (yA):=BL.grown wg hg om
  have hl0_2:=bl0_2.lt
  clear bl0_1 p1 hg
  have ⟨⟨ne4,nf4⟩,⟨ne5,nf5⟩⟩:NN C.b w2.heap.size∧NN w.heap.size w2.heap.size:=om
  go_wp2_with fail
  refine (yR C ok k h _ wg (zk h6)).mono ?_
  rintro e w3 ⟨rfl,p3,hg⟩
  have hz3:=hg.size
  (try simp at hz3)
  have G3:w.grownBy w3 (some C.b):=zl wg hg
  have bl0_3:BL w3 w.heap.size (yA):=BL.grown wg hg om
  have hl0_3:=bl0_3.lt
  clear bl0_2 p2 hg
  have ⟨⟨ne6,nf6⟩,⟨ne7,nf7⟩⟩:NN C.b w3.heap.size∧NN w.heap.size w3.heap.size:=om
  by_cases n1:(zp C.ts (k+1)).kind=1
  rotate_left
  ·skip
   go_wp2_with fail
   refine (kH C ok (k+1) h _ ⟨#[116,121,112,101]⟩ wg n1).mono ?_
   rintro e w4 ⟨rfl,hgq⟩
   exact ⟨rfl,zs (by rw [←zk HR];simp only [bK,ub,ef sint,ef sbool,ef sstring,et sptr,ef n1]) (zl wg (zn hgq))⟩
  have Hn1:=zm n1
  clear n1
  go_wp2_with fail
  refine (jB C ok (k+1) h _ ⟨#[116,121,112,101]⟩ wg (zk Hn1)).mono ?_
  rintro e w4 ⟨rfl,p4,hg⟩
  have hz4:=hg.size
  (try simp at hz4)
  have G4:w.grownBy w4 (some C.b):=zl wg hg
  have bl0_4:BL w4 w.heap.size (yA):=BL.grown wg hg om
  have hl0_4:=bl0_4.lt
  have zc0_4:=bl0_4.cell
  have fz0_4:=bl0_4.frozen
  clear bl0_3 p3 hg
  have ⟨⟨ne8,nf8⟩,⟨ne9,nf9⟩⟩:NN C.b w4.heap.size∧NN w.heap.size w4.heap.size:=om
  go_wp2
  refine bodyPost_ret (v:=.agg #[.int .i64 12,.string ⟨(zp C.ts (k+1)).text.toArray⟩,.int .i64 0,.int .i64 (zp C.ts k).pos,.string ⟨#[]⟩,.int .i64 0,.slice none 0 0]) zb rfl (yB (hi:=w4.heap.size) (s:=0) (k':=k+1+1) (tx:=(zp C.ts (k+1)).text) (kids:=[]) (by rw [←zk HR];simp only [bK,ub,ef sint,ef sbool,ef sstring,et sptr,et (zk Hn1)]) (zq.nil _ _ _) sq ?_ ?_)
  ·exact yv wg ok oz
  ·exact yw wg oz
 by_cases sarr:yI C.ts k=[91]
 ·skip
  have h6:=zm (dH sarr)
  have bsint:(yI C.ts k==[105,110,116])=false:=beq_eq_false_iff_ne.2 sint
  have bsbool:(yI C.ts k==[98,111,111,108])=false:=beq_eq_false_iff_ne.2 sbool
  have bsstring:(yI C.ts k==[115,116,114,105,110,103])=false:=beq_eq_false_iff_ne.2 sstring
  have bsptr:(yI C.ts k==[42])=false:=beq_eq_false_iff_ne.2 sptr
  go_enter Tryz.func74,Tryz.ntmps74
  go_wp2_with fail
  refine qc w ok k h (zy C ok k h _ (zw wg)) (zw wg) (yD wg) fun w1 p1 hg hz1 G1=>?_
  (try simp at hz1)
  have bl0_1:BL w1 w.heap.size (yA):=BL.grown (yN om) hg om
  have hl0_1:=bl0_1.lt
  clear hg
  have ⟨⟨ne1,nf1⟩,⟨ne2,nf2⟩,⟨ne3,nf3⟩⟩:NN C.b w.heap.size∧NN C.b w1.heap.size∧NN w.heap.size w1.heap.size:=om
  go_wp2_with fail
  refine qc w ok k h (yc C ok k h _ wg) wg wg fun w2 p2 hg hz2 G2=>?_
  (try simp at hz2)
  have bl0_2:BL w2 w.heap.size (yA):=BL.grown wg hg om
  have hl0_2:=bl0_2.lt
  clear bl0_1 p1 hg
  have ⟨⟨ne4,nf4⟩,⟨ne5,nf5⟩⟩:NN C.b w2.heap.size∧NN w.heap.size w2.heap.size:=om
  go_wp2_with fail
  refine (yR C ok k h _ wg (zk h6)).mono ?_
  rintro e w3 ⟨rfl,p3,hg⟩
  have hz3:=hg.size
  (try simp at hz3)
  have G3:w.grownBy w3 (some C.b):=zl wg hg
  have bl0_3:BL w3 w.heap.size (yA):=BL.grown wg hg om
  have hl0_3:=bl0_3.lt
  clear bl0_2 p2 hg
  have ⟨⟨ne6,nf6⟩,⟨ne7,nf7⟩⟩:NN C.b w3.heap.size∧NN w.heap.size w3.heap.size:=om
  by_cases c1:yb C.ts (k+1) [[93]]=true
  rotate_left
  ·skip
   go_wp2_with fail
   refine (yX C ok (k+1) h _ ⟨#[116,121,112,101]⟩ [93] wg (Bool.eq_false_iff.2 c1)).mono ?_
   rintro e w4 ⟨rfl,hgq⟩
   exact ⟨rfl,zs (by rw [←zk HR];simp only [bK,ub,ef sint,ef sbool,ef sstring,ef sptr,et sarr,ef c1]) (zl wg (zn hgq))⟩
  go_wp2_with fail
  refine (yJ C ok (k+1) h _ ⟨#[116,121,112,101]⟩ [93] wg c1).mono ?_
  rintro e w4 ⟨rfl,p4,hg⟩
  have hz4:=hg.size
  (try simp at hz4)
  have G4:w.grownBy w4 (some C.b):=zl wg hg
  have bl0_4:BL w4 w.heap.size (yA):=BL.grown wg hg om
  have hl0_4:=bl0_4.lt
  clear bl0_3 p3 hg
  have ⟨⟨ne8,nf8⟩,⟨ne9,nf9⟩⟩:NN C.b w4.heap.size∧NN w.heap.size w4.heap.size:=om
  go_wp2_with fail
  refine (ih.at.wtype h (k+1+1) _ wg (fun hx=>zk HO ((zk HR).symm.trans (by simp only [bK,ub,ef sint,ef sbool,ef sstring,ef sptr,et sarr,et c1,hx])))).mono ?_
  rintro e w5 hp
  rcases hp with ⟨kd5,tx5,nm5,ps5,kids5,s5,k5,ao5,cp5,hq,rfl,hrow,p5,hg⟩ | ⟨pb,rule,hq,rfl,hg⟩
  rotate_left
  (exact ⟨rfl,zs (by rw [←zk HR];simp only [bK,ub,ef sint,ef sbool,ef sstring,ef sptr,et sarr,et c1,hq]) (zl wg hg)⟩)
  have hz5:=hg.size
  (try simp at hz5)
  have G5:w.grownBy w5 (some C.b):=zl wg hg
  have bl0_5:BL w5 w.heap.size (yA):=BL.grown wg hg om
  have hl0_5:=bl0_5.lt
  have zc0_5:=bl0_5.cell
  have fz0_5:=bl0_5.frozen
  clear bl0_4 p4
  obtain ⟨lo5,hlo5,row5⟩:=hrow.named
  (try simp at hlo5)
  have HQ5:=zm hq
  clear hrow hq hg
  have ⟨⟨ne10,nf10⟩,⟨ne11,nf11⟩⟩:NN C.b w5.heap.size∧NN w.heap.size w5.heap.size:=om
  go_wp2
  refine bodyPost_ret (v:=.agg #[.int .i64 13,.string ⟨#[]⟩,.int .i64 0,.int .i64 (zp C.ts k).pos,.string ⟨#[]⟩,.int .i64 0,.slice (some ⟨w5.heap.size,0,none⟩) 1 1]) zb rfl (yB (hi:=w5.heap.size+1) (s:=0) (k':=k5) (tx:=[]) (kids:=[.mk kd5 tx5 nm5 ps5 kids5]) (by rw [←zk HR];simp only [bK,ub,ef sint,ef sbool,ef sstring,ef sptr,et sarr,et c1,zk HQ5]) (dU (BL.new sq) ((Nd.mk (kd:=kd5) (tx:=tx5) (nm:=nm5) (ps:=ps5) row5).ag (yQ (yr zu oz) sq)) rfl om om om om (.inr om)) sq ?_ ?_)
  ·exact zw (yv wg ok oz)
  ·exact yD (yw wg oz)
 by_cases schan:yI C.ts k=[99,104,97,110]
 ·skip
  have h6:=zm (dH schan)
  have bsint:(yI C.ts k==[105,110,116])=false:=beq_eq_false_iff_ne.2 sint
  have bsbool:(yI C.ts k==[98,111,111,108])=false:=beq_eq_false_iff_ne.2 sbool
  have bsstring:(yI C.ts k==[115,116,114,105,110,103])=false:=beq_eq_false_iff_ne.2 sstring
  have bsptr:(yI C.ts k==[42])=false:=beq_eq_false_iff_ne.2 sptr
  have bsarr:(yI C.ts k==[91])=false:=beq_eq_false_iff_ne.2 sarr
  go_enter Tryz.func74,Tryz.ntmps74
  go_wp2_with fail
  refine qc w ok k h (zy C ok k h _ (zw wg)) (zw wg) (yD wg) fun w1 p1 hg hz1 G1=>?_
  (try simp at hz1)
  have bl0_1:BL w1 w.heap.size (yA):=BL.grown (yN om) hg om
  have hl0_1:=bl0_1.lt
  clear hg
  have ⟨⟨ne1,nf1⟩,⟨ne2,nf2⟩,⟨ne3,nf3⟩⟩:NN C.b w.heap.size∧NN C.b w1.heap.size∧NN w.heap.size w1.heap.size:=om
  go_wp2_with fail
  refine qc w ok k h (yc C ok k h _ wg) wg wg fun w2 p2 hg hz2 G2=>?_
  (try simp at hz2)
  have bl0_2:BL w2 w.heap.size (yA):=BL.grown wg hg om
  have hl0_2:=bl0_2.lt
  clear bl0_1 p1 hg
  have ⟨⟨ne4,nf4⟩,⟨ne5,nf5⟩⟩:NN C.b w2.heap.size∧NN w.heap.size w2.heap.size:=om
  go_wp2_with fail
  refine (yR C ok k h _ wg (zk h6)).mono ?_
  rintro e w3 ⟨rfl,p3,hg⟩
  have hz3:=hg.size
  (try simp at hz3)
  have G3:w.grownBy w3 (some C.b):=zl wg hg
  have bl0_3:BL w3 w.heap.size (yA):=BL.grown wg hg om
  have hl0_3:=bl0_3.lt
  clear bl0_2 p2 hg
  have ⟨⟨ne6,nf6⟩,⟨ne7,nf7⟩⟩:NN C.b w3.heap.size∧NN w.heap.size w3.heap.size:=om
  go_wp2_with fail
  refine (ih.at.wtype h (k+1) _ wg (fun hx=>zk HO ((zk HR).symm.trans (by simp only [bK,ub,ef sint,ef sbool,ef sstring,ef sptr,ef sarr,et schan,hx])))).mono ?_
  rintro e w4 hp
  rcases hp with ⟨kd4,tx4,nm4,ps4,kids4,s4,k4,ao4,cp4,hq,rfl,hrow,p4,hg⟩ | ⟨pb,rule,hq,rfl,hg⟩
  rotate_left
  (exact ⟨rfl,zs (by rw [←zk HR];simp only [bK,ub,ef sint,ef sbool,ef sstring,ef sptr,ef sarr,et schan,hq]) (zl wg hg)⟩)
  have hz4:=hg.size
  (try simp at hz4)
  have G4:w.grownBy w4 (some C.b):=zl wg hg
  have bl0_4:BL w4 w.heap.size (yA):=BL.grown wg hg om
  have hl0_4:=bl0_4.lt
  have zc0_4:=bl0_4.cell
  have fz0_4:=bl0_4.frozen
  clear bl0_3 p3
  obtain ⟨lo4,hlo4,row4⟩:=hrow.named
  (try simp at hlo4)
  have HQ4:=zm hq
  clear hrow hq hg
  have ⟨⟨ne8,nf8⟩,⟨ne9,nf9⟩⟩:NN C.b w4.heap.size∧NN w.heap.size w4.heap.size:=om
  go_wp2
  refine bodyPost_ret (v:=.agg #[.int .i64 14,.string ⟨#[]⟩,.int .i64 0,.int .i64 (zp C.ts k).pos,.string ⟨#[]⟩,.int .i64 0,.slice (some ⟨w4.heap.size,0,none⟩) 1 1]) zb rfl (yB (hi:=w4.heap.size+1) (s:=0) (k':=k4) (tx:=[]) (kids:=[.mk kd4 tx4 nm4 ps4 kids4]) (by rw [←zk HR];simp only [bK,ub,ef sint,ef sbool,ef sstring,ef sptr,ef sarr,et schan,zk HQ4]) (dU (BL.new sq) ((Nd.mk (kd:=kd4) (tx:=tx4) (nm:=nm4) (ps:=ps4) row4).ag (yQ (yr zu oz) sq)) rfl om om om om (.inr om)) sq ?_ ?_)
  ·exact zw (yv wg ok oz)
  ·exact yD (yw wg oz)
 by_cases sfunc:yI C.ts k=[102,117,110,99]
 ·skip
  have h6:=zm (dH sfunc)
  have bsint:(yI C.ts k==[105,110,116])=false:=beq_eq_false_iff_ne.2 sint
  have bsbool:(yI C.ts k==[98,111,111,108])=false:=beq_eq_false_iff_ne.2 sbool
  have bsstring:(yI C.ts k==[115,116,114,105,110,103])=false:=beq_eq_false_iff_ne.2 sstring
  have bsptr:(yI C.ts k==[42])=false:=beq_eq_false_iff_ne.2 sptr
  have bsarr:(yI C.ts k==[91])=false:=beq_eq_false_iff_ne.2 sarr
  have bschan:(yI C.ts k==[99,104,97,110])=false:=beq_eq_false_iff_ne.2 schan
  go_enter Tryz.func74,Tryz.ntmps74
  go_wp2_with fail
  refine qc w ok k h (zy C ok k h _ (zw wg)) (zw wg) (yD wg) fun w1 p1 hg hz1 G1=>?_
  (try simp at hz1)
  have bl0_1:BL w1 w.heap.size (yA):=BL.grown (yN om) hg om
  have hl0_1:=bl0_1.lt
  clear hg
  have ⟨⟨ne1,nf1⟩,⟨ne2,nf2⟩,⟨ne3,nf3⟩⟩:NN C.b w.heap.size∧NN C.b w1.heap.size∧NN w.heap.size w1.heap.size:=om
  go_wp2_with fail
  refine qc w ok k h (yc C ok k h _ wg) wg wg fun w2 p2 hg hz2 G2=>?_
  (try simp at hz2)
  have bl0_2:BL w2 w.heap.size (yA):=BL.grown wg hg om
  have hl0_2:=bl0_2.lt
  clear bl0_1 p1 hg
  have ⟨⟨ne4,nf4⟩,⟨ne5,nf5⟩⟩:NN C.b w2.heap.size∧NN w.heap.size w2.heap.size:=om
  go_wp2_with fail
  refine (yR C ok k h _ wg (zk h6)).mono ?_
  rintro e w3 ⟨rfl,p3,hg⟩
  have hz3:=hg.size
  (try simp at hz3)
  have G3:w.grownBy w3 (some C.b):=zl wg hg
  have bl0_3:BL w3 w.heap.size (yA):=BL.grown wg hg om
  have hl0_3:=bl0_3.lt
  clear bl0_2 p2 hg
  have ⟨⟨ne6,nf6⟩,⟨ne7,nf7⟩⟩:NN C.b w3.heap.size∧NN w.heap.size w3.heap.size:=om
  by_cases c1:yb C.ts (k+1) [[40]]=true
  rotate_left
  ·skip
   go_wp2_with fail
   refine (yX C ok (k+1) h _ ⟨#[116,121,112,101]⟩ [40] wg (Bool.eq_false_iff.2 c1)).mono ?_
   rintro e w4 ⟨rfl,hgq⟩
   exact ⟨rfl,zs (by rw [←zk HR];simp only [bK,ub,ef sint,ef sbool,ef sstring,ef sptr,ef sarr,ef schan,et sfunc,ef c1]) (zl wg (zn hgq))⟩
  go_wp2_with fail
  refine (yJ C ok (k+1) h _ ⟨#[116,121,112,101]⟩ [40] wg c1).mono ?_
  rintro e w4 ⟨rfl,p4,hg⟩
  have hz4:=hg.size
  (try simp at hz4)
  have G4:w.grownBy w4 (some C.b):=zl wg hg
  have bl0_4:BL w4 w.heap.size (yA):=BL.grown wg hg om
  have hl0_4:=bl0_4.lt
  clear bl0_3 p3 hg
  have ⟨⟨ne8,nf8⟩,⟨ne9,nf9⟩⟩:NN C.b w4.heap.size∧NN w.heap.size w4.heap.size:=om
  go_wp2_with fail
  refine (ih.at.listedT h (k+1+1) _ wg (fun hx=>zk HO ((zk HR).symm.trans (by simp only [bK,ub,ef sint,ef sbool,ef sstring,ef sptr,ef sarr,ef schan,et sfunc,et c1,hx])))).mono ?_
  rintro e w5 hp
  rcases hp with ⟨l5,s5,k5,ao5,cp5,hq,rfl,hrow,p5,hg⟩ | ⟨pb,rule,hq,rfl,hg⟩
  rotate_left
  (exact ⟨rfl,zs (by rw [←zk HR];simp only [bK,ub,ef sint,ef sbool,ef sstring,ef sptr,ef sarr,ef schan,et sfunc,et c1,hq]) (zl wg hg)⟩)
  have hz5:=hg.size
  (try simp at hz5)
  have G5:w.grownBy w5 (some C.b):=zl wg hg
  have bl0_5:BL w5 w.heap.size (yA):=BL.grown wg hg om
  have hl0_5:=bl0_5.lt
  clear bl0_4 p4
  obtain ⟨lo5,hlo5,row5⟩:=hrow.named
  (try simp at hlo5)
  have HQ5:=zm hq
  clear hrow hq hg
  have ⟨⟨ne10,nf10⟩,⟨ne11,nf11⟩⟩:NN C.b w5.heap.size∧NN w.heap.size w5.heap.size:=om
  go_wp2_with fail
  refine (ih.at.result h k5 _ wg (fun hx=>zk HO ((zk HR).symm.trans (by simp only [bK,ub,ef sint,ef sbool,ef sstring,ef sptr,ef sarr,ef schan,et sfunc,et c1,zk HQ5,hx])))).mono ?_
  rintro e w6 hp
  rcases hp with ⟨kd6,tx6,nm6,ps6,kids6,s6,k6,ao6,cp6,hq,rfl,hrow,p6,hg⟩ | ⟨pb,rule,hq,rfl,hg⟩
  rotate_left
  (exact ⟨rfl,zs (by rw [←zk HR];simp only [bK,ub,ef sint,ef sbool,ef sstring,ef sptr,ef sarr,ef schan,et sfunc,et c1,zk HQ5,hq]) (zl wg hg)⟩)
  have hz6:=hg.size
  (try simp at hz6)
  have G6:w.grownBy w6 (some C.b):=zl wg hg
  replace row5:=zq.ag row5 (Ag.grown zu hg om om) lr lr
  have bl0_6:BL w6 w.heap.size (yA):=BL.grown wg hg om
  have hl0_6:=bl0_6.lt
  clear bl0_5 p5
  obtain ⟨lo6,hlo6,row6⟩:=hrow.named
  (try simp at hlo6)
  have HQ6:=zm hq
  clear hrow hq hg
  have ⟨⟨ne12,nf12⟩,⟨ne13,nf13⟩⟩:NN C.b w6.heap.size∧NN w.heap.size w6.heap.size:=om
  have hn5:l5.length≤1000000:=(by have h1:=yq C.ts n (.listed .wtype) h (k+1+1) l5 s5 k5 (zk HQ5);have h2:=ok.few;have h3:=p6.kl;have h4:=yq C.ts n .result h k5 _ s6 k6 (zk HQ6);simp only [st,bnd] at h1 h4;omega)
  go_wp2_with (first | (at_builtin;(refine dG rfl (.tmp 68) (.tmp 71) rfl (lo:=lo5) (hi:=w5.heap.size) (ao:=ao5) (cp:=cp5) (l:=l5) (t:=.mk kd6 tx6 nm6 ps6 kids6) (A:=lo6) (B:=w6.heap.size) (g0:=w6.heap.size) (cur:=#[.int .i64 kd6,.string ⟨tx6.toArray⟩,.int .i64 nm6,.int .i64 ps6,.string ⟨#[]⟩,.int .i64 0,.slice ao6 kids6.length cp6]) zH (zq.ag row5 (yQ zu om) lr lr) zH (yN om) ((Nd.mk (kd:=kd6) (tx:=tx6) (nm:=nm6) (ps:=ps6) row6).ag (yQ zu sq)) rfl iO hn5 sq sq om sq om ?_;intro g7 cp7 w7 hrw7 hgA hat7 hgl7;have hob:=row5.own;have hz7:=hgA.size;(try simp at hz7);(try simp at hat7);have G7:w.grownBy w7 (some C.b):=yP (yD wg) hgA (fun x hx=>by have:=hob x hx;omega);have p7:=PS.own (C:=C) (k:=k6) (h:=h) (zw wg) ok hgA (fun x hx=>by have:=hob x hx;omega);have bl0_7:BL w7 w.heap.size (yA):=BL.own (yS wg) hgA (fun e=>by have:=hob _ e.symm;omega);have hl0_7:=bl0_7.lt;have zc0_7:=bl0_7.cell;have fz0_7:=bl0_7.frozen;clear bl0_6;clear p6 hgA hob;have ne14:¬C.b=w7.heap.size:=om;have nf14:¬w7.heap.size=C.b:=om;have ne15:¬w.heap.size=w7.heap.size:=om;have nf15:¬w7.heap.size=w.heap.size:=om)))
  have row7:=hrw7 w7 lr rfl (Ag.refl _ _ _) (Ag.refl _ _ _)
  clear hrw7
  refine bodyPost_ret (v:=.agg #[.int .i64 15,.string ⟨#[]⟩,.int .i64 0,.int .i64 (zp C.ts k).pos,.string ⟨#[]⟩,.int .i64 0,.slice (some ⟨g7,0,none⟩) (l5.length+1) cp7]) zb rfl (yB (hi:=w7.heap.size) (s:=0) (k':=k6) (tx:=[]) (kids:=(l5++[.mk kd6 tx6 nm6 ps6 kids6])) (by rw [←zk HR];simp only [bK,ub,ef sint,ef sbool,ef sstring,ef sptr,ef sarr,ef schan,et sfunc,et c1,zk HQ5,zk HQ6]) (row7.ag (yr zu oz) om lr) sq ?_ ?_)
  ·exact yv wg ok oz
  ·exact yw wg oz
 have bsint:(yI C.ts k==[105,110,116])=false:=beq_eq_false_iff_ne.2 sint
 have bsbool:(yI C.ts k==[98,111,111,108])=false:=beq_eq_false_iff_ne.2 sbool
 have bsstring:(yI C.ts k==[115,116,114,105,110,103])=false:=beq_eq_false_iff_ne.2 sstring
 have bsptr:(yI C.ts k==[42])=false:=beq_eq_false_iff_ne.2 sptr
 have bsarr:(yI C.ts k==[91])=false:=beq_eq_false_iff_ne.2 sarr
 have bschan:(yI C.ts k==[99,104,97,110])=false:=beq_eq_false_iff_ne.2 schan
 have bsfunc:(yI C.ts k==[102,117,110,99])=false:=beq_eq_false_iff_ne.2 sfunc
 go_enter Tryz.func74,Tryz.ntmps74
 go_wp2_with fail
 refine qc w ok k h (zy C ok k h _ (zw wg)) (zw wg) (yD wg) fun w1 p1 hg hz1 G1=>?_
 (try simp at hz1)
 have bl0_1:BL w1 w.heap.size (yA):=BL.grown (yN om) hg om
 have hl0_1:=bl0_1.lt
 clear hg
 have ⟨⟨ne1,nf1⟩,⟨ne2,nf2⟩,⟨ne3,nf3⟩⟩:NN C.b w.heap.size∧NN C.b w1.heap.size∧NN w.heap.size w1.heap.size:=om
 go_wp2_with fail
 refine qc w ok k h (yc C ok k h _ wg) wg wg fun w2 p2 hg hz2 G2=>?_
 (try simp at hz2)
 have bl0_2:BL w2 w.heap.size (yA):=BL.grown wg hg om
 have hl0_2:=bl0_2.lt
 clear bl0_1 p1 hg
 have ⟨⟨ne4,nf4⟩,⟨ne5,nf5⟩⟩:NN C.b w2.heap.size∧NN w.heap.size w2.heap.size:=om
 go_wp2_with fail
 refine qc w ok k h (dA C ok k h _ ⟨#[116,121,112,101]⟩ wg) wg wg fun w3 p3 hg hz3 G3=>?_
 (try simp at hz3)
 have bl0_3:BL w3 w.heap.size (yA):=BL.grown wg hg om
 have hl0_3:=bl0_3.lt
 clear bl0_2 p2 hg
 have ⟨⟨ne6,nf6⟩,⟨ne7,nf7⟩⟩:NN C.b w3.heap.size∧NN w.heap.size w3.heap.size:=om
 go_wp2
 exact yp rfl (zs (by rw [←zk HR];simp only [bK,ub,ef sint,ef sbool,ef sstring,ef sptr,ef sarr,ef schan,ef sfunc]) wg)
end Go.Proofs.YtgbjpnnockoomaaGreatDoor
