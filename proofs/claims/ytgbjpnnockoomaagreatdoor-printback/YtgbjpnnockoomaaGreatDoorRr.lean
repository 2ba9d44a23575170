import Derived.Test.YtgbjpnnockoomaaGreatDoorRq
set_option linter.unusedVariables false
set_option linter.unusedSimpArgs false
namespace Go.Proofs.YtgbjpnnockoomaaGreatDoor.Px
open Lx Lx.Sp
section
variable {D : Int → List UInt8}
theorem fD {P:List Tree→Int→Nat→Prop} {ts:List Tok} {k:Nat} {f:Tok→Nat→R} (h:(zp ts k).kind=1→F P (f (zp ts k) (k+1))):F P (bI ts k f):=ai h (fun _=>aS)
theorem shp_40 {x:List UInt8} {p:Int} : shp (nd 40 x p [])=3:=by simp [shp,nd,Tree.kind]
theorem ru {t:Tree} (h:SM D t):XS D t:=XS_simple h.2 h.1
set_option maxHeartbeats 4000000 in
theorem step_x (ts:List Tok) (hN:∀ k,(zp ts k).kind=1→eu (zp ts k).text=false) (rec:Job→Bool→Nat→R) (ih:∀ j h k,KX D ts j k→F (fun l s _=>RJ D ts j k l s) (rec j h k)) (j:Job) (h:Bool) (k:Nat) (ho:KX D ts j k):F (fun l s _=>RJ D ts j k l s) (step ts rec j h k):=by
 have hx18:∀ kd h k,F (fun l s _=>aT (XN D kd) l) (rec (.named kd) h k):=fun kd h k=>ih (.named kd) h k trivial
 have hex:∀ h k,F (fun l s _=>aT (EX D) l) (rec .expr h k):=fun h k=>ih .expr h k trivial
 have hbl:∀ h k,F (fun l s _=>aT (XCb D) l) (rec .block h k):=fun h k=>ih .block h k trivial
 have hcb:∀ h k,F (fun l s _=>aT (XCb D) l) (rec .clauseBlock h k):=fun h k=>ih .clauseBlock h k trivial
 have hwt:∀ h k,F (fun l s _=>aT (TY D) l) (rec .wtype h k):=fun h k=>ih .wtype h k trivial
 have hun:∀ h k,F (fun l s _=>aT (EX D) l) (rec .unary h k):=fun h k=>ih .unary h k trivial
 cases j
 case wtype=>
  simp only [step,bK]
  refine ai (fun _=>aj (jG (uo (.inl ⟨rfl,rfl⟩)) (by decide))) fun _=>?_
  refine ai (fun _=>aj (jG (uo (.inr (.inl ⟨rfl,rfl⟩))) (by decide))) fun _=>?_
  refine ai (fun _=>aj (jG (uo (.inr (.inr ⟨rfl,rfl⟩))) (by decide))) fun _=>?_
  refine ai (fun _=>fD fun h1=>aj (jG (XT_12 (hN _ h1)) (by decide))) fun _=>?_
  refine ai (fun _=>au (af (hwt h _) fun t _ _ hx=>aj (jG (XT_13 hx.1) (by decide)))) fun _=>?_
  refine ai (fun _=>af (hwt h _) fun t _ _ hx=>aj (jG (XT_14 hx.1) (by decide))) fun _=>?_
  refine ai (fun _=>au (aA (ih (.listed .wtype) h _ trivial) fun l _ _ hl=>af (ih .result h _ trivial) fun t _ _ hx=>aj (ty15 hl hx))) fun _=>aS
 case result=>
  simp only [step,fB]
  exact ai (fun _=>bZ (hwt h k) fun l _ _ hx=>by
   match l,hx with
   | [t],hx=>exact .inr hx) fun _=>aj (.inl rfl)
 case named kd=>
  simp only [step,fH]
  exact fD fun h1=>af (hwt h _) fun t _ _ hx=>aj ⟨_,_,_,rfl,hN _ h1,hx.1⟩
 case listed it=>
  simp only [step,bF]
  refine ai (fun _=>aj (iF _)) fun _=>?_
  cases it
  ·exact af (hx18 7 h _) fun t _ _ hx=>ih (.listMore .named [t]) h _ (jO hx)
  ·exact af (hwt h _) fun t _ _ hx=>ih (.listMore .wtype [t]) h _ (jO hx)
  ·exact af (hex h _) fun t _ _ hx=>ih (.listMore .expr [t]) h _ (jO hx)
  ·exact af (ih .initial h _ trivial) fun t _ _ hx=>ih (.listMore .initial [t]) h _ (jO hx)
 case listMore it acc=>
  simp only [step,yo]
  refine ai (fun _=>?_) fun _=>au (aj ho)
  cases it
  ·exact af (hx18 7 h _) fun t _ _ hx=>ih (.listMore .named (acc++[t])) h _ (aK ho hx)
  ·exact af (hwt h _) fun t _ _ hx=>ih (.listMore .wtype (acc++[t])) h _ (aK ho hx)
  ·exact af (hex h _) fun t _ _ hx=>ih (.listMore .expr (acc++[t])) h _ (aK ho hx)
  ·exact af (ih .initial h _ trivial) fun t _ _ hx=>ih (.listMore .initial (acc++[t])) h _ (aK ho hx)
 case function=>
  simp only [step,bJ]
  exact au (aA (ih (.listed .named) h _ trivial) fun l _ _ hl=>af (ih .result h _ trivial) fun r _ _ hr=>af (hbl false _) fun b _ _ hb=>aj ⟨_,_,_,_,rfl,hl,hr,(jd hb).1⟩)
 case block=>
  simp only [step,gW]
  exact au (aA (ih (.stmts []) h _ (iF _)) fun l _ _ hl=>au (aj ⟨_,_,rfl,hl⟩))
 case stmts acc=>
  simp only [step,gm]
  exact ai (fun _=>ai (fun _=>ih (.stmts acc) h _ ho) fun _=>aj ho) fun _=>af (ih .stmt h _ trivial) fun t _ _ hx=>ai (fun _=>ih (.stmts (acc++[t])) h _ (aK ho hx)) fun _=>aj (aK ho hx)
 case stmt=>
  simp only [step,aP]
  refine ai (fun _=>ih .varStmt h _ trivial) fun _=>?_
  refine ai (fun _=>bZ (hbl h k) fun l _ _ hx=>by
   match l,hx with
   | [t],hx=>exact XS_16 (jd hx).2 (jd hx).1) fun _=>?_
  refine ai (fun _=>bZ (ih .ifStmt h k trivial) fun l _ _ hx=>by
   match l,hx with
   | [t],hx=>exact XS_21 hx.2 hx.1) fun _=>?_
  refine ai (fun _=>bZ (ih .breakable h k trivial) fun l _ _ hx=>by
   match l,hx with
   | [t],hx=>exact XS_K hx) fun _=>?_
  refine ai (fun _=>ai (fun h1=>aj (pK (.inl ⟨rfl,rfl⟩) (.inr (hN _ h1)))) fun _=>aj (pK (.inl ⟨rfl,rfl⟩) (.inl rfl))) fun _=>?_
  refine ai (fun _=>ai (fun h1=>aj (pK (.inr ⟨rfl,rfl⟩) (.inr (hN _ h1)))) fun _=>aj (pK (.inr ⟨rfl,rfl⟩) (.inl rfl))) fun _=>?_
  refine ai (fun _=>aj XS_29) fun _=>?_
  refine ai (fun _=>ih .returnStmt h _ trivial) fun _=>?_
  refine ai (fun _=>ih (.callStmt 31) h _ (.inl rfl)) fun _=>?_
  refine ai (fun _=>ih (.callStmt 32) h _ (.inr rfl)) fun _=>?_
  refine ai (fun hc=>ih .labelled h _ ?_) fun _=>?_
  ·simp only [labels,Bool.and_eq_true,decide_eq_true_eq] at hc
   exact hc.1
  ·exact bZ (ih .simple h k trivial) fun l _ _ hx=>by
    match l,hx with
    | [t],hx=>exact ru hx
 case varStmt=>
  simp only [step,dn]
  refine af (hx18 18 h _) fun t _ _ hx=>?_
  obtain ⟨x,p,y,rfl,hx1,hy⟩:XN D 18 t:=hx
  exact ai (fun _=>af (hex h _) fun e _ _ he=>aj (XS_18 hx1 hy (.inr ⟨he.1,he.2.1⟩))) fun _=>aj (XS_18 hx1 hy (.inl rfl))
 case returnStmt=>
  simp only [step,bC]
  exact ai (fun _=>aj (XS_30 (.inl rfl))) fun _=>af (hex h _) fun e _ _ he=>aj (XS_30 (.inr ⟨he.1,he.2.1⟩))
 case callStmt kd=>
  simp only [step,dB]
  refine af (ih .primary h _ trivial) fun t s _ hx=>ai (fun hs=>aj ?_) fun _=>aS
  have hx':EX D t∧SH D t s∧s≠1:=hx
  have h5:=hx'.2.1.2.2.1 hs
  rcases ho with rfl | rfl
  ·exact XS_call (.inl ⟨rfl,rfl⟩) h5 hx'.1.1
  ·exact XS_call (.inr ⟨rfl,rfl⟩) h5 hx'.1.1
 case labelled=>
  simp only [step,dD]
  exact au (af (ih .breakable h _ trivial) fun t _ _ hx=>aj (XS_35 (hN _ ho) hx))
 case simple=>
  simp only [step,dN]
  refine ai (fun _=>aS) fun _=>af (ih .shaped h _ trivial) fun t s _ hx=>aA (ih (.acting t s) h _ hx) fun l f _ hl=>ai (fun h1=>aj (hl h1)) fun _=>ai (fun h1=>aj ?_) fun _=>aS
  have hx':EX D t∧SH D t s:=hx
  simp only [stands,Bool.or_eq_true,decide_eq_true_eq] at h1
  rcases h1 with h1 | h1
  ·exact ⟨XM_34c (hx'.2.2.2.1 h1) hx'.1.1,by simp [smK,alone,nd,Tree.kind]⟩
  ·obtain ⟨p,a,rfl,ha⟩:=hx'.2.2.2.2 h1
   exact ⟨XM_34r ha.1,by simp [smK,alone,nd,Tree.kind]⟩
 case acting t s=>
  have hE:EX D t∧SH D t s:=ho
  have h34:s=3∨s=4→shp t=3∨shp t=4:=fun h=>by
   rcases h with h | h
   ·obtain ⟨x,p,rfl,_⟩:=hE.2.1 h
    exact .inl shp_40
   ·exact .inr (hE.2.2.1 h)
  simp only [step,yO]
  refine ai (fun hc=>af (hex h _) fun e _ _ he=>aj fun _=>?_) fun _=>?_
  ·obtain ⟨x,p,rfl,hw⟩:=hE.2.1 hc.1
   exact ⟨XM_17 hw he.1,by simp [smK,nd,Tree.kind]⟩
  refine ai (fun hc=>af (hex h _) fun e _ _ he=>aj fun _=>⟨XM_19 (List.contains_iff_mem.2 (jR hc.2).2.1) (h34 hc.1) hE.1.1 he.1,by simp [smK,nd,Tree.kind]⟩) fun _=>?_
  refine ai (fun hc=>aj fun _=>⟨XM_20 (by simpa using (jR hc.2).2.1) (h34 hc.1) hE.1.1,by simp [smK,nd,Tree.kind]⟩) fun _=>?_
  refine ai (fun hc=>af (hex h _) fun e _ _ he=>aj fun _=>⟨XM_33 hE.1.1 he.1,by simp [smK,nd,Tree.kind]⟩) fun _=>aj fun h=>by omega
 case ifStmt=>
  simp only [step,cu]
  refine af (hex true _) fun c _ _ hc=>af (hbl h _) fun th _ _ ht=>ai (fun _=>ai (fun _=>af (ih .ifStmt h _ trivial) fun o _ _ ho=>aj ⟨XIf_21 hc.1 (jd ht).1 (.inr (.inr ho)),rfl⟩) fun _=>af (hbl h _) fun o _ _ ho=>aj ⟨XIf_21 hc.1 (jd ht).1 (.inr (.inl (jd ho))),rfl⟩) fun _=>aj ⟨XIf_21 hc.1 (jd ht).1 (.inl rfl),rfl⟩
 case breakable=>
  simp only [step,aN]
  exact ai (fun _=>ih .forStmt h _ trivial) fun _=>ai (fun _=>ih .switchStmt h _ trivial) fun _=>ai (fun _=>ih .selectStmt h _ trivial) fun _=>aS
 case forStmt=>
  simp only [step,dQ]
  refine aA (ih .forHead true _ trivial) fun l _ _ hl=>af (hbl h _) fun b _ _ hb=>aj ?_
  obtain ⟨a,c,b2,rfl,h1,h2,h3⟩:=hl
  exact XK_22 h1 (qM h2) h3 (jd hb).1
 case forHead=>
  have t2:∀ first c k,(first=aB∨SM D first)→ON D c→F (fun l s _=>∃ a c b,l=[a,c,b]∧(a=aB∨SM D a)∧ON D c∧(b=aB∨SM D b)) (ya ts rec h first c k):=fun first c k h1 h2=>by
   unfold ya
   exact au (ai (fun _=>aj ⟨_,_,_,rfl,h1,h2,.inl rfl⟩) fun _=>af (ih .simple h _ trivial) fun t _ _ hx=>aj ⟨_,_,_,rfl,h1,h2,.inr hx⟩)
  have t1:∀ first k,(first=aB∨SM D first)→F (fun l s _=>∃ a c b,l=[a,c,b]∧(a=aB∨SM D a)∧ON D c∧(b=aB∨SM D b)) (yn ts rec h first k):=fun first k h1=>by
   unfold yn
   exact au (ai (fun _=>t2 _ _ _ h1 (.inl rfl)) fun _=>af (hex h _) fun t _ _ hx=>t2 _ _ _ h1 (.inr hx))
  simp only [step,yY]
  refine ai (fun _=>aj ⟨_,_,_,rfl,.inl rfl,.inl rfl,.inl rfl⟩) fun _=>ai (fun _=>t1 _ _ (.inl rfl)) fun _=>af (ih .forLead h _ trivial) fun t s _ hx=>ai (fun hs=>t1 _ _ (.inr (hx.1 hs))) fun hs=>aj ⟨_,_,_,rfl,.inl rfl,.inr (hx.2 hs),.inl rfl⟩
 case forLead=>
  simp only [step,aZ]
  refine af (ih .shaped h _ trivial) fun t s _ hx=>aA (ih (.acting t s) h _ hx) fun l f _ hl=>ai (fun h1=>aj ?_) fun _=>ai (fun h1=>aj ?_) fun _=>af (ih (.opOf t 1) h _ ⟨hx.1,by omega⟩) fun u _ _ hu=>aj ⟨fun h=>by omega,fun _=>hu⟩
  ·have hl1:aT (SM D) l:=hl h1
   match l,hl1 with
   | [u],hl1=>exact ⟨fun _=>hl1,fun h=>absurd rfl h⟩
  ·have hx':EX D t∧SH D t s:=hx
   have h2:=h1.1
   simp only [stands,Bool.or_eq_true,decide_eq_true_eq] at h2
   refine ⟨fun _=>?_,fun h=>absurd rfl h⟩
   rcases h2 with h2 | h2
   ·exact ⟨XM_34c (hx'.2.2.2.1 h2) hx'.1.1,by simp [smK,alone,nd,Tree.kind]⟩
   ·obtain ⟨p,a,rfl,ha⟩:=hx'.2.2.2.2 h2
    exact ⟨XM_34r ha.1,by simp [smK,alone,nd,Tree.kind]⟩
 case switchStmt=>
  simp only [step,yt]
  exact ai (fun _=>aA (ih (.clauses false) h _ trivial) fun l _ _ hl=>aj (XK_23 (.inl rfl) hl)) fun _=>af (hex true _) fun e _ _ he=>aA (ih (.clauses false) h _ trivial) fun l _ _ hl=>aj (XK_23 (.inr ⟨he.1,he.2.1⟩) hl)
 case selectStmt=>
  simp only [step,bP]
  exact aA (ih (.clauses true) h _ trivial) fun l _ _ hl=>aj (XK_25 hl)
 case clauses c=>
  simp only [step,dJ]
  exact au (ih (.clausesMore c []) h _ (iF _))
 case clausesMore c acc=>
  simp only [step,yu]
  refine ai (fun _=>aj ho) fun _=>?_
  cases c
  ·exact af (ih .clause h _ trivial) fun t _ _ hx=>ih (.clausesMore false (acc++[t])) h _ (aK ho hx)
  ·exact af (ih .comm h _ trivial) fun t _ _ hx=>ih (.clausesMore true (acc++[t])) h _ (aK ho hx)
 case clause=>
  simp only [step,dS]
  refine ai (fun hc=>af (hex h _) fun e _ _ he=>aA (ih (.caseMore [e]) h _ (jO he)) fun es _ _ hes=>af (hcb h _) fun b _ _ hb=>aj ?_) fun _=>ai (fun hc=>af (hcb h _) fun b _ _ hb=>aj ?_) fun _=>aS
  ·obtain ⟨⟨r,rfl⟩,hal⟩:=hes
   have hs:=jR hc
   rw [hs.2.2,List.mem_singleton.1 hs.2.1]
   exact XC_case he.1 (fun t m=>(hal t (List.mem_cons_of_mem _ m)).1) hb
  ·have hs:=jR hc
   rw [hs.2.2,List.mem_singleton.1 hs.2.1]
   exact XC_default hb
 case caseMore acc=>
  simp only [step,bY]
  exact ai (fun _=>af (hex h _) fun e _ _ he=>bZ (ih (.caseMore (acc++[e])) h _ (aK ho he)) fun l _ _ hl=>⟨by obtain ⟨⟨r,rfl⟩,_⟩:=hl;exact ⟨e::r,by simp⟩,hl.2⟩) fun _=>aj ⟨⟨[],by simp⟩,ho⟩
 case clauseBlock=>
  simp only [step,aX]
  exact au (aA (ih (.stmts []) h _ (iF _)) fun l _ _ hl=>aj ⟨_,_,rfl,hl⟩)
 case comm=>
  simp only [step,gZ]
  refine ai (fun _=>aA (ih .commHead h _ trivial) fun l s _ hl=>af (hcb h _) fun b _ _ hb=>aj ?_) fun _=>ai (fun _=>af (hcb h _) fun b _ _ hb=>aj (XO_default hb)) fun _=>aS
  rcases hl with ⟨rfl,⟨u,rfl,hu⟩ | ⟨x,p,u,rfl,hw,hu⟩⟩ | ⟨rfl,a,e,rfl,ha,he⟩
  ·exact XO_recv hu.1 hu.2.2 hb
  ·exact XO_recv2 hw hu.1 hb
  ·exact XO_send ha.1 he.1 hb
 case commHead=>
  simp only [step,yl]
  refine ai (fun _=>af (hun h _) fun u _ _ hu=>aj (.inl ⟨rfl,.inl ⟨u,rfl,hu⟩⟩)) fun _=>af (ih .primary h _ trivial) fun t s _ hx=>ai (fun hc=>au (af (hun h _) fun u _ _ hu=>aj ?_)) fun _=>au (af (hex h _) fun e _ _ he=>aj (.inr ⟨rfl,t,e,rfl,hx.1,he⟩))
  have hx':EX D t∧SH D t s∧s≠1:=hx
  obtain ⟨x,p,rfl,hw⟩:=hx'.2.1.1 hc.1
  exact .inl ⟨rfl,.inr ⟨x,_,u,rfl,hw,hu⟩⟩
 case expr=>
  simp only [step]
  exact ih (.op 1) h _ (by show (1:Int)≤1;omega)
 case op least=>
  simp only [step,fOp]
  exact af (hun h _) fun t _ _ hx=>ih (.opOf t least) h _ ⟨hx,ho⟩
 case opOf t least=>
  have ho':EX D t∧1≤least:=ho
  simp only [step,jy]
  refine ai (fun hc=>?_) fun _=>aj ho'.1
  have hst:=mG ho'.2 hc
  exact af (ih (.op (aF (zp ts k).text+1)) h _ (by show 1≤aF (zp ts k).text+1;omega)) fun r _ _ hr=>ih (.opOf (nd 42 (zp ts k).text (zp ts k).pos [t,r]) least) h _ ⟨ex42 hst ho'.1 hr,ho'.2⟩
 case unary=>
  simp only [step,iw]
  exact af (ih .shaped h _ trivial) fun t s _ hx=>aj hx.1
 case shaped=>
  simp only [step,bW]
  refine ai (fun hc=>af (hun h _) fun u _ _ hu=>aj ?_) fun _=>bZ (ih .primary h k trivial) fun l s _ hx=>by
   match l,hx with
   | [t],hx=>exact ⟨hx.1,hx.2.1⟩
  have hm:=(jR hc).2.1
  have h3:(zp ts k).text=[45]∨(zp ts k).text=[33]∨(zp ts k).text=[60,45]:=by simpa using hm
  refine ⟨ex41 h3 hu, ?_⟩
  by_cases h60:(zp ts k).text=[60,45]
  ·rw [if_pos h60,h60]
   exact ⟨fun h=>by omega,fun h=>by omega,fun h=>by omega,fun _=>⟨_,_,rfl,hu⟩⟩
  ·rw [if_neg h60]
   exact SH0 _
 case primary=>
  simp only [step,dK]
  exact af (ih .operand h _ trivial) fun t s _ hx=>ih (.primMore t s) h _ hx
 case primMore t s=>
  have ho':EX D t∧SH D t s∧s≠1:=ho
  simp only [step,aQ]
  refine ai (fun _=>aA (ih .args false _ trivial) fun l _ _ hl=>ih (.primMore (nd 43 [] (zp ts k).pos (t::l)) 5) h _ ⟨dI (XE_43 ho'.1.1 fun t m=>(hl t m).1) (by decide),SH5 (by simp [shp,nd,Tree.kind]),by omega⟩) fun _=>?_
  refine ai (fun _=>af (ih (.bracketed t (zp ts k).pos) h _ ho'.1) fun u s2 _ hu=>ih (.primMore u s2) h _ hu) fun _=>?_
  refine ai (fun _=>fD fun h1=>ih (.primMore (nd 47 (zp ts (k+1)).text (zp ts k).pos [t]) 4) h _ ⟨dI (XE_47 (hN _ h1) ho'.1.1) (by decide),SH4 (by simp [shp,nd,Tree.kind]),by omega⟩) fun _=>aj ho'
 case args=>
  simp only [step]
  exact ih (.listed .expr) h _ trivial
 case bracketed t pos=>
  have ho':EX D t:=ho
  have b3:∀ f c k,ON D f→ON D c→F (fun l s _=>aT (fun t=>EX D t∧SH D t s∧s≠1) l) (fG ts t pos f c k):=fun f c k hf hc=>by
   unfold fG
   exact au (aj ⟨ex46 ho' hf hc,SH2 _,by omega⟩)
  have b2:∀ f k,ON D f→F (fun l s _=>aT (fun t=>EX D t∧SH D t s∧s≠1) l) (fA ts rec t pos f k):=fun f k hf=>by
   unfold fA
   exact au (ai (fun _=>b3 _ _ _ hf (.inl rfl)) fun _=>af (hex false _) fun c _ _ hc=>b3 _ _ _ hf (.inr hc))
  simp only [step,yH]
  exact ai (fun _=>b2 _ _ (.inl rfl)) fun _=>af (hex false _) fun f _ _ hf=>ai (fun _=>aj ⟨dI (XE_45 ho'.1 hf.1) (by decide),SH4 (by simp [shp,nd,Tree.kind]),by omega⟩) fun _=>b2 _ _ (.inr hf)
 case operand=>
  simp only [step,bf]
  refine ai (fun _=>aj ⟨⟨XE_36,by simp [Tree.kind],by simp [Tree.kind]⟩,SH2 _,by omega⟩) fun _=>?_
  refine ai (fun _=>aj ⟨dI XE_37 (by decide),SH2 _,by omega⟩) fun _=>?_
  refine ai (fun h1=>aj ⟨dI (XE_40 (hN _ h1)) (by decide),⟨fun _=>⟨_,_,rfl,hN _ h1⟩,fun h=>by omega,fun h=>by omega,fun h=>by omega⟩,by omega⟩) fun _=>?_
  exact ai (fun _=>ih .wordOperand h _ trivial) fun _=>af (ih .markOperand h _ trivial) fun t _ _ hx=>aj ⟨hx,SH2 _,by omega⟩
 case wordOperand=>
  simp only [step,yC]
  refine ai (fun hc=>aj ⟨dI (XE_38 (by simpa using hc)) (by decide),SH2 _,by omega⟩) fun _=>?_
  refine ai (fun _=>aj ⟨dI XE_39 (by decide),SH2 _,by omega⟩) fun _=>?_
  refine ai (fun _=>aA (ih .function h _ trivial) fun l _ _ hl=>aj ⟨dI (XE_48 hl) (by decide),SH2 _,by omega⟩) fun _=>?_
  refine ai (fun hc=>af (ih (.builtin .makeArgs) h _ (.inl rfl)) fun t _ _ hx=>aj ?_) fun _=>?_
  ·obtain ⟨p,a,e,ha⟩:=hx
   simp only [List.cons.injEq,and_true] at e
   subst e
   rw [hc]
   refine ⟨?_,SH2 _,by omega⟩
   rcases ha with ⟨t,rfl,ht⟩ | ⟨t,e,rfl,ht,he⟩
   ·exact dI (XE_make ht.1 (.inl rfl)) (by decide)
   ·exact dI (XE_make ht.1 (.inr ⟨e,rfl,he.1⟩)) (by decide)
  refine ai (fun hc=>af (ih (.builtin .newArgs) h _ (.inr (.inl rfl))) fun t _ _ hx=>aj ?_) fun _=>?_
  ·obtain ⟨p,a,e,y,p2,rfl,hy⟩:=hx
   simp only [List.cons.injEq,and_true] at e
   subst e
   rw [hc]
   exact ⟨dI (XE_new hy) (by decide),SH2 _,by omega⟩
  refine ai (fun hc=>af (ih (.builtin .args) h _ (.inr (.inr rfl))) fun t _ _ hx=>aj ?_) fun _=>aS
  obtain ⟨p,a,e,ha⟩:=hx
  simp only [List.cons.injEq,and_true] at e
  subst e
  have hne:(zp ts k).text≠[109,97,107,101]∧(zp ts k).text≠[110,101,119]:=by
   have h0:(bltS.all fun y=>decide (y≠[109,97,107,101]∧y≠[110,101,119]))=true:=by decide
   exact of_decide_eq_true (List.all_eq_true.1 h0 _ (List.contains_iff_mem.1 hc))
  exact ⟨dI (XE_44 hc fun t m=>(ha t m).1) (by decide),SH5 (by simp [shp,nd,Tree.kind,Tree.text,hne.1,hne.2]),by omega⟩
 case builtin r=>
  simp only [step,aV]
  rcases (show r=.makeArgs∨r=.newArgs∨r=.args from ho) with rfl | rfl | rfl
  ·exact au (aA (ih .makeArgs false _ trivial) fun l _ _ hl=>aj ⟨_,_,rfl,hl⟩)
  ·exact au (aA (ih .newArgs false _ trivial) fun l _ _ hl=>aj ⟨_,_,rfl,hl⟩)
  ·exact au (aA (ih .args false _ trivial) fun l _ _ hl=>aj ⟨_,_,rfl,hl⟩)
 case makeArgs=>
  simp only [step,bD]
  exact af (hwt h _) fun t _ _ ht=>ai (fun _=>af (hex h _) fun e _ _ he=>au (aj (.inr ⟨t,e,rfl,ht,he⟩))) fun _=>au (aj (.inl ⟨t,rfl,ht⟩))
 case newArgs=>
  simp only [step,eU]
  exact fD fun h1=>au (aj ⟨_,_,rfl,hN _ h1⟩)
 case markOperand=>
  simp only [step,yG]
  refine ai (fun _=>af (hex false _) fun t _ _ hx=>au (aj hx)) fun _=>?_
  refine ai (fun _=>fD fun h1=>aA (ih (.braced .initial) h _ trivial) fun l _ _ hl=>aj (dI (XE_49 (hN _ h1) hl) (by decide))) fun _=>?_
  exact ai (fun _=>au (af (hwt h _) fun t _ _ ht=>aA (ih (.braced .expr) h _ trivial) fun l _ _ hl=>aj (dI (XE_50 ht.1 fun e m=>(hl e m).1) (by decide)))) fun _=>aS
 case braced it=>
  simp only [step,eP]
  exact au (ih (.bracedMore it []) h _ (iF _))
 case bracedMore it acc=>
  simp only [step,yk]
  refine ai (fun _=>aj ho) fun _=>?_
  cases it
  ·exact af (hx18 7 h _) fun t _ _ hx=>ai (fun _=>ih (.bracedMore .named (acc++[t])) h _ (aK ho hx)) fun _=>au (aj (aK ho hx))
  ·exact af (hwt h _) fun t _ _ hx=>ai (fun _=>ih (.bracedMore .wtype (acc++[t])) h _ (aK ho hx)) fun _=>au (aj (aK ho hx))
  ·exact af (hex h _) fun t _ _ hx=>ai (fun _=>ih (.bracedMore .expr (acc++[t])) h _ (aK ho hx)) fun _=>au (aj (aK ho hx))
  ·exact af (ih .initial h _ trivial) fun t _ _ hx=>ai (fun _=>ih (.bracedMore .initial (acc++[t])) h _ (aK ho hx)) fun _=>au (aj (aK ho hx))
 case initial=>
  simp only [step,dR]
  exact fD fun h1=>au (af (hex h _) fun e _ _ he=>aj ⟨_,_,_,rfl,hN _ h1,he.1⟩)
 case decl=>
  simp only [step,fZ]
  refine ai (fun _=>ih .typeDecl h _ trivial) fun _=>ai (fun _=>af (hx18 3 h _) fun t _ _ hx=>?_) fun _=>ai (fun _=>fD fun h1=>aA (ih .function h _ trivial) fun l _ _ hl=>aj (XD_4 (hN _ h1) hl)) fun _=>aS
  obtain ⟨x,p,y,rfl,hx1,hy⟩:XN D 3 t:=hx
  exact aj (XD_3 hx1 hy)
 case typeDecl=>
  simp only [step,dF]
  exact fD fun h1=>au (au (aA (ih (.fieldsMore []) h _ (iF _)) fun l _ _ hl=>aj (XD_2 (hN _ h1) hl)))
 case fieldsMore acc=>
  simp only [step,bn]
  exact ai (fun _=>aj ho) fun _=>af (hx18 5 h _) fun t _ _ hx=>au (ih (.fieldsMore (acc++[t])) h _ (aK ho hx))
 case fileMore acc=>
  simp only [step,bU]
  exact ai (fun _=>aj ⟨_,rfl,ho⟩) fun _=>af (ih .decl h _ trivial) fun t _ _ hx=>au (ih (.fileMore (acc++[t])) h _ (aK ho hx))
theorem run_x (ts:List Tok) (hN:∀ k,(zp ts k).kind=1→eu (zp ts k).text=false):∀ (n:Nat) (j:Job) (h:Bool) (k:Nat),KX D ts j k→F (fun l s _=>RJ D ts j k l s) (run ts n j h k)
 | 0,_,_,_,_=>fun _ _ _ e=>by cases e
 | n+1,j,h,k,ho=>step_x ts hN (run ts n) (run_x ts hN n) j h k ho
end
end Go.Proofs.YtgbjpnnockoomaaGreatDoor.Px
