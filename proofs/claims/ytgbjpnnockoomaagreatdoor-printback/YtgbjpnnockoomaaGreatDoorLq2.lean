import Derived.Test.YtgbjpnnockoomaaGreatDoorRp2
import Derived.Lib.ItoaLen
set_option linter.unusedVariables false
set_option linter.unusedSimpArgs false
set_option maxRecDepth 100000
namespace Go.Proofs.YtgbjpnnockoomaaGreatDoor.Px
open Lx Lx.Sp
theorem kL {f:Nat} {d:List UInt8} {k a:Nat} {last:Option Tok} {ns r:List Tok} (hd:d≠[]) (h:jg d k last=.inr (a,ns)) (h2:lQ f (d.drop a) (k+a) (ns.getLast?.or last)=.inr r):lQ (f+1) d k last=.inr (ns++r):=by
 cases d with
 | nil=>exact absurd rfl hd
 | cons c d=>simp only [lQ,h,h2]
theorem gB (c:UInt8) (d:List UInt8) (k:Nat) (last:Option Tok):jg (c::d) k last=(if c=32∨c=9 then .inr (1,[]) else if c=10 then .inr (1,endD last k)
 else if (c::d).take 2==[47,47] then .inr (((c::d).takeWhile lK).length,[])
 else if isLet c=true then (if 24<((c::d).takeWhile bH).length then .inl k else .inr (((c::d).takeWhile bH).length,[⟨nmK ((c::d).takeWhile bH),(c::d).takeWhile bH,0,k⟩]))
 else if aG c=true then (match kJ (c::d) 0 [] with | .inl p=>.inl (k+p) | .inr q=>.inr (q.1,q.2.map fun t=>{ t with pos:=k }))
 else if c=34 then (match textF (c::d) 0 [] with | .inl p=>.inl (k+p) | .inr q=>.inr (q.1,q.2.map fun t=>{ t with pos:=k }))
 else if jA (c::d)=0 then .inl k else .inr (jA (c::d),[⟨5,(c::d).take (jA (c::d)),0,k⟩])):=rfl
def LxR (d:List UInt8) (lst:Option TC) (r:List TC):Prop:=∀ f k last,d.length≤f→last.map er3=lst→∃ ts,lQ f d k last=.inr ts∧ts.map er3=r
theorem LxR_nil (lst:Option TC):LxR [] lst []:=fun f k last _ _=>⟨[],by cases f <;> rfl,rfl⟩
theorem LxR_tok {x d:List UInt8} {lst:Option TC} {r:List TC} (hx:x≠[]) (tc:TC) (h:∀ k last,jg (x++d) k last=.inr (x.length,[⟨tc.1,tc.2.1,tc.2.2,k⟩])) (hr:LxR d (some tc) r):LxR (x++d) lst (tc::r):=by
 intro f k last hf hl
 have hx1:0<x.length:=by cases x;exact absurd rfl hx;simp
 rw [List.length_append] at hf
 obtain ⟨g,rfl⟩:∃ g,f=g+1:=⟨f-1,by omega⟩
 obtain ⟨ts,e1,e2⟩:=hr g (k+x.length) (some ⟨tc.1,tc.2.1,tc.2.2,k⟩) (by omega) rfl
 refine ⟨_,kL (by intro e;cases x;exact hx rfl;cases e) (h k last) (r:=ts) ?_, ?_⟩
 ·rw [List.drop_left];exact e1
 ·rw [List.map_append,e2];rfl
theorem LxR_none {x d:List UInt8} {lst:Option TC} {r:List TC} (hx:x≠[]) (h:∀ k last,jg (x++d) k last=.inr (x.length,[])) (hr:LxR d lst r):LxR (x++d) lst r:=by
 intro f k last hf hl
 have hx1:0<x.length:=by cases x;exact absurd rfl hx;simp
 rw [List.length_append] at hf
 obtain ⟨g,rfl⟩:∃ g,f=g+1:=⟨f-1,by omega⟩
 obtain ⟨ts,e1,e2⟩:=hr g (k+x.length) last (by omega) hl
 refine ⟨_,kL (by intro e;cases x;exact hx rfl;cases e) (h k last) (r:=ts) ?_,e2⟩
 rw [List.drop_left];exact e1
theorem LxR_sp {c:UInt8} {d:List UInt8} {lst:Option TC} {r:List TC} (hc:c=32∨c=9) (hr:LxR d lst r):LxR (c::d) lst r:=
 LxR_none (x:=[c]) (by simp) (fun k last=>by show jg (c::d) k last=_;rw [gB,if_pos hc];rfl) hr
theorem LxR_nl {d:List UInt8} {t:TC} {r:List TC} (ht:dX t.1 t.2.1=true) (hr:LxR d (some sm) r):LxR (10::d) (some t) (sm::r):=by
 intro f k last hf hl
 cases last with
 | none=>cases hl
 | some u=>
   have hu:er3 u=t:=Option.some.inj hl
   obtain ⟨g,rfl⟩:∃ g,f=g+1:=⟨f-1,by simp at hf;omega⟩
   obtain ⟨ts,e1,e2⟩:=hr g (k+1) (some ⟨5,[59],1,k⟩) (by simp at hf;omega) rfl
   have hp:jg (10::d) k (some u)=.inr (1,[⟨5,[59],1,(k:Int)⟩]):=by
    rw [gB,if_neg (by decide),if_pos rfl]
    have:dX u.kind u.text=true:=by rw [←hu] at ht;exact ht
    simp [endD,this]
   exact ⟨_,kL (by simp) hp e1,by rw [List.map_append,e2];rfl⟩
theorem LxR_nl0 {d:List UInt8} {t:TC} {r:List TC} (ht:dX t.1 t.2.1=false) (hr:LxR d (some t) r):LxR (10::d) (some t) r:=by
 intro f k last hf hl
 cases last with
 | none=>cases hl
 | some u=>
   have hu:er3 u=t:=Option.some.inj hl
   obtain ⟨g,rfl⟩:∃ g,f=g+1:=⟨f-1,by simp at hf;omega⟩
   obtain ⟨ts,e1,e2⟩:=hr g (k+1) (some u) (by simp at hf;omega) hl
   have hp:jg (10::d) k (some u)=.inr (1,[]):=by
    rw [gB,if_neg (by decide),if_pos rfl]
    have:dX u.kind u.text=false:=by rw [←hu] at ht;exact ht
    simp [endD,this]
   exact ⟨_,kL (by simp) hp e1,e2⟩
inductive Qs where | B | E | M
def hs (c:UInt8):Bool:=![61,38,124,45,43,47].contains c
def okd:Qs→List UInt8→Prop
 | _,[]=>True
 | .B,_::_=>True
 | .E,c::_=>bH c=false
 | .M,c::_=>hs c=true
theorem pV {q:Qs} {x:List UInt8} (hx:x≠[]) (h:okd q x) (y:List UInt8):okd q (x++y):=by
 cases x with
 | nil=>exact absurd rfl hx
 | cons c r=>cases q <;> exact h
def lD (T:List TC) (lst:Option TC):Option TC:=T.getLast?.or lst
theorem lastC_app (T U:List TC) (lst:Option TC):lD U (lD T lst)=lD (T++U) lst:=by
 unfold lD
 rw [List.getLast?_append]
 cases U.getLast? <;> rfl
def PX (q:Qs) (x:List UInt8) (T:List TC) (q':Qs):Prop:=okd q x∧(x=[]→T=[]∧q'=q)∧∀ d lst r,okd q' d→LxR d (lD T lst) r→LxR (x++d) lst (T++r)
theorem PX.app {q q' q2:Qs} {x y:List UInt8} {T U:List TC} (h:PX q x T q') (k:PX q' y U q2):PX q (x++y) (T++U) q2:=by
 refine ⟨?_,fun e=>?_,fun d lst r hd hr=>?_⟩
 ·by_cases hx:x=[]
  ·obtain ⟨_,rfl⟩:=h.2.1 hx
   rw [hx,List.nil_append];exact k.1
  ·exact pV hx h.1 y
 ·rw [List.append_eq_nil_iff] at e
  obtain ⟨rfl,rfl⟩:=h.2.1 e.1
  obtain ⟨rfl,rfl⟩:=k.2.1 e.2
  exact ⟨rfl,rfl⟩
 ·rw [List.append_assoc,List.append_assoc]
  have hd2:okd q' (y++d):=by
   by_cases hy:y=[]
   ·obtain ⟨_,rfl⟩:=k.2.1 hy
    rw [hy,List.nil_append];exact hd
   ·exact pV hy k.1 d
  refine h.2.2 (y++d) lst (U++r) hd2 (k.2.2 d _ r hd ?_)
  rw [lastC_app];exact hr
theorem jP (q:Qs):PX q [] [] q:=⟨by cases q <;> trivial,fun _=>⟨rfl,rfl⟩,fun d lst r _ h=>h⟩
theorem qp {q q':Qs} {x:List UInt8} (hx:x≠[]) (tc:TC) (h0:okd q x) (h:∀ d,okd q' d→∀ k last,jg (x++d) k last=.inr (x.length,[⟨tc.1,tc.2.1,tc.2.2,k⟩])):PX q x [tc] q':=
 ⟨h0,fun e=>absurd e hx,fun d lst r hd hr=>LxR_tok hx tc (h d hd) hr⟩
theorem cO {q:Qs} : PX q [32] [] .B:=⟨by cases q <;> first | trivial | rfl,(fun e=>by cases e),fun d lst r _ h=>LxR_sp (.inl rfl) h⟩
theorem mJ (d:Nat):PX .B (bV d) [] .B:=by
 unfold bV
 induction d with
 | zero=>exact jP _
 | succ d ih=>
   rw [List.replicate_succ]
   exact PX.app (x:=[9]) (T:=[]) ⟨trivial,(fun e=>by cases e),fun d lst r _ h=>LxR_sp (.inr rfl) h⟩ ih
theorem PX_nl {q q':Qs} {x:List UInt8} {T:List TC} {t:TC} (h:PX q x T q') (hT:T.getLast?=some t) (ht:dX t.1 t.2.1=true):PX q (x++[10]) (T++[sm]) .B:=by
 have hx:x≠[]:=fun e=>by rw [(h.2.1 e).1] at hT;cases hT
 refine ⟨pV hx h.1 _,fun e=>by simp at e,fun d lst r _ hr=>?_⟩
 rw [List.append_assoc,List.append_assoc]
 refine h.2.2 _ lst _ (by cases q' <;> first | trivial | rfl) ?_
 have e1:lD T lst=some t:=by unfold lD;rw [hT];rfl
 rw [e1]
 refine LxR_nl ht ?_
 have e2:lD (T++[sm]) lst=some sm:=by unfold lD;simp
 rw [e2] at hr;exact hr
theorem PX_nl0 {q q':Qs} {x:List UInt8} {T:List TC} {t:TC} (h:PX q x T q') (hT:T.getLast?=some t) (ht:dX t.1 t.2.1=false):PX q (x++[10]) T .B:=by
 have hx:x≠[]:=fun e=>by rw [(h.2.1 e).1] at hT;cases hT
 refine ⟨pV hx h.1 _,fun e=>by simp at e,fun d lst r _ hr=>?_⟩
 rw [List.append_assoc]
 refine h.2.2 _ lst _ (by cases q' <;> first | trivial | rfl) ?_
 have e1:lD T lst=some t:=by unfold lD;rw [hT];rfl
 rw [e1] at hr ⊢
 exact LxR_nl0 ht hr
theorem vS (p:UInt8→Bool) {d:List UInt8} (hd:∀ c r,d=c::r→p c=false):∀ x:List UInt8,(∀ c∈x,p c=true)→(x++d).takeWhile p=x
 | [],_=>by
   cases d with
   | nil=>rfl
   | cons c r=>simp [hd c r rfl]
 | c::x,h=>by rw [List.cons_append,List.takeWhile_cons,if_pos (h c (by simp)),vS p hd x fun d hd=>h d (by simp [hd])]
theorem vT {c:UInt8} (h:c≠47) (d:List UInt8):((c::d).take 2==[47,47])=false:=by
 rw [beq_eq_false_iff_ne]
 intro h2
 cases d with
 | nil=>simp at h2
 | cons e d=>simp at h2;exact h h2.1
def rV (x:List UInt8):Bool:=(match x with | []=>false | c::_=>isLet c)&&x.all bH&&decide (x.length≤24)
theorem aW {q:Qs} (hq:q≠.E) {x:List UInt8} (hx:rV x=true):PX q x [nw x] .E:=by
 cases x with
 | nil=>cases hx
 | cons c r=>
   simp only [rV,Bool.and_eq_true,decide_eq_true_eq,List.all_eq_true] at hx
   obtain ⟨⟨h1,h2⟩,h3⟩:=hx
   have hne:∀ e:UInt8,isLet e=false→c≠e:=fun e he h=>by rw [h,he] at h1;cases h1
   refine qp (by simp) (nw (c::r)) ?_ fun d hd k last=>?_
   ·cases q with
    | B=>trivial
    | E=>exact absurd rfl hq
    | M=>
      show hs c=true
      unfold hs
      simp only [Bool.not_eq_true',List.contains_eq_mem,List.mem_cons,List.not_mem_nil,or_false,decide_eq_false_iff_not,not_or]
      exact ⟨hne _ (by decide),hne _ (by decide),hne _ (by decide),hne _ (by decide),hne _ (by decide),hne _ (by decide)⟩
   ·have tw:=vS bH (d:=d) (fun c r e=>by subst e;exact hd) (c::r) h2
    show jg (c::(r++d)) k last=_
    rw [List.cons_append] at tw
    rw [gB,if_neg (by intro h;rcases h with h | h <;> exact hne _ (by decide) h),if_neg (hne _ (by decide)),if_neg (by rw [vT (hne _ (by decide))];simp),if_pos h1,tw,if_neg (by omega)]
    rfl
theorem mlen_2 {c e:UInt8} (d:List UInt8) (h:kE [c,e]=true):jA (c::e::d)=2:=by
 have h0:(iJ.all fun y=>match y with | c::_=>decide (iI c.toNat=2) | []=>false)=true:=by decide
 have h1:=List.all_eq_true.1 h0 _ (List.contains_iff_mem.1 h)
 have h2:iI c.toNat=2:=of_decide_eq_true h1
 show (if iI c.toNat=2 then (if kE [c,e] then 2 else if c=124 then 0 else 1) else if iI c.toNat=1 then 1 else 0)=2
 rw [if_pos h2,if_pos h]
theorem mlen_1 {c:UInt8} {d:List UInt8} (hm:iI c.toNat=2∨iI c.toNat=1) (h124:c≠124) (h:∀ e r,d=e::r→kE [c,e]=false):jA (c::d)=1:=by
 show (if iI c.toNat=2 then (if kE ((c::d).take 2) then 2 else if c=124 then 0 else 1) else if iI c.toNat=1 then 1 else 0)=1
 have hp:kE ((c::d).take 2)=false:=by
  cases d with
  | nil=>
    show kE [c]=false
    rw [Bool.eq_false_iff]
    intro h1
    have h0:(iJ.all fun y=>decide (y.length=2))=true:=by decide
    have:=of_decide_eq_true (List.all_eq_true.1 h0 _ (List.contains_iff_mem.1 h1))
    simp at this
  | cons e r=>exact h e r rfl
 rcases hm with hm | hm
 ·rw [if_pos hm,hp,if_neg (by decide),if_neg h124]
 ·rw [if_neg (by omega),if_pos hm]
def mkC:List UInt8:=[40,41,42,44,46,58,59,91,93,123,125,33,37,38,43,45,47,60,61,62]
theorem mk_facts {c:UInt8} (h:mkC.contains c=true):(iI c.toNat=2∨iI c.toNat=1)∧c≠124∧¬(c=32∨c=9)∧c≠10∧isLet c=false∧aG c=false∧c≠34:=by
 have h0:(mkC.all fun c=>decide ((iI c.toNat=2∨iI c.toNat=1)∧c≠124∧¬(c=32∨c=9)∧c≠10∧isLet c=false∧aG c=false∧c≠34))=true:=by decide
 exact of_decide_eq_true (List.all_eq_true.1 h0 _ (List.contains_iff_mem.1 h))
theorem PX_one {q q':Qs} {c:UInt8} (hc:mkC.contains c=true) (h0:okd q [c]) (h:∀ e r,okd q' (e::r)→kE [c,e]=false∧(c≠47∨e≠47)):PX q [c] [mw [c]] q':=by
 obtain ⟨f1,f2,f3,f4,f5,f6,f7⟩:=mk_facts hc
 refine qp (by simp) (mw [c]) h0 fun d hd k last=>?_
 have hm:jA (c::d)=1:=mlen_1 f1 f2 fun e r he=>(h e r (by rw [←he];exact hd)).1
 have h47:((c::d).take 2==[47,47])=false:=by
  rw [beq_eq_false_iff_ne]
  intro h2
  cases d with
  | nil=>simp at h2
  | cons e d=>
    simp at h2
    rcases (h e d hd).2 with g | g
    ·exact g h2.1
    ·exact g h2.2
 show jg (c::d) k last=_
 rw [gB,if_neg f3,if_neg f4,if_neg (by rw [h47];simp),if_neg (by rw [f5];simp),if_neg (by rw [f6];simp),if_neg f7,hm,if_neg (by decide)]
 rfl
theorem hs_facts {e:UInt8} (h:hs e=true) (c:UInt8):kE [c,e]=false∧(c≠47∨e≠47):=by
 unfold hs at h
 simp only [Bool.not_eq_true',List.contains_eq_mem,List.mem_cons,List.not_mem_nil,or_false,decide_eq_false_iff_not,not_or] at h
 refine ⟨?_,.inr h.2.2.2.2.2⟩
 rw [Bool.eq_false_iff]
 intro hp
 have h0:(iJ.all fun y=>match y with | [_,e]=>[61,38,124,45,43].contains e | _=>false)=true:=by decide
 have h1:=List.all_eq_true.1 h0 _ (List.contains_iff_mem.1 hp)
 simp only [List.contains_eq_mem,List.mem_cons,List.not_mem_nil,or_false,decide_eq_true_eq] at h1
 rcases h1 with h1 | h1 | h1 | h1 | h1
 ·exact h.1 h1
 ·exact h.2.1 h1
 ·exact h.2.2.1 h1
 ·exact h.2.2.2.1 h1
 ·exact h.2.2.2.2.1 h1
theorem jJ {q:Qs} {c:UInt8} (hc:mkC.contains c=true) (h0:okd q [c]):PX q [c] [mw [c]] .M:=PX_one hc h0 fun e r h=>hs_facts h c
end Go.Proofs.YtgbjpnnockoomaaGreatDoor.Px
namespace Go.Proofs.YtgbjpnnockoomaaGreatDoor.Lx.Sp
def rJ (c:UInt8):List UInt8:=if c=10 then [92,110] else if c=34∨c=92 then [92,c] else [c]
def okB (c:UInt8):Bool:=c==10||(decide (32≤(c.toNat:Int))&&decide ((c.toNat:Int)≤126))
def kC (xs:List UInt8):List UInt8:=xs.flatMap rJ
theorem txt_enc (q:List UInt8):∀ (xs:List UInt8),(∀ c∈xs,okB c=true)→txt (kC xs++34::q)=(some xs,(kC xs).length+1)
 | [],_=>by simp [kC,mD]
 | c::r,h=>by
   have hc:=h c (by simp)
   have ih:=txt_enc q r (fun d hd=>h d (by simp [hd]))
   have e:kC (c::r)=rJ c++kC r:=by simp [kC]
   rw [e]
   by_cases h1:c=10
   ·subst h1
    have e2:rJ 10=[92,110]:=by decide
    rw [e2]
    show txt (92::110::(kC r++34::q))=_
    rw [oh 110 10 _ (by decide),ih]
    simp
   ·by_cases h2:c=34∨c=92
    ·have e2:rJ c=[92,c]:=by simp [rJ,h1,h2]
     rw [e2]
     show txt (92::c::(kC r++34::q))=_
     have he:rM c=some c:=by rcases h2 with rfl | rfl <;> decide
     rw [oh c c _ he,ih]
     simp
    ·have e2:rJ c=[c]:=by simp [rJ,h1,h2]
     rw [e2]
     show txt (c::(kC r++34::q))=_
     have hp:dO c=true:=by
      have n1:¬(c.toNat:Int)=34:=fun e=>h2 (.inl (UInt8.toNat_inj.1 (by simpa using Int.ofNat.inj e)))
      have n2:¬(c.toNat:Int)=92:=fun e=>h2 (.inr (UInt8.toNat_inj.1 (by simpa using Int.ofNat.inj e)))
      simp [okB,h1] at hc
      simp only [dO,plnZ,decide_eq_false n1,decide_eq_false n2]
      simp
      omega
     rw [mr c _ hp,ih]
     simp
theorem num_form (d:List UInt8):kJ d 0 []=if iM (d.takeWhile aG)=true then .inl 0 else if lF d (d.takeWhile aG).length=true then .inl (d.takeWhile aG).length else .inr ((d.takeWhile aG).length,[⟨2,d.takeWhile aG,dY (d.takeWhile aG),(0:Nat)⟩]):=by
 unfold kJ
 have e:yL aG d 0=(d.takeWhile aG).length:=by rw [re_D];simp
 have e2:sub d 0 (d.takeWhile aG).length=d.takeWhile aG:=by
  have:=uh d 0 (d.takeWhile aG).length
  rw [Nat.zero_add] at this
  rw [this,List.drop_zero,qg]
 rw [e,e2]
 rfl
end Go.Proofs.YtgbjpnnockoomaaGreatDoor.Lx.Sp
namespace Go.Proofs.YtgbjpnnockoomaaGreatDoor.Px
open Lx Lx.Sp
theorem enc_qB (c:UInt8):rJ c=qB c:=by
 unfold rJ qB
 split
 ·rfl
 ·split
  ·rename_i h
   rcases h with rfl | rfl <;> rfl
  ·rename_i h
   simp only [not_or] at h
   rw [if_neg h.1,if_neg h.2]
def isSt (x:List UInt8):Bool:=x.all okB&&decide (x.length≤256)
theorem PX_str {q:Qs} {x:List UInt8} (hx:isSt x=true):PX q (nN x) [(3,x,0)] .E:=by
 simp only [isSt,Bool.and_eq_true,decide_eq_true_eq,List.all_eq_true] at hx
 have hq:nN x=34::(kC x++[34]):=by unfold nN kC;simp only [show rJ=qB from funext enc_qB]
 rw [hq]
 refine qp (by simp) (3,x,0) (by cases q <;> first | trivial | rfl) fun d hd k last=>?_
 have e:34::(kC x++[34])++d=34::(kC x++34::d):=by simp
 rw [e,gB,if_neg (by decide),if_neg (by decide),if_neg (by rw [vT (by decide)];simp),if_neg (by decide),if_neg (by decide),if_pos rfl]
 have ht:textF (34::(kC x++34::d)) 0 []=.inr (0+1+((kC x).length+1),[⟨3,x,0,(0:Nat)⟩]):=by
  unfold textF
  have e2:(34::(kC x++34::d)).drop (0+1)=kC x++34::d:=rfl
  rw [e2,txt_enc d x hx.1]
  simp only
  rw [if_neg (by omega)]
  rfl
 rw [ht]
 have e3:0+1+((kC x).length+1)=(34::(kC x++[34])).length:=by simp;omega
 rw [e3]
 rfl
theorem dd_facts:∀ (n u:Nat),u≤n→(∀ c∈Lib.decDigits u,aG c=true)∧dY (Lib.decDigits u)=u∧((Lib.decDigits u).head?=some 48→u=0)∧Lib.decDigits u≠[]:=by
 have h48:∀ v,v<10→aG (UInt8.ofNat (48+v))=true∧((UInt8.ofNat (48+v)).toNat:Int)-48=v∧(UInt8.ofNat (48+v)=48→v=0):=by decide
 intro n
 induction n with
 | zero=>
   intro u hu
   obtain rfl:u=0:=by omega
   rw [Lib.decDigits_one (by omega)]
   decide
 | succ n ih=>
   intro u hu
   by_cases h:u<10
   ·obtain ⟨f1,f2,f3⟩:=h48 u h
    rw [Lib.decDigits_one h]
    refine ⟨fun c m=>by simp only [List.mem_singleton] at m;subst m;exact f1, ?_,fun e=>f3 (by simpa using e),by simp⟩
    simp only [dY,List.foldl_cons,List.foldl_nil]
    omega
   ·have hd:Lib.decDigits u=Lib.decDigits (u/10)++[UInt8.ofNat (48+u%10)]:=by rw [Lib.decDigits,dif_neg h]
    obtain ⟨g1,g2,g3,g4⟩:=ih (u/10) (by omega)
    obtain ⟨f1,f2,f3⟩:=h48 (u%10) (by omega)
    rw [hd]
    refine ⟨fun c m=>?_, ?_,fun e=>?_,by simp⟩
    ·rcases List.mem_append.1 m with m | m
     ·exact g1 c m
     ·simp only [List.mem_singleton] at m;subst m;exact f1
    ·rw [jo,g2,f2];omega
    ·exfalso
     cases hq:Lib.decDigits (u/10) with
     | nil=>exact g4 hq
     | cons c r=>
       rw [hq] at e g3
       have:=g3 (by simpa using e)
       omega
theorem nd_le:∀ (k u:Nat),u<10 ^ (k+1)→Lib.nDigits u≤k+1
 | 0,u,h=>by rw [Lib.nDigits_small (by simpa using h)];omega
 | k+1,u,h=>by
   by_cases h10:u<10
   ·rw [Lib.nDigits_small h10];omega
   ·rw [Lib.nDigits_big h10]
    have:=nd_le k (u/10) (by rw [Nat.pow_succ] at h;omega)
    omega
theorem PX_num {q:Qs} (hq:q≠.E) {v:Int} (h0:0≤v) (h1:v<1000000000000000000):PX q (Lib.itoa v) [(2,Lib.itoa v,v)] .E:=by
 obtain ⟨u,rfl⟩:∃ u:Nat,v=u:=⟨v.toNat,by omega⟩
 rw [Lib.itoa_nonneg]
 obtain ⟨f1,f2,f3,f4⟩:=dd_facts u u (Nat.le_refl _)
 have hlen:(Lib.decDigits u).length≤18:=by
  rw [Lib.decDigits_length]
  exact nd_le 17 u (by rw [show 10 ^ (17+1)=1000000000000000000 from rfl];omega)
 have hb:iM (Lib.decDigits u)=false:=by
  unfold iM
  rw [Bool.or_eq_false_iff]
  refine ⟨by simp;omega, ?_⟩
  rw [Bool.and_eq_false_iff]
  by_cases h48:(Lib.decDigits u).head?=some 48
  ·left
   obtain rfl:=f3 h48
   rw [Lib.decDigits_one (by omega)];rfl
  ·right
   rw [beq_eq_false_iff_ne];exact h48
 cases hx:Lib.decDigits u with
 | nil=>exact absurd hx f4
 | cons c r=>
   rw [hx] at f1 f2 hb
   have hcd:aG c=true:=f1 c (by simp)
   have hne:∀ e:UInt8,aG e=false→c≠e:=fun e he h=>by rw [h,he] at hcd;cases hcd
   refine qp (by simp) (2,c::r,(u:Int)) ?_ fun d hd k last=>?_
   ·cases q with
    | B=>trivial
    | E=>exact absurd rfl hq
    | M=>
      show hs c=true
      unfold hs
      simp only [Bool.not_eq_true',List.contains_eq_mem,List.mem_cons,List.not_mem_nil,or_false,decide_eq_false_iff_not,not_or]
      exact ⟨hne _ (by decide),hne _ (by decide),hne _ (by decide),hne _ (by decide),hne _ (by decide),hne _ (by decide)⟩
   ·have hd2:∀ e r,d=e::r→aG e=false∧isLet e=false:=fun e r he=>by
     subst he
     have:bH e=false:=hd
     simp only [bH,Bool.or_eq_false_iff] at this
     exact ⟨this.2,this.1⟩
    have tw:=vS aG (d:=d) (fun e r he=>(hd2 e r he).1) (c::r) f1
    have hl:lF (c::r++d) (c::r).length=false:=by
     unfold lF
     rw [List.getElem?_append_right (Nat.le_refl _),Nat.sub_self]
     cases d with
     | nil=>rfl
     | cons a d=>exact (hd2 a d rfl).2
    have hn:kJ (c::r++d) 0 []=.inr ((c::r).length,[⟨2,c::r,dY (c::r),(0:Nat)⟩]):=by
     rw [num_form,tw,if_neg (by rw [hb];simp),if_neg (by rw [hl];simp)]
    show jg (c::(r++d)) k last=_
    have hlet:isLet c=false:=by
     rw [Bool.eq_false_iff]
     intro h
     simp [isLet,letZ,aG,digZ] at h hcd
     omega
    rw [List.cons_append] at hn
    rw [gB,if_neg (by intro h;rcases h with h | h <;> exact hne _ (by decide) h),if_neg (hne _ (by decide)),if_neg (by rw [vT (hne _ (by decide))];simp),if_neg (by rw [hlet];simp),if_pos hcd,hn,f2]
    rfl
end Go.Proofs.YtgbjpnnockoomaaGreatDoor.Px
