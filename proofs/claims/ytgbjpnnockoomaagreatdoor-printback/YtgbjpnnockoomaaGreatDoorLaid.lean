import Derived.Test.YtgbjpnnockoomaaGreatDoorLz2
import Derived.Test.YtgbjpnnockoomaaGreatDoorRp2
import Derived.Test.YtgbjpnnockoomaaGreatDoorQe
import Derived.Test.YtgbjpnnockoomaaGreatDoorLy
import Derived.Test.YtgbjpnnockoomaaGreatDoorRows
import Derived.ProofKit
import Derived.LaidMore
import Derived.LaidHandle
import Derived.LaidSub
import Derived.Lib.LaidTab
import Derived.OpenShut
import Derived.Stop.Joined
set_option linter.unusedVariables false
set_option linter.unusedSimpArgs false
set_option maxHeartbeats 4000000
set_option maxRecDepth 100000
namespace Go.Proofs.YtgbjpnnockoomaaGreatDoor.Pp
open Go.RowKit Lx Px
def VT (w:World):Prop:=Vars w∧TabOk w
theorem VT.on {w w':World} (h:VT w) (hb:Below w.heap.size w w'):VT w':=⟨h.1.below h.1.lt hb,Lib.tabBelow_of_tabIs h.2 _ hb⟩
theorem blw {w w':World} (h:w.grownBy w' none):Below w.heap.size w w':=(Below.refl _ _).grown h lr (fun k e=>by cases e)
def PT (kids:List Tree):Prop:=OkT 8192 (.mk 1 [] 0 0 kids)∧sz (.mk 1 [] 0 0 kids)≤300000∧Jj.small (.mk 1 [] 0 0 kids)=true
theorem Parse4 (s:ByteArray) (w:World) (hv:VT w) (hs:s.size≤4000):Calls Tryz.prog 5 #[.string s] w fun e w'=>Below w.heap.size w w'∧
 ((∃ kids ao cp st k',e=.returned (.tuple #[.agg #[.int .i64 1,.string ⟨#[]⟩,.int .i64 0,.int .i64 0,.string ⟨#[]⟩,.int .i64 0,.slice ao kids.length cp],.agg #[.int .i64 0,.int .i64 0]])∧Jj.aO w' (.slice ao kids.length cp) kids∧PT kids∧(aY s.toList).2.1=0∧sD (aY s.toList).1=.ok [.mk 1 [] 0 0 kids] st k')
  ∨∃ a b:Int,e=.returned (.tuple #[.agg #[.int .i64 0,.string ⟨#[]⟩,.int .i64 0,.int .i64 0,.string ⟨#[]⟩,.int .i64 0,.slice none 0 0],.agg #[.int .i64 a,.int .i64 b]])∧a≠0∧((aY s.toList).2.1=0→∃ p,sD (aY s.toList).1=.bad p)):=by
 refine (sK s w hv.1).mono ?_
 rintro e w' ⟨hb,hp⟩
 refine ⟨hb, ?_⟩
 rcases hp with ⟨h,rfl⟩ | ⟨h,kd,tx,nm,ps,kids,st,k',ao,cp,hr,rfl,hrow⟩ | ⟨h,p,hr,rfl⟩
 ·exact .inr ⟨_,_,rfl,h,fun e=>absurd e h⟩
 ·left
  obtain ⟨⟨ks,he⟩,h1,h2,h3⟩:=parsed s.toList (by rw [yx];exact hs) h _ _ _ _ hr
  simp only [Tree.mk.injEq] at he
  obtain ⟨rfl,rfl,rfl,rfl,rfl⟩:=he
  exact ⟨kids,ao,cp,st,k',rfl,Jj.aO.of hrow lr,⟨h1,h2,h3⟩,h,hr⟩
 ·exact .inr ⟨4,p,rfl,by decide,fun _=>⟨p,hr⟩⟩
def ancL:List UInt8:=[102,117,110,99,32,109,97,105,110,40,41,123,120,58,61,49,43,50,42,121,59,105,102,32,120,62,51,123,114,101,116,117,114,110,125,125]
def ancP:List UInt8:=[102,117,110,99,32,109,97,105,110,40,41,32,123,10,9,120,32,58,61,32,40,49,32,43,32,40,50,32,42,32,121,41,41,10,9,105,102,32,40,120,32,62,32,51,41,32,123,10,9,9,114,101,116,117,114,110,10,9,125,10,125,10]
def isP (D:Int→List UInt8) (r:R):Bool:=match r with
 | .ok [t] _ _=>pr D 2400010 .file 0 t==ancP
 | _=>false
def dig3 (v:Int):List UInt8:=if v=1 then [49] else if v=2 then [50] else if v=3 then [51] else Lib.itoa v
theorem itoa_3:Lib.itoa=dig3:=by
 have h:∀ k:Nat,k<10→Lib.itoa (k:Int)=[UInt8.ofNat (48+k)]:=fun k hk=>by rw [Lib.itoa_nonneg,Lib.decDigits_one hk]
 funext v
 unfold dig3
 split
 ·rename_i e;subst e;exact h 1 om
 ·split
  ·rename_i e;subst e;exact h 2 om
  ·split
   ·rename_i e;subst e;exact h 3 om
   ·rfl
theorem anc_p:isP dig3 (sD (aY ancL).1)=true:=by kernel_rfl
theorem anc_prt {kids:List Tree} {st:Int} {k':Nat} (h:sD (aY ancL).1=.ok [.mk 1 [] 0 0 kids] st k'):prt (.mk 1 [] 0 0 kids)=ancP:=by
 have h2:=anc_p
 rw [h] at h2
 unfold prt
 rw [itoa_3]
 exact eq_of_beq h2
theorem anchor_any (w:World) (hv:VT w):Calls Tryz.prog 4 #[] w fun e w'=>e=.returned (.bool true)∧Below w.heap.size w w':=by
 have hl:(⟨ancL.toArray⟩:ByteArray).toList=ancL:=by kernel_rfl
 have HP:=zm (Parse4 ⟨ancL.toArray⟩ w hv dc)
 have HV:=zm hv
 clear hv
 go_enter Tryz.func4,Tryz.ntmps4
 go_wp2_with fail
 refine (zk HP).mono ?_
 rintro e w1 ⟨B1,hp⟩
 rw [hl] at hp
 rcases hp with ⟨kids,ao,cp,st,k',rfl,hk,ht,h0,hr⟩ | ⟨a,b,rfl,ha,hn⟩
 ·have hv1:=(zk HV).on B1
  have hg1:Below w1.heap.size w1 ((w1.alloc (nO 1 [] 0 0 ao kids.length cp)).alloc (.cells #[.int .i64 0,.int .i64 0] 27)):=((Below.refl _ _).alloc lr _).alloc zK _
  have HF:=zm (ul ((w1.alloc (nO 1 [] 0 0 ao kids.length cp)).alloc (.cells #[.int .i64 0,.int .i64 0] 27)) 1 [] 0 0 kids ao cp (hk.grown (grown_of rfl hg1)) (hv1.on hg1).2 ht.1 ht.2.1)
  rw [anc_prt hr] at HF
  have HB:=zm (B1.trans (hg1.mono B1.size))
  clear hk ht hr hv1 hg1 hl HP
  rw [show (⟨ancP.toArray⟩:ByteArray)=⟨#[102,117,110,99,32,109,97,105,110,40,41,32,123,10,9,120,32,58,61,32,40,49,32,43,32,40,50,32,42,32,121,41,41,10,9,105,102,32,40,120,32,62,32,51,41,32,123,10,9,9,114,101,116,117,114,110,10,9,125,10,125,10]⟩ from rfl] at HF
  go_wp2_with fail
  refine (zk HF).mono ?_
  rintro e w2 ⟨rfl,hg2⟩
  have hb2:=(zk HB).trans ((blw hg2).mono (zk HB).size)
  go_wp2
  exact bodyPost_ret (v:=.bool true) (by simp [results,Tryz.results4,go_sem]) rfl ⟨rfl,hb2⟩
 ·exfalso
  obtain ⟨p,hp⟩:=hn zG
  have h2:=anc_p
  rw [hp] at h2
  cases h2
end Go.Proofs.YtgbjpnnockoomaaGreatDoor.Pp
namespace Go.Proofs.YtgbjpnnockoomaaGreatDoor.Px
open Lx
def Mo (r r':R):Prop:=r≠.out→r'=r
theorem kG {r:R} : Mo r r:=fun _=>rfl
theorem mo_ite {c:Prop} [Decidable c] {a b a' b':R} (h1:Mo a a') (h2:Mo b b'):Mo (if c then a else b) (if c then a' else b'):=by
 by_cases h:c
 ·rw [if_pos h,if_pos h];exact h1
 ·rw [if_neg h,if_neg h];exact h2
theorem mo_want {ts:List Tok} {k:Nat} {s:List UInt8} {f f':Tok→Nat→R} (h:Mo (f (zp ts k) (k+1)) (f' (zp ts k) (k+1))):Mo (want ts k s f) (want ts k s f'):=mo_ite h kG
theorem mo_name {ts:List Tok} {k:Nat} {f f':Tok→Nat→R} (h:Mo (f (zp ts k) (k+1)) (f' (zp ts k) (k+1))):Mo (bI ts k f) (bI ts k f'):=mo_ite h kG
theorem mo_bind {r r':R} {f f':List Tree→Int→Nat→R} (h:Mo r r') (g:∀ l s k,Mo (f l s k) (f' l s k)):Mo (r.bind f) (r'.bind f'):=by
 cases r with
 | out=>exact fun h=>absurd rfl h
 | bad p=>rw [h (by simp)];exact kG
 | ok l s k=>rw [h (by simp)];exact g l s k
theorem mo_bind1 {r r':R} {f f':Tree→Int→Nat→R} (h:Mo r r') (g:∀ t s k,Mo (f t s k) (f' t s k)):Mo (r.ax f) (r'.ax f'):=by
 cases r with
 | out=>exact fun h=>absurd rfl h
 | bad p=>rw [h (by simp)];exact kG
 | ok l s k=>
   rw [h (by simp)]
   match l with
   | []=>exact kG
   | [t]=>exact g t s k
   | _::_::_=>exact kG
set_option maxHeartbeats 4000000 in
theorem step_mono (ts:List Tok) (rec rec':Job→Bool→Nat→R) (ih:∀ j h k,Mo (rec j h k) (rec' j h k)) (j:Job) (h:Bool) (k:Nat):Mo (step ts rec j h k) (step ts rec' j h k):=by
 cases j
 all_goals
  simp only [step,bK,fB,fH,bF,yo,bJ,gW,gm,aP,dn,bC,dB,dD,dN,yO,cu,aN,dQ,ya,yn,yY,aZ,yt,bP,dJ,yu,dS,bY,aX,gZ,yl,fOp,jy,iw,bW,dK,aQ,fG,fA,yH,bf,yC,aV,bD,eU,yG,eP,yk,dR,fZ,dF,bn,bU,jump,behind]
  repeat' (first
   | exact ih _ _ _
   | exact kG
   | refine mo_want ?_
   | refine mo_name ?_
   | refine mo_ite ?_ ?_
   | (refine mo_bind1 (ih _ _ _) ?_;intro _ _ _)
   | (refine mo_bind (ih _ _ _) ?_;intro _ _ _))
theorem run_mono (ts:List Tok):∀ (n d:Nat) (j:Job) (h:Bool) (k:Nat),Mo (run ts n j h k) (run ts (n+d) j h k)
 | 0,_,_,_,_=>fun h=>absurd rfl h
 | n+1,d,j,h,k=>by
   rw [Nat.succ_add]
   exact step_mono ts (run ts n) (run ts (n+d)) (run_mono ts n d) j h k
theorem Ev.at {ts:List Tok} {j:Job} {h:Bool} {k n:Nat} {r:R} (e:Ev ts j h k r) (hn:run ts n j h k≠.out):run ts n j h k=r:=by
 obtain ⟨n0,e⟩:=e
 have h1:=run_mono ts n n0 j h k hn
 rw [←h1]
 exact e _ (by omega)
theorem Ev.file {ts:List Tok} {h:Bool} {r:R} (e:Ev ts (.fileMore []) h 0 r):run ts (64*ts.length+64+1) (.fileMore []) h 0=r:=e.at (tu ts h)
open Lx Lx.Sp Pp
theorem At_map:∀ (a p b:List Tok),At (p++(a++b)) p.length (a.map er3)
 | [],_,_=>trivial
 | x::a,p,b=>⟨by simp [zp],by
   have h:=At_map a (p++[x]) b
   rw [List.length_append,List.length_singleton,List.append_assoc] at h
   exact h⟩
theorem tH (f:Tree→List TC):∀ l:List Tree,l≠[]→(dW f l).getLast?=some sm
 | [],h=>absurd rfl h
 | [a],_=>by simp [dW]
 | a::b::l,_=>by
   have h:=tH f (b::l) (by simp)
   have e:dW f (a::b::l)=(f a++[sm])++dW f (b::l):=by simp [dW]
   rw [e,List.getLast?_append,h]
   rfl
theorem endT_lin {f:Tree→List TC} {l:List Tree} {ts:List Tok} (h:ts.map er3=dW f l) (k:Int):kS ts k=ts:=by
 unfold kS
 cases e:ts.getLast? with
 | none=>rfl
 | some t=>
   have h1:(ts.map er3).getLast?=some (er3 t):=by rw [List.getLast?_map,e];rfl
   by_cases hl:l=[]
   ·subst hl
    rw [h] at h1
    simp [dW] at h1
   ·rw [h,tH f l hl] at h1
    have h2:er3 t=sm:=(Option.some.inj h1).symm
    have h3:t.kind=5:=congrArg (fun x:TC=>x.1) h2
    have h4:t.text=[59]:=congrArg (fun x:TC=>x.2.1) h2
    simp only [h3,h4]
    rw [if_neg (by decide)]
theorem map_er3 {l' l:List Tree} (h:l'.map er=l.map er) (p:Int):er (nd 1 [] p l')=er (nd 1 [] 0 l):=by rw [ay,ay,h]
theorem back_core {l0:List Tree} {N:Nat} (hX:∀ t∈l0,XD D0 t) (hL:∀ t∈l0,LD t) (hn:∀ k∈l0,nee .decl k<N) {x:List UInt8} (hp:x=l0.flatMap fun k=>pr D0 N .decl 0 k++[10]) (h8:x.length≤8192) :
 (∃ a,aY x=([],3,a))∨((aY x).2.1=0∧∃ t' k2,sD (aY x).1=.ok [t'] 0 k2∧er t'=er (nd 1 [] 0 l0)):=by
 have hpx:=file_px hL hn
 rw [←hp] at hpx
 have hlx:=hpx.2.2 [] none [] trivial (LxR_nil _)
 rw [List.append_nil,List.append_nil] at hlx
 obtain ⟨ts,h1,h2⟩:=hlx (x.length+1) 0 none (by omega) rfl
 rw [lex_D]
 unfold lexD
 rw [if_neg (by omega),h1]
 simp only
 have ha:jQ ts x.length=ts++[⟨6,[],0,x.length⟩]:=by unfold jQ;rw [endT_lin h2]
 rw [ha]
 cases hd:eG 0 (ts++[⟨6,[],0,x.length⟩]) with
 | some a=>exact .inl ⟨a,rfl⟩
 | none=>
   refine .inr ⟨rfl, ?_⟩
   have hat:=At_map ts [] [⟨6,[],0,x.length⟩]
   rw [h2,List.nil_append,List.length_nil] at hat
   have hlen:(dW (tk D0 N .decl) l0).length=ts.length:=by rw [←h2,List.length_map]
   obtain ⟨l',q1,q2⟩:=qA (h:=false) (tk D0 N .decl) l0 [] 0 (fun t m=>hX t m _ (hn t m)) hat (by rw [hlen];simp [zp])
   exact ⟨_,_,q2.file,map_er3 q1 0⟩
theorem prt_nd (l:List Tree):prt (nd 1 [] 0 l)=l.flatMap fun k=>pr Lib.itoa 2400009 .decl 0 k++[10]:=by
 have h:prt (.mk 1 [] 0 0 l)=l.flatMap fun k=>pr Lib.itoa 2400009 .decl 0 k++[10]:=rfl
 exact h
theorem nee_kid {l0:List Tree} (h:sz (nd 1 [] 0 l0)≤300000):∀ k∈l0,nee .decl k<2400009:=fun k m=>by
 have:=qZ (t:=nd 1 [] 0 l0) (s:=k) m
 unfold nee
 simp only [rnk]
 omega
theorem back_pure {l:List UInt8} (hl:l.length≤4000) (h0:(aY l).2.1=0) {t:Tree} {n:Nat} {s:Int} {k':Nat} (hr:run (aY l).1 n (.fileMore []) false 0=.ok [t] s k') (h8:(prt t).length≤8192) :
 (∃ a,aY (prt t)=([],3,a))∨((aY (prt t)).2.1=0∧∃ t' k2,sD (aY (prt t)).1=.ok [t'] 0 k2∧er t'=er t):=by
 obtain ⟨_,_,hsz,_⟩:=parsed l hl h0 t n s k' hr
 have hx:=tok_lx (lex_lx l)
 obtain ⟨l0,e,hX⟩:=run_x (D:=D0) (aY l).1 (fun k h=>((hx k).1 h).2) n (.fileMore []) false 0 (iF _) _ _ _ hr
 obtain ⟨l1,e1,hL⟩:=Ly.run_x (aY l).1 (fun k=>(hx k).1) (fun k=>(hx k).2.1) (fun k=>(hx k).2.2) n (.fileMore []) false 0 (iF _) _ _ _ hr
 simp only [List.cons.injEq,and_true] at e e1
 subst e
 have e2:l0=l1:=congrArg Tree.kids e1
 subst e2
 exact back_core hX hL (nee_kid hsz) (prt_nd l0) h8
end Go.Proofs.YtgbjpnnockoomaaGreatDoor.Px
namespace Go.Proofs.YtgbjpnnockoomaaGreatDoor.Pp
open Go.RowKit Lx Px
theorem ok_re:∀ (n:Nat) (t:Tree),SizeOf.sizeOf t≤n→OkT 8192 (er t)→OkT 8192 t
 | 0,t,h,_=>by cases t;simp at h
 | n+1,.mk k x m p l,h,ho=>by
   rw [iZ,iG] at ho
   rw [iG]
   exact ⟨ho.1,ho.2.1,fun t mt=>ok_re n t (by have:=List.sizeOf_lt_of_mem mt;simp at h;omega) (ho.2.2 _ (List.mem_map.2 ⟨t,mt,rfl⟩))⟩
theorem qW:∀ (n:Nat) (t:Tree),SizeOf.sizeOf t≤n→Jj.small (er t)=Jj.small t
 | 0,t,h=>by cases t;simp at h
 | n+1,.mk k x m p l,h=>by
   rw [iZ,Jj.small,Jj.small,List.map_map,List.length_map]
   congr 2
   apply List.map_congr_left
   intro t mt
   exact qW n t (by have:=List.sizeOf_lt_of_mem mt;simp at h;omega)
theorem PT.back {kids kids2:List Tree} (h:PT kids) (e:er (.mk 1 [] 0 0 kids2)=er (.mk 1 [] 0 0 kids)):PT kids2∧prt (.mk 1 [] 0 0 kids2)=prt (.mk 1 [] 0 0 kids)∧kids2.map er=kids.map er:=by
 refine ⟨⟨ok_re _ _ lr (by rw [e];exact ok_er _ _ lr h.1), ?_, ?_⟩, ?_, ?_⟩
 ·rw [←sz_er _ _ lr,e,sz_er _ _ lr];exact h.2.1
 ·rw [←qW _ _ lr,e,qW _ _ lr];exact h.2.2
 ·rw [←prt_er,e,prt_er]
 ·rw [iZ,iZ] at e
  simpa using e
theorem toL_mk (l:List UInt8):(⟨l.toArray⟩:ByteArray).toList=l:=by rw [ByteArray.toList_eq]
def BackP (kids:List Tree) (X:World) (e:Ending) (w':World):Prop:=Below X.heap.size X w'∧
 ((∃ kids2 ao cp,e=.returned (.tuple #[.agg #[.int .i64 1,.string ⟨#[]⟩,.int .i64 0,.int .i64 0,.string ⟨#[]⟩,.int .i64 0,.slice ao kids2.length cp],.agg #[.int .i64 0,.int .i64 0]])∧Jj.aO w' (.slice ao kids2.length cp) kids2∧PT kids2∧prt (.mk 1 [] 0 0 kids2)=prt (.mk 1 [] 0 0 kids)∧kids2.map er=kids.map er)
 ∨(∃ b:Int,e=.returned (.tuple #[.agg #[.int .i64 0,.string ⟨#[]⟩,.int .i64 0,.int .i64 0,.string ⟨#[]⟩,.int .i64 0,.slice none 0 0],.agg #[.int .i64 1,.int .i64 b]])∧8192<(prt (.mk 1 [] 0 0 kids)).length)
 ∨∃ b:Int,e=.returned (.tuple #[.agg #[.int .i64 0,.string ⟨#[]⟩,.int .i64 0,.int .i64 0,.string ⟨#[]⟩,.int .i64 0,.slice none 0 0],.agg #[.int .i64 3,.int .i64 b]]))
theorem Parse_back {src:List UInt8} (hl:src.length≤4000) (h0:(aY src).2.1=0) {kids:List Tree} {st:Int} {k':Nat} (hr:sD (aY src).1=.ok [.mk 1 [] 0 0 kids] st k') (ht:PT kids) (X:World) (hv:VT X) :
 Calls Tryz.prog 5 #[.string ⟨(prt (.mk 1 [] 0 0 kids)).toArray⟩] X fun e w'=>BackP kids X e w':=by
 refine (sK ⟨(prt (.mk 1 [] 0 0 kids)).toArray⟩ X hv.1).mono ?_
 rintro e w' ⟨hb,hp⟩
 rw [toL_mk] at hp
 refine ⟨hb, ?_⟩
 by_cases h8:(prt (.mk 1 [] 0 0 kids)).length≤8192
 ·rcases back_pure hl h0 hr h8 with ⟨a,ha⟩ | ⟨hz,t',k2,hr2,he⟩
  ·right;right
   rcases hp with ⟨h,rfl⟩ | ⟨h,_⟩ | ⟨h,_⟩
   ·rw [ha];exact ⟨_,rfl⟩
   ·rw [ha] at h;exact absurd h (by simp)
   ·rw [ha] at h;exact absurd h (by simp)
  ·left
   rcases hp with ⟨h,rfl⟩ | ⟨h,kd,tx,nm,ps,kids2,st2,k3,ao,cp,hr3,rfl,hrow⟩ | ⟨h,p,hr3,rfl⟩
   ·exact absurd hz h
   ·rw [hr3] at hr2
    simp only [R.ok.injEq,List.cons.injEq,and_true] at hr2
    obtain ⟨rfl,_,_⟩:=hr2
    obtain ⟨_,ks,he9⟩:=qC _ false _ [] 0 _ _ _ (Nat.zero_le _) hr3
    simp only [List.cons.injEq,and_true,nd,Tree.mk.injEq] at he9
    obtain ⟨rfl,rfl,rfl,rfl,rfl⟩:=he9
    obtain ⟨g1,g2,g3⟩:=ht.back he
    exact ⟨kids2,ao,cp,rfl,Jj.aO.of hrow lr,g1,g2,g3⟩
   ·rw [hr3] at hr2;cases hr2
 ·right;left
  have h9:=lexR_big _ (show 8192<(prt (.mk 1 [] 0 0 kids)).length by omega)
  rcases hp with ⟨h,rfl⟩ | ⟨h,_⟩ | ⟨h,_⟩
  ·rw [h9];exact ⟨_,rfl,by omega⟩
  ·rw [h9] at h;exact absurd h (by decide)
  ·rw [h9] at h;exact absurd h (by decide)
end Go.Proofs.YtgbjpnnockoomaaGreatDoor.Pp
namespace Go.Proofs.YtgbjpnnockoomaaGreatDoor
open Go.ChangeShapes Go.WideShapes Go.ChangeAt Go.WideMaps Go.WideElems Go.RowKit Lx
def laid5:List (String × DataW Unit):=[("math/bits.deBruijn32tab",Rows.laid_math_bits_deBruijn32tab),("math/bits.deBruijn64tab",Rows.laid_math_bits_deBruijn64tab),("internal/strconv.uint64pow10",Rows.laid_internal_strconv_uint64pow10),("errors.errorType",Rows.laid_errors_errorType),("derrick/lex.longestMark",Rows.laid_derrick_lex_longestMark)]
theorem Tryz.own:ownKnob Tryz.prog.godebug=none:=by kernel_rfl
theorem Tryz.et:Tryz.prog.globalNamed "errors.errorType" = some 0:=by kernel_rfl
theorem Tryz.lm:Tryz.prog.globalNamed "derrick/lex.longestMark" = some 1:=by kernel_rfl
theorem Tryz.lmT:(Tryz.prog.globals[1]?).map (·.type)=some 129:=by kernel_rfl
theorem Tryz.pw:Tryz.prog.globalNamed "internal/strconv.uint64pow10" = some 2:=by kernel_rfl
theorem Tryz.pwT:(Tryz.prog.globals[2]?).map (·.type)=some 157:=by kernel_rfl
theorem Tryz.rt:(Tryz.prog.cutTypes.find? (·.1== "internal/reflectlite.rtype")).map (·.2)=some 90:=by kernel_rfl
theorem Tryz.tsize:Tryz.prog.types.size=194:=by kernel_rfl
theorem Tryz.oneRow:((List.range 194).filter fun t=>Tryz.prog.rowNamed t [101,114,114,111,114])=[38]:=by kernel_rfl
theorem tabEq:(Rows.laid_derrick_lex_longestMark:DataW Unit)=Lib.tabData .i8 mTabL:=by kernel_rfl
theorem powEq:(Rows.laid_internal_strconv_uint64pow10:DataW Unit)=Lib.tabData .u64 Lib.pow10Tab:=by kernel_rfl
set_option maxRecDepth 100000 in
theorem vV {W:World} (h:laidMetH Tryz.prog laid5 W):Pp.VT W:=by
 have h':laidMet Tryz.prog [("math/bits.deBruijn32tab",Rows.laid_math_bits_deBruijn32tab),("math/bits.deBruijn64tab",Rows.laid_math_bits_deBruijn64tab),("internal/strconv.uint64pow10",Rows.laid_internal_strconv_uint64pow10),("derrick/lex.longestMark",Rows.laid_derrick_lex_longestMark)] W∧handlesMet Tryz.prog [("errors.errorType",Rows.laid_errors_errorType)] W:=h
 refine ⟨⟨?_, ?_⟩, ?_⟩
 ·obtain ⟨name,u,ty,e1,e2,e3,e4,e5⟩:=h'.2 _ (List.mem_singleton.2 rfl)
  have en:name=[101,114,114,111,114]:=(Option.some.inj e1).symm
  subst en
  obtain rfl:=Option.some.inj (Tryz.rt.symm.trans e2)
  have hm:ty∈(List.range 194).filter fun t=>Tryz.prog.rowNamed t [101,114,114,111,114]:=List.mem_filter.2 ⟨List.mem_range.2 (by rw [←Tryz.tsize];exact e3),e4⟩
  rw [Tryz.oneRow] at hm
  obtain rfl:=List.mem_singleton.1 hm
  have hh:typeHandle Tryz.prog 38=.pointer (some ⟨5,38,none⟩):=by kernel_rfl
  rw [hh] at e5
  simpa using World.var?_cell Tryz.et e5 0
 ·have h1:laidMet Tryz.prog (("derrick/lex.longestMark",Lib.tabData .i8 mTabL)::[]) W:=by
   have:=h'.1.filter (fun x=>x.1== "derrick/lex.longestMark")
   rw [←tabEq]
   exact this
  have ht:Lib.TabIs Tryz.prog W "derrick/lex.longestMark" .i8 mTabL:=Lib.tabIs_of_head Tryz.lm Tryz.lmT Tryz.underlying129 Tryz.underlying128 (by kernel_rfl) (by kernel_rfl) h1
  intro i hi
  exact ht.cell Tryz.lm i hi
 ·have h1:laidMet Tryz.prog (("internal/strconv.uint64pow10",Lib.tabData .u64 Lib.pow10Tab)::[]) W:=by
   have:=h'.1.filter (fun x=>x.1== "internal/strconv.uint64pow10")
   rw [←powEq]
   exact this
  exact Lib.tabIs_of_head Tryz.pw Tryz.pwT Tryz.underlying157 Tryz.underlying147 (by kernel_rfl) (by kernel_rfl) h1
theorem door_met (os:Os) (args:Array Value):laidMetH Tryz.prog laid5 ((World.doorLaid Tryz.prog 400 os).forCall (fun _ _=>0) ⟨#[],args,[]⟩).memory:=
 laidMetH_of_parts3 (fuel:=8) (laidMet_of_run' 8 (by kernel_rfl) (by kernel_rfl)) (by kernel_rfl) (by kernel_rfl)
end Go.Proofs.YtgbjpnnockoomaaGreatDoor
