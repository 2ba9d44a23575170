import Derived.Test.YtgbjpnnockoomaaGreatDoorSteps
import Derived.Test.YtgbjpnnockoomaaGreatDoorPb8
set_option linter.unusedVariables false
set_option linter.unusedSimpArgs false
set_option maxHeartbeats 40000000
set_option maxRecDepth 100000
set_option maxHeartbeats 20000000
namespace Go.Proofs.YtgbjpnnockoomaaGreatDoor.Px
open Lx
def I6 (v:Int):Prop:=-9223372036854775808≤v∧v≤9223372036854775807
theorem qi:I6 0:=⟨om,om⟩
def OkT (M:Nat):Tree→Prop
 | .mk _ x n _ l=>x.length≤M∧I6 n∧∀ t∈l,OkT M t
def OkL (M:Nat) (l:List Tree):Prop:=∀ t∈l,OkT M t
theorem iG (M:Nat) (k:Int) (x:List UInt8) (n p:Int) (l:List Tree):OkT M (.mk k x n p l)=(x.length≤M∧I6 n∧OkL M l):=by rw [OkT];rfl
theorem jZ (M:Nat) (k:Int) (x:List UInt8) (p:Int) (l:List Tree):OkT M (nd k x p l)=(x.length≤M∧OkL M l):=by rw [nd,iG];simp [qi]
theorem jY (M:Nat):OkL M []=True:=by simp [OkL]
theorem iW (M:Nat) (t:Tree) (l:List Tree):OkL M (t::l)=(OkT M t∧OkL M l):=by simp [OkL]
theorem lX (M:Nat) (l r:List Tree):OkL M (l++r)=(OkL M l∧OkL M r):=by
 simp only [OkL,List.mem_append,eq_iff_iff]
 exact ⟨fun h=>⟨fun t m=>h t (.inl m),fun t m=>h t (.inr m)⟩,fun h t m=>m.elim (h.1 t) (h.2 t)⟩
theorem kT (M:Nat):OkT M aB=True:=by rw [aB,jZ];simp [OkL]
theorem jS (M:Nat) (t:Tree):OkT M (alone t)=OkT M t:=by rw [alone,jZ,iW,jY];simp
theorem qo {M:Nat} {t:Tree} (h:OkT M t):OkL M t.kids:=by cases t;rw [iG] at h;exact h.2.2
theorem kU {M:Nat} {t:Tree} (h:OkT M t):t.text.length≤M:=by cases t;rw [iG] at h;exact h.1
def OJ (M:Nat):Job→Prop
 | .listMore _ acc=>OkL M acc | .stmts acc=>OkL M acc | .acting t _=>OkT M t | .clausesMore _ acc=>OkL M acc | .caseMore acc=>OkL M acc | .opOf t _=>OkT M t
 | .primMore t _=>OkT M t | .bracketed t _=>OkT M t | .bracedMore _ acc=>OkL M acc | .fieldsMore acc=>OkL M acc | .fileMore acc=>OkL M acc
 | _=>True
def GB2:Job→Prop
 | .builtin r=>r=.makeArgs∨r=.newArgs∨r=.args
 | _=>True
theorem nH (M:Nat) (it:It):OJ M it.job=True:=by cases it <;> rfl
theorem sign_le {M:Nat} {ts:List Tok} (h:∀ k,(zp ts k).text.length≤M) (k:Nat):(yI ts k).length≤M:=by
 unfold yI;split
 ·exact h k
 ·simp
theorem step_okn (M:Nat) (hM:20≤M) (ts:List Tok) (ht1:∀ k,(zp ts k).text.length≤M) (ht2:∀ k,I6 (zp ts k).num) (hs:∀ k,(yI ts k).length≤M) (rec:Job→Bool→Nat→R) (ih:∀ j h k,GB2 j→OJ M j→F (fun l _ _=>OkL M l) (rec j h k)) (j:Job) (h:Bool) (k:Nat) (hb:GB2 j) (ho:OJ M j):F (fun l _ _=>OkL M l) (step ts rec j h k):=by
 cases j
 all_goals
  simp only [step,bK,fB,fH,bF,yo,bJ,gW,gm,aP,dn,bC,dB,dD,dN,yO,cu,aN,dQ,ya,yn,yY,aZ,yt,bP,dJ,yu,dS,bY,aX,gZ,yl,fOp,jy,iw,bW,dK,aQ,fG,fA,yH,bf,yC,aV,bD,eU,yG,eP,yk,dR,fZ,dF,bn,bU,jump,behind,OJ] at ho ⊢
  (try have hox:=kU ho)
  (try (rename_i it acc;(have hit:It:=it);clear hit;cases it <;> simp only [It.job]))
  (try (rename_i it;(have hit:It:=it);clear hit;cases it <;> simp only [It.job]))
  (try (rcases (show _∨_∨_ from hb) with rfl | rfl | rfl))
  (try (rename_i c acc;cases c <;> simp only [Bool.false_eq_true,if_false,if_true]))
  repeat' (first
   | exact aS
   | refine au ?_
   | refine jU ?_
   | refine ai (fun _=>?_) (fun _=>?_)
   | (refine af (ih _ _ _ zS (by first | trivial | (simp [OJ,jY,iW,lX,jZ,iG,kT,jS,nH,qi, *] <;> omega))) ?_
      intro t _ _ hx
      (try simp only [jY,iW,lX,and_true] at hx)
      have hk1:=qo hx
      have hk2:=kU hx)
   | (refine aA (ih _ _ _ zS (by first | trivial | (simp [OJ,jY,iW,lX,jZ,iG,kT,jS,nH,qi, *] <;> omega))) ?_
      intro _ _ _ hx)
   | (refine bZ (ih _ _ _ zS (by first | trivial | (simp [OJ,jY,iW,lX,jZ,iG,kT,jS,nH,qi, *] <;> omega))) ?_
      intro _ _ _ hx
      exact hx)
   | (refine aj ?_
      first | trivial | assumption | (simp [OJ,jY,iW,lX,jZ,iG,kT,jS,nH,qi, *] <;> omega) | (split <;> (simp [OJ,jY,iW,lX,jZ,iG,kT,jS,nH,qi, *] <;> omega))))
theorem run_okn (M:Nat) (hM:20≤M) (ts:List Tok) (ht1:∀ k,(zp ts k).text.length≤M) (ht2:∀ k,I6 (zp ts k).num):∀ (n:Nat) (j:Job) (h:Bool) (k:Nat),GB2 j→OJ M j→F (fun l _ _=>OkL M l) (run ts n j h k)
 | 0,_,_,_,_,_=>fun _ _ _ e=>by cases e
 | n+1,j,h,k,hb,ho=>step_okn M hM ts ht1 ht2 (sign_le ht1) (run ts n) (run_okn M hM ts ht1 ht2 n) j h k hb ho
open Lx
def TOk (t:Tok):Prop:=t.text.length≤8192∧I6 t.num
theorem sub_le (l:List UInt8) (a b:Nat):(sub l a b).length≤l.length:=by unfold sub;simp;omega
theorem endT_ok {ts:List Tok} {k:Int} (h:∀ t∈ts,TOk t):∀ t∈kS ts k,TOk t:=by
 unfold kS
 split
 ·split
  ·intro t m
   rcases List.mem_append.1 m with m | m
   ·exact h t m
   ·simp only [List.mem_singleton] at m;subst m;exact ⟨by simp,by simp [I6]⟩
  ·exact h
 ·exact h
theorem nR {ts:List Tok} {x:Tok} (h:∀ t∈ts,TOk t) (hx:TOk x):∀ t∈ts++[x],TOk t:=fun t m=>(List.mem_append.1 m).elim (h t) (fun m=>by simp only [List.mem_singleton] at m;subst m;exact hx)
theorem num_ok (l:List UInt8) (k:Nat) (hn:¬iM (sub l k (yL aG l k))=true):I6 (dY (sub l k (yL aG l k))):=by
 have h18:(sub l k (yL aG l k)).length≤18:=by
  unfold iM at hn
  simp only [Bool.or_eq_true,decide_eq_true_eq,not_or] at hn
  omega
 have h1:=pU _ _ rfl (gG aG l k)
 have h2:=qO _ 18 h18
 have h3:p10 18=1000000000000000000:=by decide
 exact ⟨om,om⟩
theorem partF_ok (l:List UInt8) (hl:l.length≤8192) (k:Nat) (ts:List Tok) (h:∀ t∈ts,TOk t) (k':Nat) (ts':List Tok) (hp:jh l k ts=.inr (k',ts')):∀ t∈ts',TOk t:=by
 have hsub:∀ a b,(sub l a b).length≤8192:=fun a b=>Nat.le_trans (sub_le l a b) hl
 unfold jh at hp
 split at hp
 ·cases hp
 ·split at hp
  ·cases hp;exact h
  ·split at hp
   ·cases hp;exact endT_ok h
   ·split at hp
    ·cases hp;exact h
    ·split at hp
     ·unfold lJ at hp
      split at hp
      ·cases hp
      ·cases hp;exact nR h ⟨hsub _ _,qi⟩
     ·split at hp
      ·unfold kJ at hp
       split at hp
       ·cases hp
       ·rename_i hn
        split at hp
        ·cases hp
        ·cases hp;exact nR h ⟨hsub _ _,num_ok l k hn⟩
      ·split at hp
       ·unfold textF at hp
        split at hp
        ·cases hp
        ·split at hp
         ·cases hp
         ·rename_i hm
          cases hp;exact nR h ⟨by simp;omega,qi⟩
       ·unfold lH at hp
        split at hp
        ·cases hp
        ·cases hp;exact nR h ⟨hsub _ _,qi⟩
theorem scanF_ok (l:List UInt8) (hl:l.length≤8192):∀ (f k:Nat) (ts:List Tok),(∀ t∈ts,TOk t)→∀ ts',fO f l k ts=.inr ts'→∀ t∈ts',TOk t
 | 0,k,ts,h,ts',e=>by cases e;exact h
 | f+1,k,ts,h,ts',e=>by
   unfold fO at e
   split at e
   ·split at e
    ·cases e
    ·rename_i q hq
     exact scanF_ok l hl f q.1 q.2 (partF_ok l hl k ts h q.1 q.2 hq) ts' e
   ·cases e;exact h
theorem lex_ok (l:List UInt8) (h0:(aY l).2.1=0):∀ t∈(aY l).1,TOk t:=by
 unfold aY at h0 ⊢
 split
 ·intro t m;cases m
 ·rename_i hl
  split
  ·intro t m;cases m
  ·rename_i ts hs
   split
   ·intro t m;cases m
   ·have:=scanF_ok l om _ 0 [] (fun t m=>by cases m) ts hs
    exact nR (endT_ok this) ⟨by simp,qi⟩
theorem tok_ok {ts:List Tok} (h:∀ t∈ts,TOk t) (k:Nat):TOk (zp ts k):=by
 unfold zp
 rw [List.getD_eq_getElem?_getD]
 cases e:ts[k]? with
 | some x=>exact h x (List.mem_of_getElem? e)
 | none=>exact ⟨by simp,qi⟩
theorem parse_ok (l:List UInt8) (h0:(aY l).2.1=0) (n:Nat) (hb:Bool) (kids:List Tree) (s:Int) (k':Nat) (hr:run (aY l).1 n (.fileMore []) hb 0=.ok [nd 1 [] 0 kids] s k'):OkL 8192 kids:=by
 have h:=lex_ok l h0
 have this:OkL 8192 [nd 1 [] 0 kids]:=run_okn 8192 om (aY l).1 (fun k=>(tok_ok h k).1) (fun k=>(tok_ok h k).2) n (.fileMore []) hb 0 trivial (by simp [OJ,OkL]) _ _ _ hr
 rw [iW,jZ] at this
 exact this.1.2
open Lx
def pz (t:Tree) (i:Nat):Nat:=((t.kids.map sz)[i]?).getD 0
def ss (l:List Tree):Nat:=(l.map sz).sum
theorem pX (t:Tree):ss t.kids+1≤sz t:=by cases t;rw [nX];unfold ss;simp only [Tree.kids];split <;> omega
theorem pz4 (t:Tree):pz t 0+pz t 1+pz t 2+pz t 3+1≤sz t:=by
 have h:=pX t
 unfold pz ss at *
 generalize t.kids.map sz=l at *
 match l with
 | []=>simp at *;omega
 | [a]=>simp at *;omega
 | [a,b]=>simp at *;omega
 | [a,b,c]=>simp at *;omega
 | a::b::c::e::r=>simp at *;omega
theorem pz_drop (t:Tree):pz t 0+ss (t.kids.drop 1)+1≤sz t:=by
 have h:=pX t
 unfold pz ss at *
 rw [List.map_drop]
 generalize t.kids.map sz=l at *
 cases l with
 | nil=>simp at *;omega
 | cons a r=>simp at *;omega
theorem pz_take (t:Tree):ss (t.kids.take (t.kids.length-1))+pz t (t.kids.length-1)+1≤sz t:=by
 have h:=pX t
 unfold pz ss at *
 have hl:t.kids.length=(t.kids.map sz).length:=by simp
 rw [List.map_take,hl]
 generalize t.kids.map sz=l at *
 rcases List.eq_nil_or_concat l with rfl | ⟨r,a,rfl⟩
 ·simp at *;omega
 ·simp at *;omega
theorem kM {f:Tree→List UInt8} : ∀ (l:List Tree),(∀ s∈l,(f s).length+800000≤2000000*sz s)→(eY (l.map f)).length≤2000000*ss l:=by
 have hx:∀ (l:List Tree),(∀ s∈l,(f s).length+800000≤2000000*sz s)→((l.map f).flatMap fun y=>[44,32]++y).length≤2000000*ss l:=by
  intro l
  induction l with
  | nil=>intro _;simp
  | cons a r ih=>
    intro h
    have h1:=h a zK
    have h2:=ih (fun s m=>h s (by simp [m]))
    simp only [ss,List.map_cons,List.flatMap_cons,List.length_append,List.length_cons,List.length_nil,List.sum_cons] at *
    omega
 intro l h
 cases l with
 | nil=>simp [eY]
 | cons a r=>
   have h1:=h a zK
   have h2:=hx r (fun s m=>h s (by simp [m]))
   simp only [ss,eY,List.map_cons,List.length_append,List.sum_cons] at *
   omega
theorem mZ {f:Tree→List UInt8} : ∀ (l:List Tree),(∀ s∈l,(f s).length≤2000000*sz s)→(l.flatMap f).length≤2000000*ss l:=by
 intro l
 induction l with
 | nil=>intro _;simp
 | cons a r ih=>
   intro h
   have h1:=h a zK
   have h2:=ih (fun s m=>h s (by simp [m]))
   simp only [ss,List.map_cons,List.flatMap_cons,List.length_append,List.sum_cons] at *
   omega
theorem fK (a:List UInt8) (f:Tree→List UInt8) (s:Tree):(gX a f s).length≤a.length+(f s).length:=by unfold gX;split <;> simp
theorem q_two (l:List UInt8):(l.flatMap qB).length≤2*l.length:=by
 induction l with
 | nil=>simp
 | cons c r ih=>
   have:(qB c).length≤2:=by unfold qB;split;simp;split;simp;split <;> simp
   simp only [List.flatMap_cons,List.length_append,List.length_cons];omega
theorem jF (d:Nat):(bV d).length=d:=by simp [bV]
def PJp:PrJ→Bool
 | .expr | .stmt | .block | .wtype | .params | .pointed | .exprStmt | .clauseStmts=>true
 | _=>false
theorem zero_len (digits:Int→List UInt8):∀ (n:Nat) (j:PrJ) (d:Nat),(pr digits n j d dZ).length≤3∨PJp j=false:=by
 have h1:∀ n d,(pr digits n .primary d dZ).length≤1:=fun n d=>by cases n <;> simp [pr,ym,dZ,Tree.kind]
 have h2:∀ n d,(pr digits n .simple d dZ).length≤1:=fun n d=>by cases n <;> simp [pr,ym,dZ,Tree.kind]
 have h3:∀ n d,(pr digits n .expr d dZ).length≤1:=fun n d=>by cases n with | zero=>simp [pr] | succ n=>have:=h1 n d;simp [pr,ym,dZ,Tree.kind] at *;exact this
 intro n j d
 cases j
 case expr=>left;have:=h3 n d;omega
 case stmt=>left;cases n with | zero=>simp [pr] | succ n=>have:=h2 n d;simp [pr,ym,dZ,Tree.kind] at *;omega
 case exprStmt=>left;cases n with | zero=>simp [pr] | succ n=>have:=h3 n d;simp [pr,ym,dZ,Tree.kind] at *;omega
 case block=>left;cases n <;> simp [pr,ym,dZ,Tree.kind]
 case wtype=>left;cases n <;> simp [pr,ym,dZ,Tree.kind]
 case params=>left;cases n <;> simp [pr,ym,dZ,Tree.kind]
 case pointed=>left;cases n <;> simp [pr,ym,dZ,Tree.kind]
 case clauseStmts=>left;cases n <;> simp [pr,ym,dZ,Tree.kind]
 all_goals right;rfl
open Lx
theorem len_ite {c:Prop} [Decidable c] {a b:List UInt8} {n:Nat} (h1:a.length≤n) (h2:b.length≤n):(if c then a else b).length≤n:=by split <;> assumption
def jOk:PrJ→Prop
 | .both s=>s.length≤8192
 | .jump s=>s.length≤8192
 | _=>True
theorem part_text {t:Tree} (h:OkT 8192 t) (i:Nat):(yM t i).text.length≤8192:=by
 unfold yM
 rw [List.getD_eq_getElem?_getD]
 cases e:t.kids[i]? with
 | some x=>exact kU (qo h x (List.mem_of_getElem? e))
 | none=>simp [dZ,Tree.text]
theorem OkT_num {M:Nat} {t:Tree} (h:OkT M t):I6 t.num:=by cases t;rw [iG] at h;exact h.2.1
theorem quo_len (x:List UInt8):(nN x).length≤2*x.length+2:=by
 have:=q_two x
 simp only [nN,List.length_cons,List.length_append,List.length_nil];omega
theorem oK {f:Tree→List UInt8} (d:Nat) (hd:d≤300000) (l:List Tree) (h:∀ s∈l,(f s).length+800000≤2000000*sz s):(linesT f d l).length≤2000000*ss l:=
 mZ l fun s m=>by have:=h s m;simp only [List.length_append,jF,List.length_cons,List.length_nil];omega
theorem prS_len (digits:Int→List UInt8) (hdig:∀ v,I6 v→(digits v).length≤100) (rec:PrJ→Nat→Tree→List UInt8) (d:Nat) (t:Tree) (ht:OkT 8192 t) (hd:d+sz t≤300000)
 (hk:∀ j d' s,s∈t.kids→d'≤d+1→jOk j→(rec j d' s).length+800000≤2000000*sz s)
 (hp:∀ j i,PJp j=true→(rec j d (yM t i)).length≤2000000*pz t i+3)
 (hs:∀ j,jOk j→(rec j d t).length≤2000000*(sz t-1)+400000*(rnk j+1))
 (hty:(rec .typed d t).length≤8200+2000000*pz t 0)
 (hbo:∀ s,s.length≤8192→(rec (.both s) d t).length≤8210+2000000*(pz t 0+pz t 1))
 (hfp:(rec .forParts d t).length≤100+2000000*(pz t 0+pz t 1+pz t 2))
 (j:PrJ) (hj:jOk j):(ym digits rec j d t).length≤2000000*(sz t-1)+400000*(rnk j+1):=by
 have h4:=pz4 t
 have hdr:=pz_drop t
 have htk:=pz_take t
 have hsk:=pX t
 have htx:=kU ht
 have hd0:d≤300000:=om
 cases j with
 | expr=>
   have f1:=hs .primary trivial
   have f2:=hs .builtin trivial
   have f3:=hs .function trivial
   have f4:=hbo t.text htx
   have f5:=hp .wtype 0 rfl
   have f6:=hp .expr 0 rfl
   have f7:=kM (f:=rec .initial d) t.kids (fun s m=>hk .initial d s m om trivial)
   have f8:=kM (f:=rec .expr d) (t.kids.drop 1) (fun s m=>hk .expr d s (List.mem_of_mem_drop m) om trivial)
   have f9:=hdig t.num (OkT_num ht)
   have f10:=quo_len t.text
   simp only [ym]
   repeat' split
   all_goals simp only [List.length_append,List.length_cons,List.length_nil,rnk] at *
   all_goals omega
 | primary=>
   have f1:=hp .expr 0 rfl
   have f2:=hp .expr 1 rfl
   have f3:=hp .expr 2 rfl
   have f4:=kM (f:=rec .expr d) (t.kids.drop 1) (fun s m=>hk .expr d s (List.mem_of_mem_drop m) om trivial)
   have f5:=fK [] (rec .expr d) (yM t 1)
   have g5:=hp .expr 1 rfl
   have f6:=fK [] (rec .expr d) (yM t 2)
   have g6:=hp .expr 2 rfl
   simp only [ym]
   repeat' split
   all_goals simp only [List.length_append,List.length_cons,List.length_nil,rnk] at *
   all_goals omega
 | both s=>
   have f1:=hp .expr 0 rfl
   have f2:=hp .expr 1 rfl
   have f3:s.length≤8192:=hj
   simp only [ym]
   repeat' split
   all_goals simp only [List.length_append,List.length_cons,List.length_nil,rnk] at *
   all_goals omega
 | initial=>
   have f1:=hp .expr 0 rfl
   simp only [ym]
   repeat' split
   all_goals simp only [List.length_append,List.length_cons,List.length_nil,rnk] at *
   all_goals omega
 | builtin=>
   have f1:=hp .wtype 0 rfl
   have f2:=hp .expr 1 rfl
   have f3:=hp .pointed 0 rfl
   have f4:=kM (f:=rec .expr d) t.kids (fun s m=>hk .expr d s m om trivial)
   simp only [ym]
   repeat' split
   all_goals simp only [List.length_append,List.length_cons,List.length_nil,rnk] at *
   all_goals omega
 | pointed=>
   simp only [ym]
   repeat' split
   all_goals simp only [List.length_append,List.length_cons,List.length_nil,rnk] at *
   all_goals omega
 | wtype=>
   have f1:=hp .wtype 0 rfl
   have f2:=kM (f:=rec .wtype d) (t.kids.take (t.kids.length-1)) (fun s m=>hk .wtype d s (List.mem_of_mem_take m) om trivial)
   have f3:=hp .wtype (t.kids.length-1) rfl
   have f4:=fK [32] (rec .wtype d) (yM t (t.kids.length-1))
   have g4:=hp .wtype (t.kids.length-1) rfl
   simp only [ym]
   repeat' split
   all_goals simp only [List.length_append,List.length_cons,List.length_nil,rnk] at *
   all_goals omega
 | typed=>
   have f1:=hp .wtype 0 rfl
   simp only [ym]
   repeat' split
   all_goals simp only [List.length_append,List.length_cons,List.length_nil,rnk] at *
   all_goals omega
 | field=>
   have f1:=hs .typed trivial
   simp only [ym]
   repeat' split
   all_goals simp only [List.length_append,List.length_cons,List.length_nil,rnk] at *
   all_goals omega
 | param=>
   have f1:=hs .typed trivial
   simp only [ym]
   repeat' split
   all_goals simp only [List.length_append,List.length_cons,List.length_nil,rnk] at *
   all_goals omega
 | params=>
   have f1:=kM (f:=rec .param d) t.kids (fun s m=>hk .param d s m om trivial)
   simp only [ym]
   repeat' split
   all_goals simp only [List.length_append,List.length_cons,List.length_nil,rnk] at *
   all_goals omega
 | function=>
   have f1:=hp .params 0 rfl
   have f2:=hp .wtype 1 rfl
   have f3:=fK [32] (rec .wtype d) (yM t 1)
   have g3:=hp .wtype 1 rfl
   have f4:=hp .block 2 rfl
   simp only [ym]
   repeat' split
   all_goals simp only [List.length_append,List.length_cons,List.length_nil,rnk] at *
   all_goals omega
 | decl=>
   have f1:=oK (f:=rec .field (d+1)) d hd0 t.kids (fun s m=>hk .field (d+1) s m om trivial)
   have f2:=hs .typed trivial
   have f3:=hs .function trivial
   simp only [ym]
   repeat' split
   all_goals simp only [List.length_append,List.length_cons,List.length_nil,rnk] at *
   all_goals omega
 | file=>
   have f1:=mZ (f:=fun k=>rec .decl d k++[10]) t.kids (fun s m=>by have:=hk .decl d s m om trivial;simp only [List.length_append,List.length_cons,List.length_nil];omega)
   simp only [ym]
   repeat' split
   all_goals simp only [List.length_append,List.length_cons,List.length_nil,rnk] at *
   all_goals omega
 | block=>
   have f1:=oK (f:=rec .stmt (d+1)) d hd0 t.kids (fun s m=>hk .stmt (d+1) s m om trivial)
   have f2:=jF d
   simp only [ym]
   repeat' split
   all_goals simp only [List.length_append,List.length_cons,List.length_nil,rnk] at *
   all_goals omega
 | stmt=>
   have f1:=hty
   have f2:=hp .expr 0 rfl
   have f3:=hp .expr 1 rfl
   have f4:=fK [32,61,32] (rec .expr d) (yM t 1)
   have g4:=hp .expr 1 rfl
   have f5:=fK [32] (rec .expr d) (yM t 0)
   have g5:=hp .expr 0 rfl
   have f6:=hs .block trivial
   have f7:=hs .ifStmt trivial
   have f8:=hs .forStmt trivial
   have f9:=hs .switchStmt trivial
   have f10:=hs .selectStmt trivial
   have f11:=hs (.jump [98,114,101,97,107]) (by simp [jOk])
   have g11:=hs (.jump [99,111,110,116,105,110,117,101]) (by simp [jOk])
   have f12:=hp .stmt 0 rfl
   have f13:=hs .simple trivial
   simp only [ym]
   repeat' (refine len_ite ?_ ?_)
   all_goals simp only [List.length_append,List.length_cons,List.length_nil,rnk] at *
   all_goals omega
 | jump s=>
   have f1:s.length≤8192:=hj
   simp only [ym]
   repeat' split
   all_goals simp only [List.length_append,List.length_cons,List.length_nil,rnk] at *
   all_goals omega
 | simple=>
   have f1:=hp .expr 0 rfl
   have f2:=hbo t.text htx
   have f3:=hbo [60,45] zK
   have f4:=hp .exprStmt 0 rfl
   simp only [ym]
   repeat' split
   all_goals simp only [List.length_append,List.length_cons,List.length_nil,rnk] at *
   all_goals omega
 | exprStmt=>
   have f1:=hp .expr 0 rfl
   have f2:=hs .expr trivial
   simp only [ym]
   repeat' split
   all_goals simp only [List.length_append,List.length_cons,List.length_nil,rnk] at *
   all_goals omega
 | ifStmt=>
   have f1:=hp .expr 0 rfl
   have f2:=hp .block 1 rfl
   have f3:=hp .stmt 2 rfl
   have f4:=fK [32,101,108,115,101,32] (rec .stmt d) (yM t 2)
   have g4:=hp .stmt 2 rfl
   simp only [ym]
   repeat' split
   all_goals simp only [List.length_append,List.length_cons,List.length_nil,rnk] at *
   all_goals omega
 | forStmt=>
   have f1:=hfp
   have f2:=hp .expr 1 rfl
   have f3:=fK [32] (rec .expr d) (yM t 1)
   have g3:=hp .expr 1 rfl
   have f4:=hp .block 3 rfl
   simp only [ym]
   repeat' split
   all_goals simp only [List.length_append,List.length_cons,List.length_nil,rnk] at *
   all_goals omega
 | forParts=>
   have f1:=hp .stmt 0 rfl
   have f2:=fK [] (rec .stmt d) (yM t 0)
   have g2:=hp .stmt 0 rfl
   have f3:=hp .expr 1 rfl
   have f4:=fK [] (rec .expr d) (yM t 1)
   have g4:=hp .expr 1 rfl
   have f5:=hp .stmt 2 rfl
   have f6:=fK [32] (rec .stmt d) (yM t 2)
   have g6:=hp .stmt 2 rfl
   simp only [ym]
   repeat' split
   all_goals simp only [List.length_append,List.length_cons,List.length_nil,rnk] at *
   all_goals omega
 | switchStmt=>
   have f1:=hp .expr 0 rfl
   have f2:=fK [32] (rec .expr d) (yM t 0)
   have g2:=hp .expr 0 rfl
   have f3:=mZ (f:=rec .clause d) (t.kids.drop 1) (fun s m=>by have:=hk .clause d s (List.mem_of_mem_drop m) om trivial;omega)
   have f4:=jF d
   simp only [ym]
   repeat' split
   all_goals simp only [List.length_append,List.length_cons,List.length_nil,rnk] at *
   all_goals omega
 | selectStmt=>
   have f1:=mZ (f:=rec .comm d) t.kids (fun s m=>by have:=hk .comm d s m om trivial;omega)
   have f2:=jF d
   simp only [ym]
   repeat' split
   all_goals simp only [List.length_append,List.length_cons,List.length_nil,rnk] at *
   all_goals omega
 | clause=>
   have f1:=kM (f:=rec .expr d) (t.kids.take (t.kids.length-1)) (fun s m=>hk .expr d s (List.mem_of_mem_take m) om trivial)
   have f2:=hp .clauseStmts (t.kids.length-1) rfl
   have f3:=jF d
   simp only [ym]
   repeat' split
   all_goals simp only [List.length_append,List.length_cons,List.length_nil,rnk] at *
   all_goals omega
 | comm=>
   have f1:=hs .receiving trivial
   have f2:=hbo [60,45] zK
   have f3:=hp .clauseStmts 2 rfl
   have f4:=hp .clauseStmts 0 rfl
   have f5:=jF d
   simp only [ym]
   repeat' split
   all_goals simp only [List.length_append,List.length_cons,List.length_nil,rnk] at *
   all_goals omega
 | receiving=>
   have f1:=hp .expr 0 rfl
   have f2:=hp .expr 1 rfl
   have f3:=hp .clauseStmts 1 rfl
   have f4:=hp .clauseStmts 2 rfl
   have f5:=part_text ht 0
   have f6:=jF d
   simp only [ym]
   repeat' split
   all_goals simp only [List.length_append,List.length_cons,List.length_nil,rnk] at *
   all_goals omega
 | clauseStmts=>
   have f1:=oK (f:=rec .stmt (d+1)) d hd0 t.kids (fun s m=>hk .stmt (d+1) s m om trivial)
   simp only [ym]
   repeat' split
   all_goals simp only [List.length_append,List.length_cons,List.length_nil,rnk] at *
   all_goals omega
theorem OkT_sub {t:Tree} (h:OkT 8192 t) {s:Tree} (m:s∈t.kids):OkT 8192 s:=qo h s m
theorem sz_pos (t:Tree):1≤sz t:=by cases t;rw [nX];split <;> omega
theorem rank_three (j:PrJ):400000*(rnk j+1)≤1200000:=by have:=kK j;omega
theorem qP (digits:Int→List UInt8) (hdig:∀ v,I6 v→(digits v).length≤100):∀ (n:Nat) (m:Nat),m≤n→∀ (j:PrJ) (d:Nat) (t:Tree),jOk j→OkT 8192 t→d+sz t≤300000→(pr digits m j d t).length≤2000000*(sz t-1)+400000*(rnk j+1)
 | _,0,_,j,d,t,_,_,_=>by simp [pr]
 | 0,m+1,h,_,_,_,_,_,_=>absurd h om
 | n+1,m+1,h,j,d,t,hj,ht,hd=>by
   have ih:=fun m' (h:m'≤n)=>qP digits hdig n m' h
   have hk:∀ m',m'≤n→∀ j d' s,s∈t.kids→d'≤d+1→jOk j→(pr digits m' j d' s).length+800000≤2000000*sz s:=fun m' hm j d' s ms hd' hj=>by
    have h1:=qZ ms
    have h2:=ih m' hm j d' s hj (OkT_sub ht ms) om
    have h3:=rank_three j
    have h4:=sz_pos s
    omega
   have hp:∀ m',m'≤n→∀ j i,PJp j=true→(pr digits m' j d (yM t i)).length≤2000000*pz t i+3:=fun m' hm j i hb=>by
    unfold yM pz
    rw [List.getD_eq_getElem?_getD,List.getElem?_map]
    cases e:t.kids[i]? with
    | some x=>
      have:=hk m' hm j d x (List.mem_of_getElem? e) om (by cases j <;> first | trivial | cases hb)
      simp only [Option.map_some,Option.getD_some]
      omega
    | none=>
      rcases zero_len digits m' j d with h | h
      ·simpa using h
      ·rw [hb] at h;cases h
   refine prS_len digits hdig (pr digits m) d t ht hd (hk m om) (hp m om) (fun j hj=>ih m om j d t hj ht hd) ?_ ?_ ?_ j hj
   ·cases m with
    | zero=>simp [pr]
    | succ m=>
      have f1:=hp m om .wtype 0 rfl
      have:=kU ht
      simp only [pr,ym,List.length_append,List.length_cons,List.length_nil]
      omega
   ·intro s hs
    cases m with
    | zero=>simp [pr]
    | succ m=>
      have f1:=hp m om .expr 0 rfl
      have f2:=hp m om .expr 1 rfl
      simp only [pr,ym,List.length_append,List.length_cons,List.length_nil]
      omega
   ·cases m with
    | zero=>simp [pr]
    | succ m=>
      have f1:=hp m om .stmt 0 rfl
      have f2:=hp m om .expr 1 rfl
      have f3:=hp m om .stmt 2 rfl
      have g1:=fK [] (pr digits m .stmt d) (yM t 0)
      have g2:=fK [] (pr digits m .expr d) (yM t 1)
      have g3:=fK [32] (pr digits m .stmt d) (yM t 2)
      simp only [pr,ym,List.length_append,List.length_cons,List.length_nil] at *
      omega
open Lx
def wsp (c:UInt8):Bool:=c==32||c==9||c==10
def cl (x:List UInt8):Bool:=x.all fun c=>!wsp c
section
variable {ts : List Tok} (hC : ∀ k, (zp ts k).kind ≠ 3 → cl (zp ts k).text = true) {k : Nat}
theorem isS_kind {l:List (List UInt8)} (h:yb ts k l=true):(zp ts k).kind=4∨(zp ts k).kind=5:=by
 apply Decidable.byContradiction
 intro hn
 simp [yb,yI,hn] at h
include hC in
end
open Lx
def fl:Bool→List UInt8→Option Bool
 | b,[]=>some b
 | b,c::r=>if c==10&&b then none else fl (wsp c) r
theorem fl_app:∀ (x y:List UInt8) (b:Bool),fl b (x++y)=(fl b x).bind fun b'=>fl b' y
 | [],y,b=>rfl
 | c::r,y,b=>by
   simp only [List.cons_append,fl]
   split
   ·rfl
   ·exact fl_app r y _
def Gd (x:List UInt8):Prop:=∀ b,fl b x=some false
def Fn (x:List UInt8):Prop:=∀ b,∃ b',fl b x=some b'
def Ke (x:List UInt8):Prop:=fl false x=some false
theorem Gd.fn {x:List UInt8} (h:Gd x):Fn x:=fun b=>⟨_,h b⟩
theorem G1 {x y:List UInt8} (h:Fn x) (k:Gd y):Gd (x++y):=fun b=>by
 obtain ⟨b',e⟩:=h b
 rw [fl_app,e];exact k b'
theorem G2 {x y:List UInt8} (h:Gd x) (k:Ke y):Gd (x++y):=fun b=>by rw [fl_app,h b];exact k
def cF:PrJ→Bool
 | .clause | .comm | .receiving | .clauseStmts | .file | .params | .pointed=>true
 | _=>false
def Q (j:PrJ) (x:List UInt8):Prop:=if cF j=true then Fn x else Gd x
end Go.Proofs.YtgbjpnnockoomaaGreatDoor.Px
