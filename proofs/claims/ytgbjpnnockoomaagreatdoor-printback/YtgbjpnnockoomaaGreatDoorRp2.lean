import Derived.Test.YtgbjpnnockoomaaGreatDoorSteps
import Derived.Test.YtgbjpnnockoomaaGreatDoorPr1
import Derived.Test.YtgbjpnnockoomaaGreatDoorPb8
set_option linter.unusedVariables false
set_option linter.unusedSimpArgs false
set_option maxRecDepth 100000
namespace Go.Proofs.YtgbjpnnockoomaaGreatDoor.Lx.Sp
def endD (last:Option Tok) (k:Int):List Tok:=
 match last with
 | some t=>if dX t.kind t.text then [⟨5,[59],1,k⟩] else []
 | none=>[]
theorem endD_eq (ts:List Tok) (k:Int):kS ts k=ts++endD ts.getLast? k:=by
 unfold kS endD
 cases ts.getLast? with
 | none=>simp
 | some t=>simp only;split <;> simp
def jg (d:List UInt8) (k:Nat) (last:Option Tok):Sum Nat (Nat × List Tok):=
 match d with
 | []=>.inl 0
 | c::_=>
   if c=32∨c=9 then .inr (1,[])
   else if c=10 then .inr (1,endD last k)
   else if d.take 2==[47,47] then .inr ((d.takeWhile lK).length,[])
   else if isLet c=true then (if 24<(d.takeWhile bH).length then .inl k else .inr ((d.takeWhile bH).length,[⟨nmK (d.takeWhile bH),d.takeWhile bH,0,k⟩]))
   else if aG c=true then (match kJ d 0 [] with | .inl p=>.inl (k+p) | .inr q=>.inr (q.1,q.2.map fun t=>{ t with pos:=k }))
   else if c=34 then (match textF d 0 [] with | .inl p=>.inl (k+p) | .inr q=>.inr (q.1,q.2.map fun t=>{ t with pos:=k }))
   else if jA d=0 then .inl k else .inr (jA d,[⟨5,d.take (jA d),0,k⟩])
def lQ:Nat→List UInt8→Nat→Option Tok→Sum Nat (List Tok)
 | 0,_,_,_=>.inr []
 | f+1,d,k,last=>
   match d with
   | []=>.inr []
   | _::_=>
     match jg d k last with
     | .inl p=>.inl p
     | .inr (a,ns)=>
       match lQ f (d.drop a) (k+a) (ns.getLast?.or last) with
       | .inl p=>.inl p
       | .inr r=>.inr (ns++r)
theorem qg (p:UInt8→Bool):∀ d:List UInt8,d.take (d.takeWhile p).length=d.takeWhile p
 | []=>rfl
 | c::r=>by
   by_cases h:p c=true
   ·simp [h,qg p r]
   ·simp [h]
theorem re_D (p:UInt8→Bool) (l:List UInt8) (k:Nat):yL p l k=k+((l.drop k).takeWhile p).length:=rfl
theorem uh (l:List UInt8) (k n:Nat):sub l k (k+n)=(l.drop k).take n:=by unfold sub;rw [Nat.add_sub_cancel_left]
theorem letAt_D (l:List UInt8) (k n:Nat):lF l (k+n)=lF (l.drop k) n:=by unfold lF;rw [List.getElem?_drop]
def upD (k:Nat) (ts:List Tok):Sum Nat (Nat × List Tok)→Sum Nat (Nat × List Tok)
 | .inl p=>.inl p
 | .inr q=>.inr (k+q.1,ts++q.2)
theorem num_D (l:List UInt8) (k:Nat) (ts:List Tok):kJ l k ts=upD k ts (match kJ (l.drop k) 0 [] with | .inl p=>.inl (k+p) | .inr q=>.inr (q.1,q.2.map fun t=>{ t with pos:=k })):=by
 unfold kJ
 have e0:yL aG (l.drop k) 0=0+((l.drop k).takeWhile aG).length:=rfl
 rw [re_D,e0,uh,uh,letAt_D,letAt_D,List.drop_zero]
 generalize ((l.drop k).takeWhile aG).length=n
 split
 ·rfl
 ·rw [Nat.zero_add]
  split <;> rfl
theorem text_D (l:List UInt8) (k:Nat) (ts:List Tok):textF l k ts=upD k ts (match textF (l.drop k) 0 [] with | .inl p=>.inl (k+p) | .inr q=>.inr (q.1,q.2.map fun t=>{ t with pos:=k })):=by
 unfold textF
 rw [List.drop_drop]
 generalize txt (l.drop (k+(0+1)))=x
 obtain ⟨m,n⟩:=x
 cases m with
 | none=>simp only [upD];congr 1;omega
 | some m=>
   simp only
   split
   ·rfl
   ·simp only [upD,List.nil_append,List.map_cons,List.map_nil];congr 2;omega
theorem part_D (l:List UInt8) (k:Nat) (ts:List Tok) (hk:k<l.length):jh l k ts=upD k ts (jg (l.drop k) k ts.getLast?):=by
 have hd:l.drop k=l[k]::l.drop (k+1):=List.drop_eq_getElem_cons hk
 have hc:l[k]?=some l[k]:=List.getElem?_eq_getElem hk
 unfold jh jg
 rw [hc]
 generalize hl:l[k]=c at *
 rw [hd]
 simp only
 rw [←hd]
 by_cases h1:c=32∨c=9
 ·rw [if_pos h1,if_pos h1];simp [upD]
 rw [if_neg h1,if_neg h1]
 by_cases h2:c=10
 ·rw [if_pos h2,if_pos h2,endD_eq];rfl
 rw [if_neg h2,if_neg h2]
 have e:cmt l k=((l.drop k).take 2==[47,47]):=rfl
 rw [e]
 by_cases h3:((l.drop k).take 2==[47,47])=true
 ·rw [if_pos h3,if_pos h3,re_D];simp [upD]
 rw [if_neg h3,if_neg h3]
 by_cases h4:isLet c=true
 ·rw [if_pos h4,if_pos h4]
  unfold lJ
  rw [re_D,uh,qg,Nat.add_sub_cancel_left]
  split <;> rfl
 rw [if_neg h4,if_neg h4]
 by_cases h5:aG c=true
 ·rw [if_pos h5,if_pos h5];exact num_D l k ts
 rw [if_neg h5,if_neg h5]
 by_cases h6:c=34
 ·rw [if_pos h6,if_pos h6];exact text_D l k ts
 rw [if_neg h6,if_neg h6]
 unfold lH
 rw [uh]
 split <;> rfl
theorem last_app (ts ns:List Tok):(ts++ns).getLast?=ns.getLast?.or ts.getLast?:=by
 rw [List.getLast?_append]
theorem scan_D:∀ (f:Nat) (l:List UInt8) (k:Nat) (ts:List Tok),fO f l k ts=match lQ f (l.drop k) k ts.getLast? with | .inl p=>.inl p | .inr r=>.inr (ts++r)
 | 0,l,k,ts=>by simp [fO,lQ]
 | f+1,l,k,ts=>by
   unfold fO lQ
   by_cases hk:k<l.length
   ·rw [if_pos hk,part_D l k ts hk]
    have hd:l.drop k=l[k]::l.drop (k+1):=List.drop_eq_getElem_cons hk
    rw [hd]
    simp only
    rw [←hd]
    cases hp:jg (l.drop k) k ts.getLast? with
    | inl p=>rfl
    | inr q=>
      obtain ⟨a,ns⟩:=q
      simp only [upD]
      rw [scan_D f l (k+a) (ts++ns),List.drop_drop,last_app]
      cases lQ f (l.drop (k+a)) (k+a) (ns.getLast?.or ts.getLast?) with
      | inl p=>rfl
      | inr r=>simp
   ·rw [if_neg hk,List.drop_eq_nil_of_le (by omega)]
    simp
def lexD (l:List UInt8):List Tok × Int × Int:=
 if 8192<l.length then ([],1,8192)
 else match lQ (l.length+1) l 0 none with
  | .inl p=>([],2,(p:Int))
  | .inr ts=>
    match eG 0 (jQ ts l.length) with
    | some a=>([],3,a)
    | none=>(jQ ts l.length,0,0)
theorem lex_D (l:List UInt8):aY l=lexD l:=by
 unfold aY lexD dm
 rw [scan_D,List.drop_zero,List.getLast?_nil,Nat.sub_zero]
 cases lQ (l.length+1) l 0 none with
 | inl p=>rfl
 | inr r=>rfl
end Go.Proofs.YtgbjpnnockoomaaGreatDoor.Lx.Sp
namespace Go.Proofs.YtgbjpnnockoomaaGreatDoor.Px
open Lx Lx.Sp
abbrev TC:Type:=Int × List UInt8 × Int
def er3 (t:Tok):TC:=(t.kind,t.text,t.num)
def nw (x:List UInt8):TC:=(nmK x,x,0)
def mw (x:List UInt8):TC:=(5,x,0)
def sm:TC:=(5,[59],1)
def dM:List (List TC)→List TC
 | []=>[]
 | x::r=>x++r.flatMap fun y=>mw [44]::y
def dW (f:Tree→List TC) (l:List Tree):List TC:=l.flatMap fun t=>f t++[sm]
def unT (ahead:List TC) (f:Tree→List TC) (t:Tree):List TC:=if t.kind=8 then [] else ahead++f t
section
variable (digits : Int → List UInt8) (rec : PrJ → Tree → List TC)
def tkS (j:PrJ) (t:Tree):List TC:=
 match j with
 | .expr=>
   if t.kind=36 then [(2,digits t.num,t.num)]
   else if t.kind=37 then [(3,t.text,0)]
   else if t.kind=38∨t.kind=40 then [nw t.text]
   else if t.kind=39 then [nw [110,105,108]]
   else if t.kind=41 then mw [40]::mw t.text::rec .expr (yM t 0)++[mw [41]]
   else if t.kind=42 then mw [40]::rec (.both t.text) t++[mw [41]]
   else if t.kind=44 then rec .builtin t
   else if t.kind=48 then nw [102,117,110,99]::rec .function t
   else if t.kind=49 then mw [40]::mw [38]::nw t.text::mw [123]::dM (t.kids.map (rec .initial))++[mw [125],mw [41]]
   else if t.kind=50 then mw [40]::mw [91]::mw [93]::rec .wtype (yM t 0)++mw [123]::dM ((t.kids.drop 1).map (rec .expr))++[mw [125],mw [41]]
   else rec .primary t
 | .primary=>
   if t.kind=43 then rec .expr (yM t 0)++mw [40]::dM ((t.kids.drop 1).map (rec .expr))++[mw [41]]
   else if t.kind=45 then rec .expr (yM t 0)++mw [91]::rec .expr (yM t 1)++[mw [93]]
   else if t.kind=46 then rec .expr (yM t 0)++mw [91]::unT [] (rec .expr) (yM t 1)++mw [58]::unT [] (rec .expr) (yM t 2)++[mw [93]]
   else if t.kind=47 then rec .expr (yM t 0)++[mw [46],nw t.text]
   else []
 | .both s=>rec .expr (yM t 0)++mw s::rec .expr (yM t 1)
 | .initial=>if t.kind=5 then nw t.text::mw [58]::rec .expr (yM t 0) else []
 | .builtin=>
   nw t.text::mw [40]::(if t.text=[109,97,107,101] then rec .wtype (yM t 0)++(if 1<t.kids.length then mw [44]::rec .expr (yM t 1) else [])
    else if t.text=[110,101,119] then rec .pointed (yM t 0) else dM (t.kids.map (rec .expr)))++[mw [41]]
 | .pointed=>if t.kind=12 then [nw t.text] else []
 | .wtype=>
   if t.kind=9 then [nw [105,110,116]]
   else if t.kind=10 then [nw [98,111,111,108]]
   else if t.kind=11 then [nw [115,116,114,105,110,103]]
   else if t.kind=12 then [mw [42],nw t.text]
   else if t.kind=13 then mw [91]::mw [93]::rec .wtype (yM t 0)
   else if t.kind=14 then nw [99,104,97,110]::rec .wtype (yM t 0)
   else if t.kind=15 then nw [102,117,110,99]::mw [40]::dM ((t.kids.take (t.kids.length-1)).map (rec .wtype))++mw [41]::unT [] (rec .wtype) (yM t (t.kids.length-1))
   else []
 | .typed=>nw t.text::rec .wtype (yM t 0)
 | .field=>if t.kind=5 then rec .typed t else []
 | .param=>if t.kind=7 then rec .typed t else []
 | .params=>if t.kind=6 then dM (t.kids.map (rec .param)) else []
 | .function=>mw [40]::rec .params (yM t 0)++mw [41]::unT [] (rec .wtype) (yM t 1)++rec .block (yM t 2)
 | .decl=>
   if t.kind=2 then nw [116,121,112,101]::nw t.text::nw [115,116,114,117,99,116]::mw [123]::dW (rec .field) t.kids++[mw [125]]
   else if t.kind=3 then nw [118,97,114]::rec .typed t
   else if t.kind=4 then nw [102,117,110,99]::nw t.text::rec .function t
   else []
 | .file=>if t.kind=1 then dW (rec .decl) t.kids else []
 | .block=>if t.kind=16 then mw [123]::dW (rec .stmt) t.kids++[mw [125]] else []
 | .stmt=>
   if t.kind=18 then nw [118,97,114]::rec .typed t++unT [mw [61]] (rec .expr) (yM t 1)
   else if t.kind=16 then rec .block t
   else if t.kind=21 then rec .ifStmt t
   else if t.kind=22 then rec .forStmt t
   else if t.kind=23 then rec .switchStmt t
   else if t.kind=25 then rec .selectStmt t
   else if t.kind=27 then rec (.jump [98,114,101,97,107]) t
   else if t.kind=28 then rec (.jump [99,111,110,116,105,110,117,101]) t
   else if t.kind=29 then [nw [102,97,108,108,116,104,114,111,117,103,104]]
   else if t.kind=30 then nw [114,101,116,117,114,110]::unT [] (rec .expr) (yM t 0)
   else if t.kind=31 then nw [103,111]::rec .expr (yM t 0)
   else if t.kind=32 then nw [100,101,102,101,114]::rec .expr (yM t 0)
   else if t.kind=35 then nw t.text::mw [58]::rec .stmt (yM t 0)
   else rec .simple t
 | .jump s=>nw s::(if t.text=[] then [] else [nw t.text])
 | .simple=>
   if t.kind=17 then nw t.text::mw [58,61]::rec .expr (yM t 0)
   else if t.kind=19 then rec (.both t.text) t
   else if t.kind=20 then rec .expr (yM t 0)++[mw t.text]
   else if t.kind=33 then rec (.both [60,45]) t
   else if t.kind=34 then rec .exprStmt (yM t 0)
   else []
 | .exprStmt=>if t.kind=41∧t.text=[60,45] then mw [60,45]::rec .expr (yM t 0) else rec .expr t
 | .ifStmt=>nw [105,102]::rec .expr (yM t 0)++rec .block (yM t 1)++unT [nw [101,108,115,101]] (rec .stmt) (yM t 2)
 | .forStmt=>nw [102,111,114]::(if (yM t 0).kind=8∧(yM t 2).kind=8 then unT [] (rec .expr) (yM t 1) else rec .forParts t)++rec .block (yM t 3)
 | .forParts=>unT [] (rec .stmt) (yM t 0)++mw [59]::unT [] (rec .expr) (yM t 1)++mw [59]::unT [] (rec .stmt) (yM t 2)
 | .switchStmt=>nw [115,119,105,116,99,104]::unT [] (rec .expr) (yM t 0)++mw [123]::(t.kids.drop 1).flatMap (rec .clause)++[mw [125]]
 | .selectStmt=>nw [115,101,108,101,99,116]::mw [123]::t.kids.flatMap (rec .comm)++[mw [125]]
 | .clause=>
   if t.kind=24∧t.text=[99,97,115,101] then nw [99,97,115,101]::dM ((t.kids.take (t.kids.length-1)).map (rec .expr))++rec .clauseStmts (yM t (t.kids.length-1))
   else if t.kind=24∧t.text=[100,101,102,97,117,108,116] then nw [100,101,102,97,117,108,116]::rec .clauseStmts (yM t (t.kids.length-1))
   else []
 | .comm=>
   if t.kind=26∧t.text=[114,101,99,118] then rec .receiving t
   else if t.kind=26∧t.text=[115,101,110,100] then nw [99,97,115,101]::rec (.both [60,45]) t++rec .clauseStmts (yM t 2)
   else if t.kind=26∧t.text=[100,101,102,97,117,108,116] then nw [100,101,102,97,117,108,116]::rec .clauseStmts (yM t 0)
   else []
 | .receiving=>
   if (yM t 0).kind=7 then nw [99,97,115,101]::nw (yM t 0).text::mw [58,61]::mw [60,45]::rec .expr (yM t 1)++rec .clauseStmts (yM t 2)
   else nw [99,97,115,101]::mw [60,45]::rec .expr (yM t 0)++rec .clauseStmts (yM t 1)
 | .clauseStmts=>mw [58]::(if t.kind=16 then dW (rec .stmt) t.kids else [])
end
def tk (digits:Int→List UInt8):Nat→PrJ→Tree→List TC
 | 0=>fun _ _=>[]
 | n+1=>tkS digits (tk digits n)
def At (ts:List Tok):Nat→List TC→Prop
 | _,[]=>True
 | k,x::r=>er3 (zp ts k)=x∧At ts (k+1) r
theorem aU (ts:List Tok):∀ (k:Nat) (a b:List TC),At ts k (a++b)↔At ts k a∧At ts (k+a.length) b
 | k,[],b=>by simp [At]
 | k,x::a,b=>by
   simp only [List.cons_append,At,aU ts (k+1) a b,List.length_cons,and_assoc]
   rw [show k+1+a.length=k+(a.length+1) by omega]
def Ev (ts:List Tok) (j:Job) (h:Bool) (k:Nat) (r:R):Prop:=∃ n0,∀ n,n0≤n→run ts n j h k=r
theorem Ev.up {ts:List Tok} {j:Job} {h:Bool} {k:Nat} {r:R} (e:∃ n0,∀ n,n0≤n→step ts (run ts n) j h k=r):Ev ts j h k r:=by
 obtain ⟨n0,e⟩:=e
 refine ⟨n0+1,fun n hn=>?_⟩
 obtain ⟨m,rfl⟩:∃ m,n=m+1:=⟨n-1,by omega⟩
 exact e m (by omega)
open Lx Lx.Sp
section
variable {ts : List Tok} {k : Nat} {x : List UInt8}
theorem tm (h:er3 (zp ts k)=mw x):(zp ts k).kind=5∧(zp ts k).text=x∧yI ts k=x:=by
 simp only [er3,mw,Prod.mk.injEq] at h
 exact ⟨h.1,h.2.1,by simp [yI,h.1,h.2.1]⟩
theorem tw (h:er3 (zp ts k)=nw x) (hw:eu x=true):(zp ts k).kind=4∧(zp ts k).text=x∧yI ts k=x:=by
 simp only [er3,nw,nmK,hw,if_true,Prod.mk.injEq] at h
 exact ⟨h.1,h.2.1,by simp [yI,h.1,h.2.1]⟩
theorem tn (h:er3 (zp ts k)=nw x) (hw:eu x=false):(zp ts k).kind=1∧(zp ts k).text=x∧yI ts k=[]:=by
 simp only [er3,nw,nmK,hw,Bool.false_eq_true,if_false,Prod.mk.injEq] at h
 exact ⟨h.1,h.2.1,by simp [yI,h.1]⟩
theorem tnum {v:Int} (h:er3 (zp ts k)=(2,x,v)):(zp ts k).kind=2∧(zp ts k).num=v∧yI ts k=[]:=by
 simp only [er3,Prod.mk.injEq] at h
 exact ⟨h.1,h.2.2,by simp [yI,h.1]⟩
theorem tstr (h:er3 (zp ts k)=(3,x,0)):(zp ts k).kind=3∧(zp ts k).text=x∧yI ts k=[]:=by
 simp only [er3,Prod.mk.injEq] at h
 exact ⟨h.1,h.2.1,by simp [yI,h.1]⟩
theorem tsm (h:er3 (zp ts k)=sm):(zp ts k).kind=5∧(zp ts k).text=[59]∧yI ts k=[59]:=by
 simp only [er3,sm,Prod.mk.injEq] at h
 exact ⟨h.1,h.2.1,by simp [yI,h.1,h.2.1]⟩
end
section
variable {ts : List Tok} {j : Job} {h : Bool} {k : Nat} {r : R}
theorem Ev.of0 (e:∀ n,step ts (run ts n) j h k=r):Ev ts j h k r:=Ev.up ⟨0,fun n _=>e n⟩
theorem Ev.of1 {j1:Job} {h1:Bool} {k1:Nat} {r1:R} (e1:Ev ts j1 h1 k1 r1) (e:∀ n,run ts n j1 h1 k1=r1→step ts (run ts n) j h k=r):Ev ts j h k r:=by
 obtain ⟨a,e1⟩:=e1
 exact Ev.up ⟨a,fun n hn=>e n (e1 n hn)⟩
theorem Ev.of2 {j1 j2:Job} {h1 h2:Bool} {k1 k2:Nat} {r1 r2:R} (e1:Ev ts j1 h1 k1 r1) (e2:Ev ts j2 h2 k2 r2) (e:∀ n,run ts n j1 h1 k1=r1→run ts n j2 h2 k2=r2→step ts (run ts n) j h k=r):Ev ts j h k r:=by
 obtain ⟨a,e1⟩:=e1
 obtain ⟨b,e2⟩:=e2
 exact Ev.up ⟨a+b,fun n hn=>e n (e1 n (by omega)) (e2 n (by omega))⟩
theorem Ev.of3 {j1 j2 j3:Job} {h1 h2 h3:Bool} {k1 k2 k3:Nat} {r1 r2 r3:R} (e1:Ev ts j1 h1 k1 r1) (e2:Ev ts j2 h2 k2 r2) (e3:Ev ts j3 h3 k3 r3) (e:∀ n,run ts n j1 h1 k1=r1→run ts n j2 h2 k2=r2→run ts n j3 h3 k3=r3→step ts (run ts n) j h k=r):Ev ts j h k r:=by
 obtain ⟨a,e1⟩:=e1
 obtain ⟨b,e2⟩:=e2
 obtain ⟨c,e3⟩:=e3
 exact Ev.up ⟨a+b+c,fun n hn=>e n (e1 n (by omega)) (e2 n (by omega)) (e3 n (by omega))⟩
end
def Itm (it:It) (stop:List Tok→Nat→Prop) (T:List TC) (t:Tree):Prop:=∀ ts k h,At ts k T→stop ts (k+T.length)→∃ t' s,er t'=er t∧Ev ts it.job h k (.ok [t'] s (k+T.length))
def Stp (stop:List Tok→Nat→Prop):Prop:=∀ ts k,yI ts k=[44]∨yI ts k=[41]∨yI ts k=[125]→stop ts k
def iL (l:List (List TC)):List TC:=l.flatMap fun y=>mw [44]::y
theorem oN (x:List TC) (r:List (List TC)):dM (x::r)=x++iL r:=rfl
theorem okE {l l':List Tree} {s:Int} {k k':Nat} (h1:l=l') (h2:k=k'):R.ok l s k=R.ok l' s k':=by rw [h1,h2]
theorem qI {it:It} {stop:List Tok→Nat→Prop} (hst:Stp stop) (f:Tree→List TC) {ts:List Tok} {h:Bool} : ∀ (l acc:List Tree) (k:Nat),(∀ t∈l,Itm it stop (f t) t)→At ts k (iL (l.map f)++[mw [41]])→
 ∃ l',l'.map er=l.map er∧Ev ts (.listMore it acc) h k (.ok (acc++l') 0 (k+(iL (l.map f)).length+1))
 | [],acc,k,_,ha=>by
   simp only [List.map_nil,iL,List.flatMap_nil,List.nil_append,At,and_true] at ha
   obtain ⟨h1,h2,h3⟩:=tm ha
   exact ⟨[],rfl,Ev.of0 fun n=>by simp [step,yo,yb,want,h3,iL]⟩
 | a::l,acc,k,hi,ha=>by
   have hc:iL ((a::l).map f)=mw [44]::(f a++iL (l.map f)):=by simp [iL]
   rw [hc,List.cons_append,List.append_assoc] at ha
   obtain ⟨h0,ha⟩:=ha
   rw [aU] at ha
   obtain ⟨h1,h2,h3⟩:=tm h0
   have hst2:stop ts (k+1+(f a).length):=by
    refine hst _ _ ?_
    have ha2:=ha.2
    cases l with
    | nil=>
      simp only [List.map_nil,iL,List.flatMap_nil,List.nil_append,At,and_true] at ha2
      exact .inr (.inl (tm ha2).2.2)
    | cons b l=>
      simp only [List.map_cons,iL,List.flatMap_cons,List.cons_append,At] at ha2
      exact .inl (tm ha2.1).2.2
   obtain ⟨a',s,e1,v1⟩:=hi a (by simp) ts (k+1) h ha.1 hst2
   obtain ⟨l',e2,v2⟩:=qI (h:=h) hst f l (acc++[a']) (k+1+(f a).length) (fun t m=>hi t (by simp [m])) ha.2
   refine ⟨a'::l',by simp [e1,e2],Ev.of2 v1 v2 fun n q1 q2=>?_⟩
   have hs:yb ts k [[44]]=true:=by simp [yb,h3]
   simp only [step,yo,hs,if_true,q1,R.ax,q2]
   exact okE (by simp) (by rw [hc,List.length_cons,List.length_append];omega)
theorem kF {it:It} {stop:List Tok→Nat→Prop} (hst:Stp stop) (f:Tree→List TC) {ts:List Tok} {h:Bool} (l:List Tree) (k:Nat) (hi:∀ t∈l,Itm it stop (f t) t) (hne:∀ t∈l,∀ ts k,At ts k (f t)→yb ts k [[41]]=false) (ha:At ts k (dM (l.map f)++[mw [41]])) :
 ∃ l',l'.map er=l.map er∧Ev ts (.listed it) h k (.ok l' 0 (k+(dM (l.map f)).length+1)):=by
 cases l with
 | nil=>
   simp only [List.map_nil,dM,List.nil_append,At,and_true] at ha
   obtain ⟨h1,h2,h3⟩:=tm ha
   exact ⟨[],rfl,Ev.of0 fun n=>by simp [step,bF,yb,h3,dM]⟩
 | cons a l=>
   rw [List.map_cons,oN,List.append_assoc,aU] at ha
   have hst2:stop ts (k+(f a).length):=by
    refine hst _ _ ?_
    have ha2:=ha.2
    cases l with
    | nil=>
      simp only [List.map_nil,iL,List.flatMap_nil,List.nil_append,At,and_true] at ha2
      exact .inr (.inl (tm ha2).2.2)
    | cons b l=>
      simp only [List.map_cons,iL,List.flatMap_cons,List.cons_append,At] at ha2
      exact .inl (tm ha2.1).2.2
   obtain ⟨a',s,e1,v1⟩:=hi a (by simp) ts k h ha.1 hst2
   obtain ⟨l',e2,v2⟩:=qI (h:=h) hst f l [a'] (k+(f a).length) (fun t m=>hi t (by simp [m])) ha.2
   have h41:=hne a (by simp) ts k ha.1
   refine ⟨a'::l',by simp [e1,e2],Ev.of2 v1 v2 fun n q1 q2=>?_⟩
   simp only [step,bF,h41,Bool.false_eq_true,if_false,q1,R.ax,q2]
   exact okE (by simp) (by rw [List.map_cons,oN,List.length_append];omega)
open Lx Lx.Sp
theorem aJ (k:Int) (x:List UInt8) (p:Int) (l:List Tree):sz (nd k x p l)=(if k=0 then 1 else 2)+(l.map sz).sum:=nX _ _ _ _ _
theorem ay (k:Int) (x:List UInt8) (p:Int) (l:List Tree):er (nd k x p l)=.mk k x 0 0 (l.map er):=iZ _ _ _ _ _
theorem aH {j:PrJ} {t:Tree} {n:Nat} (h:nee j t<n):∃ m,n=m+1:=⟨n-1,by omega⟩
def tyS:List (List UInt8):=[[105,110,116],[98,111,111,108],[115,116,114,105,110,103],[42],[91],[99,104,97,110],[102,117,110,99]]
def jc (ts:List Tok) (k:Nat):Prop:=yb ts k tyS=false
def RTx (T:List TC) (t:Tree):Prop:=(∀ ts k,At ts k T→yb ts k tyS=true)∧∀ ts k h,At ts k T→jc ts (k+T.length)→∃ t',er t'=er t∧Ev ts .wtype h k (.ok [t'] 0 (k+T.length))
section
variable (D : Int → List UInt8)
def XT (t:Tree):Prop:=∀ n,nee .wtype t<n→RTx (tk D n .wtype t) t
variable {D}
theorem ak {ts:List Tok} {k:Nat} {x:List UInt8} {l:List (List UInt8)} (h:yI ts k=x):yb ts k l=(!x.isEmpty&&l.contains x):=by unfold yb;rw [h]
theorem uo {kd:Int} {p:Int} {x:List UInt8} (hk:(kd=9∧x=[105,110,116])∨(kd=10∧x=[98,111,111,108])∨(kd=11∧x=[115,116,114,105,110,103])):XT D (nd kd [] p []):=by
 intro n hn
 obtain ⟨m,rfl⟩:=aH hn
 have ht:tk D (m+1) .wtype (nd kd [] p [])=[nw x]:=by
  rcases hk with ⟨rfl,rfl⟩ | ⟨rfl,rfl⟩ | ⟨rfl,rfl⟩ <;> rfl
 rw [ht]
 refine ⟨fun ts k ha=>?_,fun ts k h ha hst=>⟨nd kd [] (zp ts k).pos [],by rw [ay,ay],Ev.of0 fun n=>?_⟩⟩
 ·rcases hk with ⟨rfl,rfl⟩ | ⟨rfl,rfl⟩ | ⟨rfl,rfl⟩ <;> rw [ak (tw ha.1 (by decide)).2.2] <;> decide
 ·rcases hk with ⟨rfl,rfl⟩ | ⟨rfl,rfl⟩ | ⟨rfl,rfl⟩ <;> simp [step,bK,(tw ha.1 (by decide)).2.2]
theorem XT_12 {p:Int} {x:List UInt8} (hx:eu x=false):XT D (nd 12 x p []):=by
 intro n hn
 obtain ⟨m,rfl⟩:=aH hn
 rw [show tk D (m+1) .wtype (nd 12 x p [])=[mw [42],nw x] from rfl]
 refine ⟨fun ts k ha=>by rw [ak (tm ha.1).2.2];decide,fun ts k h ha hst=>⟨nd 12 x (zp ts k).pos [],by rw [ay,ay],Ev.of0 fun n=>?_⟩⟩
 obtain ⟨h1,h2,h3⟩:=tn ha.2.1 hx
 simp [step,bK,(tm ha.1).2.2,bI,h1,h2]
theorem XT_13 {p:Int} {t:Tree} (h:XT D t):XT D (nd 13 [] p [t]):=by
 intro n hn
 obtain ⟨m,rfl⟩:=aH hn
 have hm:nee .wtype t<m:=by simp [nee,aJ,rnk] at hn ⊢;omega
 rw [show tk D (m+1) .wtype (nd 13 [] p [t])=mw [91]::mw [93]::tk D m .wtype t from rfl]
 refine ⟨fun ts k ha=>by rw [ak (tm ha.1).2.2];decide,fun ts k h' ha hst=>?_⟩
 obtain ⟨t',e,v⟩:=(h m hm).2 ts (k+1+1) h' ha.2.2 (by rw [show k+1+1+(tk D m .wtype t).length=k+(mw [91]::mw [93]::tk D m .wtype t).length by simp;omega];exact hst)
 refine ⟨nd 13 [] (zp ts k).pos [t'],by rw [ay,ay,List.map_cons,List.map_cons,e],Ev.of1 v fun n q=>?_⟩
 simp [step,bK,(tm ha.1).2.2,want,ak (tm ha.2.1).2.2,q,R.ax]
 omega
theorem XT_14 {p:Int} {t:Tree} (h:XT D t):XT D (nd 14 [] p [t]):=by
 intro n hn
 obtain ⟨m,rfl⟩:=aH hn
 have hm:nee .wtype t<m:=by simp [nee,aJ,rnk] at hn ⊢;omega
 rw [show tk D (m+1) .wtype (nd 14 [] p [t])=nw [99,104,97,110]::tk D m .wtype t from rfl]
 refine ⟨fun ts k ha=>by rw [ak (tw ha.1 (by decide)).2.2];decide,fun ts k h' ha hst=>?_⟩
 obtain ⟨t',e,v⟩:=(h m hm).2 ts (k+1) h' ha.2 (by rw [show k+1+(tk D m .wtype t).length=k+(nw [99,104,97,110]::tk D m .wtype t).length by simp;omega];exact hst)
 refine ⟨nd 14 [] (zp ts k).pos [t'],by rw [ay,ay,List.map_cons,List.map_cons,e],Ev.of1 v fun n q=>?_⟩
 simp [step,bK,(tw ha.1 (by decide)).2.2,q,R.ax]
 omega
theorem stp_T:Stp jc:=by
 rintro ts k (h | h | h) <;> unfold jc <;> rw [ak h] <;> decide
theorem itm_T {T:List TC} {t:Tree} (h:RTx T t):Itm .wtype jc T t:=fun ts k h' ha hst=>by
 obtain ⟨t',e,v⟩:=h.2 ts k h' ha hst
 exact ⟨t',0,e,v⟩
theorem ty_no {ts:List Tok} {k:Nat} (h:yb ts k tyS=true):yb ts k [[41]]=false:=by
 unfold yb at *
 simp only [Bool.and_eq_true,tyS] at h
 have h2:=h.2
 rw [List.contains_iff_mem] at h2
 simp only [List.mem_cons,List.not_mem_nil,or_false] at h2
 rcases h2 with e | e | e | e | e | e | e <;> rw [e] <;> decide
def RRx (T:List TC) (t:Tree):Prop:=∀ ts k h,At ts k T→jc ts (k+T.length)→∃ t',er t'=er t∧Ev ts .result h k (.ok [t'] 0 (k+T.length))
theorem res_of {t:Tree} (h:(t=aB)∨(XT D t∧t.kind≠8)) {n:Nat} (hn:nee .wtype t<n):RRx (unT [] (tk D n .wtype) t) t:=by
 rcases h with rfl | ⟨h,h8⟩
 ·intro ts k h' ha hst
  refine ⟨aB,rfl,Ev.of0 fun n=>?_⟩
  have hst2:yb ts k [[105,110,116],[98,111,111,108],[115,116,114,105,110,103],[42],[91],[99,104,97,110],[102,117,110,99]]=false:=by simpa [unT,aB,nd,Tree.kind,jc,tyS] using hst
  simp [step,fB,hst2,unT,aB,nd,Tree.kind]
 ·intro ts k h' ha hst
  rw [unT,if_neg h8,List.nil_append] at ha hst ⊢
  have h1:=(h n hn).1 ts k ha
  obtain ⟨t',e,v⟩:=(h n hn).2 ts k h' ha hst
  refine ⟨t',e,Ev.of1 v fun n q=>?_⟩
  have h2:yb ts k [[105,110,116],[98,111,111,108],[115,116,114,105,110,103],[42],[91],[99,104,97,110],[102,117,110,99]]=true:=h1
  simp [step,fB,h2,q]
theorem mg (kd:Int) (x:List UInt8) (p:Int) (l:List Tree) (r:Tree):yM (nd kd x p (l++[r])) ((nd kd x p (l++[r])).kids.length-1)=r:=by
 simp [yM,nd,Tree.kids]
theorem XT_15 {p:Int} {l:List Tree} {r:Tree} (hl:∀ t∈l,XT D t) (hr:(r=aB)∨(XT D r∧r.kind≠8)):XT D (nd 15 [] p (l++[r])):=by
 intro n hn
 obtain ⟨m,rfl⟩:=aH hn
 have hsum:∀ t∈l++[r],nee .wtype t<m:=fun t mt=>by
  have:=oJ (List.mem_map_of_mem (f:=sz) mt)
  simp only [nee,aJ,rnk] at hn ⊢
  rw [if_neg (by decide)] at hn
  omega
 have ht:tk D (m+1) .wtype (nd 15 [] p (l++[r]))=nw [102,117,110,99]::mw [40]::dM (l.map (tk D m .wtype))++mw [41]::unT [] (tk D m .wtype) r:=by
  have e1:=mg 15 [] p l r
  have e2:((nd 15 [] p (l++[r])).kids.take ((nd 15 [] p (l++[r])).kids.length-1))=l:=by simp [nd,Tree.kids]
  simp only [tk,tkS]
  rw [e1,e2]
  rfl
 rw [ht]
 refine ⟨fun ts k ha=>by rw [ak (tw ha.1 (by decide)).2.2];decide,fun ts k h' ha hst=>?_⟩
 have hi:∀ t∈l,Itm .wtype jc (tk D m .wtype t) t:=fun t mt=>itm_T (hl t mt m (hsum t (by simp [mt])))
 have ha1:At ts (k+1+1) (dM (l.map (tk D m .wtype))++([mw [41]]++unT [] (tk D m .wtype) r)):=ha.2.2
 rw [←List.append_assoc,aU] at ha1
 obtain ⟨l',e1,v1⟩:=kF (h:=h') stp_T (tk D m .wtype) l (k+1+1) hi (fun t mt ts k ha=>ty_no ((hl t mt m (hsum t (by simp [mt]))).1 ts k ha)) ha1.1
 have hlen:k+1+1+(dM (l.map (tk D m .wtype))).length+1=k+1+1+(dM (l.map (tk D m .wtype))++[mw [41]]).length:=by simp;omega
 obtain ⟨r',e2,v2⟩:=res_of hr (hsum r (by simp)) ts _ h' ha1.2 (by
  refine cast (congrArg (jc ts) ?_) hst
  simp only [List.length_append,List.length_cons,List.length_nil]
  omega)
 rw [←hlen] at v2
 refine ⟨nd 15 [] (zp ts k).pos (l'++[r']),by rw [ay,ay,List.map_append,List.map_append,e1,List.map_cons,List.map_cons,e2],Ev.of2 v1 v2 fun n q1 q2=>?_⟩
 simp [step,bK,(tw ha.1 (by decide)).2.2,want,ak (tm ha.2.1).2.2,q1,R.bind,q2,R.ax]
 omega
end
end Go.Proofs.YtgbjpnnockoomaaGreatDoor.Px
