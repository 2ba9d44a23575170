import Derived.Test.YtgbjpnnockoomaaGreatDoorParM
import Derived.WalkLawsBesides
set_option maxHeartbeats 800000
set_option maxRecDepth 100000
namespace Go.Proofs.YtgbjpnnockoomaaGreatDoor
open Go.RowKit Lx Px
theorem zy (C:Ctx) (ok:C.Ok) (k:Nat) (h:Bool) (w:World) (p:PS w C k h) :
 Calls Tryz.prog 28 #[.pointer (some ⟨C.b,0,none⟩)] w fun e w'=>e=.returned (.agg #[.int .i64 (zp C.ts k).kind,.string ⟨(zp C.ts k).text.toArray⟩,.int .i64 (zp C.ts k).num,.int .i64 (zp C.ts k).pos])∧w.grownBy w' none:=by
 obtain ⟨d0,d1,d2,d3⟩:=p.cells ok k p.kl
 have c0:w.cell? ⟨C.b,0,none⟩=some (.slice (some ⟨C.tb,0,none⟩) C.ts.length C.cap):=zv p.blk 0
 have c1:w.cell? ⟨C.b,1,none⟩=some (.int .i64 k):=zv p.blk 1
 have hk:=p.kl
 have hfew:=ok.few
 have hcap:=ok.le
 have hlt:=p.lt
 have htl:=bG p.tk
 have P:=zm p
 clear p
 go_enter Tryz.func28,Tryz.ntmps28
 go_wp2
 go_region
 all_goals
  go_wp2
  refine bodyPost_ret (v:=.agg #[.int .i64 (zp C.ts k).kind,.string ⟨(zp C.ts k).text.toArray⟩,.int .i64 (zp C.ts k).num,.int .i64 (zp C.ts k).pos]) (by simp [results,Tryz.results28,go_sem]) rfl ⟨rfl, ?_⟩
  exact zz (zr (zo _ _) _)
theorem zn {w w':World} {r:Option Nat} (h:w.grownBy w' none):w.grownBy w' r:=⟨h.os,h.tape,h.output,h.size,fun i hi _=>h.block i hi zK⟩
theorem PS.quiet {w w':World} {C:Ctx} {k:Nat} {h:Bool} (p:PS w C k h) (hg:w.grownBy w' none):PS w' C k h:=p.same (hg.block _ p.lt zK) (hg.block _ (bG p.tk) zK)
theorem PS.facts {w:World} {C:Ctx} {k:Nat} {h:Bool} (p:PS w C k h) (ok:C.Ok):w.cell? ⟨C.b,0,none⟩=some (.slice (some ⟨C.tb,0,none⟩) C.ts.length C.cap)∧w.cell? ⟨C.b,1,none⟩=some (.int .i64 k)∧w.cell? ⟨C.b,2,none⟩=some (.bool h)∧w.frozen? ⟨C.b,1,none⟩=false∧w.frozen? ⟨C.b,2,none⟩=false∧k<C.ts.length∧C.ts.length≤100000∧C.ts.length≤C.cap∧C.b<w.heap.size∧C.tb<w.heap.size∧C.tb<C.b:=
 ⟨zv p.blk 0,zv p.blk 1,zv p.blk 2,yT p.blk 1,yT p.blk 2,p.kl,ok.few,ok.le,p.lt,bG p.tk,ok.lt⟩
theorem PS.drew {w:World} {C:Ctx} {k:Nat} {h:Bool} (p:PS w C k h):PS w.drew C k h:=⟨p.blk,p.tk,p.kl⟩
theorem PS.set1 {w:World} {C:Ctx} {k k':Nat} {h:Bool} {v:Value} (p:PS w C k h) (ok:C.Ok) (hk:k'<C.ts.length) (hv:v=.int .i64 k'):PS (w.setCell ⟨C.b,1,none⟩ v) C k' h:=by
 subst hv
 refine ⟨by rw [iE p.blk 1 _];rfl,by rw [Below.heap_setCell _ _ _ _ (by have:=ok.lt;show C.tb≠C.b;omega)];exact p.tk,hk⟩
theorem PS.set2 {w:World} {C:Ctx} {k:Nat} {h h':Bool} (p:PS w C k h) (ok:C.Ok):PS (w.setCell ⟨C.b,2,none⟩ (.bool h')) C k h':=by
 refine ⟨by rw [iE p.blk 2 _];rfl,by rw [Below.heap_setCell _ _ _ _ (by have:=ok.lt;show C.tb≠C.b;omega)];exact p.tk,p.kl⟩
set_option linter.unusedSimpArgs false in
theorem yR (C:Ctx) (ok:C.Ok) (k:Nat) (h:Bool) (w:World) (p:PS w C k h) (hl:(zp C.ts k).kind≠6) :
 Calls Tryz.prog 53 #[.pointer (some ⟨C.b,0,none⟩)] w fun e w'=>e=.returned (.agg #[.int .i64 (zp C.ts k).kind,.string ⟨(zp C.ts k).text.toArray⟩,.int .i64 (zp C.ts k).num,.int .i64 (zp C.ts k).pos])∧PS w' C (k+1) h∧w.grownBy w' (some C.b):=by
 obtain ⟨d0,d1,d2,d3⟩:=p.cells ok k p.kl
 obtain ⟨c0,c1,c2,f1,f2,hk,hfew,hcap,hlt,htl,htb⟩:=p.facts ok
 have hk1:k+1<C.ts.length:=ok.last k hk hl
 have hne:¬C.b=w.heap.size:=om
 have P:=zm p
 clear p hl
 go_enter Tryz.func53,Tryz.ntmps53
 go_wp2
 go_region
 all_goals
  go_wp2
  refine bodyPost_ret (v:=.agg #[.int .i64 (zp C.ts k).kind,.string ⟨(zp C.ts k).text.toArray⟩,.int .i64 (zp C.ts k).num,.int .i64 (zp C.ts k).pos]) (by simp [results,Tryz.results53,go_sem]) rfl ⟨rfl,((((zk P).set1 ok hk1 (by go_num)).alloc _).alloc _).drew, ?_⟩
  (repeat (first | with_reducible assumption | with_reducible exact zo _ _ | with_reducible refine zz ?_ | with_reducible refine zr ?_ _ | (with_reducible refine yF ?_ _ zD)))
set_option linter.unusedSimpArgs false in
theorem yc (C:Ctx) (ok:C.Ok) (k:Nat) (h:Bool) (w:World) (p:PS w C k h) :
 Calls Tryz.prog 51 #[.pointer (some ⟨C.b,0,none⟩)] w fun e w'=>e=.returned (.string ⟨(yI C.ts k).toArray⟩)∧w.grownBy w' none:=by
 have HT:=zm (zy C ok k h w p)
 clear p
 by_cases h4:(zp C.ts k).kind=4
 ·have HS:Hid (yI C.ts k=(zp C.ts k).text):=by unfold yI;exact if_pos (.inl h4)
  rw [zk HS]
  rw [h4] at HT
  clear h4
  go_enter Tryz.func51,Tryz.ntmps51
  go_wp2_with fail
  refine (zk HT).mono ?_
  rintro e w1 ⟨rfl,hg⟩
  have G:=hg
  clear hg
  go_wp2
  go_ret
  refine ⟨rfl, ?_⟩
  (repeat (first | with_reducible assumption | with_reducible exact zo _ _ | with_reducible refine zz ?_ | with_reducible refine zr ?_ _ | (with_reducible refine yF ?_ _ zD)))
 ·by_cases h5:(zp C.ts k).kind=5
  ·have HS:Hid (yI C.ts k=(zp C.ts k).text):=by unfold yI;exact if_pos (.inr h5)
   rw [zk HS]
   rw [h5] at HT
   clear h4 h5
   go_enter Tryz.func51,Tryz.ntmps51
   go_wp2_with fail
   refine (zk HT).mono ?_
   rintro e w1 ⟨rfl,hg⟩
   have G:=hg
   clear hg
   go_wp2
   go_ret
   refine ⟨rfl, ?_⟩
   (repeat (first | with_reducible assumption | with_reducible exact zo _ _ | with_reducible refine zz ?_ | with_reducible refine zr ?_ _ | (with_reducible refine yF ?_ _ zD)))
  ·have HS:Hid (yI C.ts k=[]):=by unfold yI;exact if_neg om
   rw [zk HS]
   have b4:((zp C.ts k).kind==4)=false:=by simp [h4]
   have b5:((zp C.ts k).kind==5)=false:=by simp [h5]
   go_enter Tryz.func51,Tryz.ntmps51
   go_wp2_with fail
   refine (zk HT).mono ?_
   rintro e w1 ⟨rfl,hg⟩
   have G:=hg
   clear hg
   go_wp2
   go_ret
   refine ⟨rfl, ?_⟩
   (repeat (first | with_reducible assumption | with_reducible exact zo _ _ | with_reducible refine zz ?_ | with_reducible refine zr ?_ _ | (with_reducible refine yF ?_ _ zD)))
theorem dw:∀ (a:Int) (s:ByteArray) (c d:Int) (w:World),(Instr.field 85 (.agg #[.int .i64 a,.string s,.int .i64 c,.int .i64 d]) 0).run Tryz.prog w=.ok (.int .i64 a) w:=fun _ _ _ _ _=>by kernel_rfl
theorem dL:∀ (a:Int) (s:ByteArray) (c d:Int) (w:World),(Instr.field 85 (.agg #[.int .i64 a,.string s,.int .i64 c,.int .i64 d]) 1).run Tryz.prog w=.ok (.string s) w:=fun _ _ _ _ _=>by kernel_rfl
theorem bT:∀ (a:Int) (s:ByteArray) (c d:Int) (w:World),(Instr.field 85 (.agg #[.int .i64 a,.string s,.int .i64 c,.int .i64 d]) 3).run Tryz.prog w=.ok (.int .i64 d) w:=fun _ _ _ _ _=>by kernel_rfl
set_option linter.unusedSimpArgs false in
theorem dA (C:Ctx) (ok:C.Ok) (k:Nat) (h:Bool) (w:World) (rule:ByteArray) (p:PS w C k h) :
 Calls Tryz.prog 57 #[.pointer (some ⟨C.b,0,none⟩),.string rule] w fun e w'=>e=.returned (.iface 62 (.agg #[.string rule,.iface 42 (.agg #[.int .i64 (zp C.ts k).pos])]))∧w.grownBy w' none:=by
 have HT:=zm (zy C ok k h w p)
 have tf3:=bT
 clear p
 go_enter Tryz.func57,Tryz.ntmps57
 go_wp2_with fail
 refine (zk HT).mono ?_
 rintro e w1 ⟨rfl,hg⟩
 have G:=hg
 clear hg
 go_wp2
 go_ret
 refine ⟨rfl, ?_⟩
 (repeat (first | with_reducible assumption | with_reducible exact zo _ _ | with_reducible refine zz ?_ | with_reducible refine zr ?_ _ | (with_reducible refine yF ?_ _ zD)))
set_option linter.unusedSimpArgs false in
theorem dh (w:World):Calls Tryz.prog 88 #[] w fun e w'=>e=.returned (.agg #[.int .i64 8,.string ⟨#[]⟩,.int .i64 0,.int .i64 0,.string ⟨#[]⟩,.int .i64 0,.slice none 0 0])∧w.grownBy w' none:=by
 go_enter Tryz.func88,Tryz.ntmps88
 go_wp2
 refine bodyPost_ret (v:=.agg #[.int .i64 8,.string ⟨#[]⟩,.int .i64 0,.int .i64 0,.string ⟨#[]⟩,.int .i64 0,.slice none 0 0]) (by simp [results,Tryz.results88,go_sem]) rfl ⟨rfl, ?_⟩
 (repeat (first | with_reducible assumption | with_reducible exact zo _ _ | with_reducible refine zz ?_ | with_reducible refine zr ?_ _ | (with_reducible refine yF ?_ _ zD)))
open Go.RowKit Lx Px
def Strs (w:World) (g:Nat) (l:List (List UInt8)):Prop:=∀ j (hj:j<l.length),w.cell? ⟨g,j,none⟩=some (.string ⟨l[j].toArray⟩)
def hasB (l:List (List UInt8)) (v:List UInt8):Bool:=l.contains v
set_option linter.unusedSimpArgs false in
theorem index_any (g:Nat) (l:List (List UInt8)) (v:List UInt8) (w:World) (hl:l.length≤100) (hs:Strs w g l) :
 Calls Tryz.prog 90 #[.slice (some ⟨g,0,none⟩) l.length l.length,.string ⟨v.toArray⟩] w fun e w'=>(∃ z:Int,e=.returned (.int .i64 z)∧decide (z<0)=!(hasB l v))∧w'=w:=by
 have HS:=zm hs
 clear hs
 go_enter Tryz.func90,Tryz.ntmps90
 go_wp2
 go_loop [8] (fun i=>∃ k:Nat,k≤l.length∧i=.int .i64 k∧Hid (∀ j (hj:j<l.length),j<k→l[j]≠v)) (fun i=>l.length-(intOf i).toNat)
 case atStart=>exact ⟨0,Nat.zero_le _,rfl,fun j hj h=>by omega⟩
 case round=>
  obtain ⟨k,hk,rfl,hno⟩:=hrel
  by_cases hlt:k<l.length
  ·have hc:=zk HS k hlt
   by_cases he:l[k]=v
   ·have hb:(v==l[k])=true:=by simp [he]
    have HH:Hid (hasB l v=true):=by unfold hasB;rw [←he];show l.contains l[k]=true;simp
    clear he
    go_wp2
    go_ret
    exact ⟨⟨k,rfl,by rw [zk HH];simp⟩,rfl⟩
   ·have hb:(v==l[k])=false:=beq_eq_false_iff_ne.2 fun h=>he h.symm
    have HE:=zm he
    clear he
    go_wp2
    go_round
    case rel=>exact ⟨k+1,om,by go_num,fun j hj hjk=>by by_cases e:j=k;(subst e;exact zk HE);exact zk hno j hj om⟩
    case measure=>simp [intOf];omega
  ·have HH:Hid (hasB l v=false):=by
    unfold hasB
    refine Bool.eq_false_iff.2 fun hc=>?_
    obtain ⟨j,hj,he⟩:=List.getElem_of_mem (List.contains_iff_mem.1 hc)
    exact zk hno j hj om he
   go_wp2
   go_ret
   exact ⟨⟨-1,rfl,by rw [zk HH];rfl⟩,rfl⟩
set_option linter.unusedSimpArgs false in
theorem uH (g:Nat) (l:List (List UInt8)) (v:List UInt8) (w:World) (hl:l.length≤100) (hs:Strs w g l) :
 Calls Tryz.prog 80 #[.slice (some ⟨g,0,none⟩) l.length l.length,.string ⟨v.toArray⟩] w fun e w'=>e=.returned (.bool (hasB l v))∧w'=w:=by
 have HI:=zm (index_any g l v w hl hs)
 clear hs
 go_enter Tryz.func80,Tryz.ntmps80
 go_wp2_with fail
 refine (zk HI).mono ?_
 rintro e w1 ⟨⟨z,rfl,hz⟩,rfl⟩
 have HZ:=zm hz
 clear hz
 go_wp2
 go_ret
 refine ⟨eX ?_,rfl⟩
 have:=zk HZ
 cases hh:hasB l v <;> simp_all
set_option linter.unusedSimpArgs false in
theorem is_any (C:Ctx) (ok:C.Ok) (k:Nat) (h:Bool) (w:World) (g:Nat) (l:List (List UInt8)) (hl:l.length≤100) (p:PS w C k h) (hs:Strs w g l) (hg:g<w.heap.size) :
 Calls Tryz.prog 58 #[.pointer (some ⟨C.b,0,none⟩),.slice (some ⟨g,0,none⟩) l.length l.length] w fun e w'=>e=.returned (.bool (yb C.ts k l))∧w.grownBy w' none:=by
 have HT:=zm (yc C ok k h w p)
 have HS:=zm hs
 clear hs p
 generalize hsg:yI C.ts k=sg at *
 have HSG:=zm hsg
 clear hsg
 by_cases he:sg=[]
 ·have HI:Hid (yb C.ts k l=false):=by unfold yb;rw [zk HSG,he];rfl
  rw [zk HI]
  subst he
  go_enter Tryz.func58,Tryz.ntmps58
  go_wp2_with fail
  refine (zk HT).mono ?_
  rintro e w1 ⟨rfl,hgr⟩
  have G:=hgr
  clear hgr
  go_wp2
  go_ret
  refine ⟨rfl, ?_⟩
  (repeat (first | with_reducible assumption | with_reducible exact zo _ _ | with_reducible refine zz ?_ | with_reducible refine zr ?_ _ | (with_reducible refine yF ?_ _ zD)))
 ·have HI:Hid (yb C.ts k l=hasB l sg):=by unfold yb hasB;rw [zk HSG];cases sg with | nil=>exact absurd rfl he | cons _ _=>rfl
  rw [zk HI]
  have hb:(sg==[])=false:=beq_eq_false_iff_ne.2 he
  clear he
  go_enter Tryz.func58,Tryz.ntmps58
  go_wp2_with fail
  refine (zk HT).mono ?_
  rintro e w1 ⟨rfl,hgr⟩
  have HC:=zm (uH g l sg w1 hl fun j hj=>by rw [World.cell?_of_block (w:=w) (hgr.block g hg zK)];exact zk HS j hj)
  have G:=hgr
  clear hgr
  go_wp2_with fail
  refine (zk HC).mono ?_
  rintro e w2 ⟨rfl,hw2⟩
  have hw3:=hw2.symm
  clear hw2
  subst hw3
  go_wp2
  go_ret
  refine ⟨rfl, ?_⟩
  (repeat (first | with_reducible assumption | with_reducible exact zo _ _ | with_reducible refine zz ?_ | with_reducible refine zr ?_ _ | (with_reducible refine yF ?_ _ zD)))
theorem isS_kind {ts:List Tok} {k:Nat} {l:List (List UInt8)} (h:yb ts k l=true):(zp ts k).kind=4∨(zp ts k).kind=5:=by
 unfold yb yI at h
 by_cases hk:(zp ts k).kind=4∨(zp ts k).kind=5
 ·exact hk
 ·rw [if_neg hk] at h;simp at h
theorem lu {ts:List Tok} {k:Nat} {l:List (List UInt8)} (h:yb ts k l=true):(zp ts k).kind≠6:=by
 rcases isS_kind h with h | h <;> omega
theorem strs1 {w:World} {g:Nat} {t:TypeId} {s:ByteArray} (h:w.heap[g]?=some (.cells #[.string s] t)):Strs w g [s.toList]:=by
 intro j hj
 have:j=0:=by simpa using hj
 subst this
 rw [zv h]
 simp [ba_of]
set_option linter.unusedSimpArgs false in
theorem yV (C:Ctx) (ok:C.Ok) (k:Nat) (h:Bool) (w:World) (s:List UInt8) (p:PS w C k h) (hs:yb C.ts k [s]=false) :
 Calls Tryz.prog 73 #[.pointer (some ⟨C.b,0,none⟩),.string ⟨s.toArray⟩] w fun e w'=>e=.returned (.bool false)∧w.grownBy w' none:=by
 have HT:=zm (is_any C ok k h (w.alloc (.cells #[.string ⟨s.toArray⟩] 9)) w.heap.size [s] zK (p.alloc _) (by have:=strs1 (yW w (.cells #[.string ⟨s.toArray⟩] 9) rfl);simpa [ByteArray.toList_mk] using this) zK)
 rw [hs] at HT
 clear p hs
 go_enter Tryz.func73,Tryz.ntmps73
 go_wp2_with fail
 refine (zk HT).mono ?_
 rintro e w1 ⟨rfl,hgr⟩
 have G:w.grownBy w1 none:=zl (zr (zo _ _) _) hgr
 clear hgr
 go_wp2
 go_ret
 refine ⟨rfl, ?_⟩
 (repeat (first | with_reducible assumption | with_reducible exact zo _ _ | with_reducible refine zz ?_ | with_reducible refine zr ?_ _ | (with_reducible refine yF ?_ _ zD)))
set_option linter.unusedSimpArgs false in
theorem yU (C:Ctx) (ok:C.Ok) (k:Nat) (h:Bool) (w:World) (s:List UInt8) (p:PS w C k h) (hs:yb C.ts k [s]=true) :
 Calls Tryz.prog 73 #[.pointer (some ⟨C.b,0,none⟩),.string ⟨s.toArray⟩] w fun e w'=>e=.returned (.bool true)∧PS w' C (k+1) h∧w.grownBy w' (some C.b):=by
 have HT:=zm (is_any C ok k h (w.alloc (.cells #[.string ⟨s.toArray⟩] 9)) w.heap.size [s] zK (p.alloc _) (by have:=strs1 (yW w (.cells #[.string ⟨s.toArray⟩] 9) rfl);simpa [ByteArray.toList_mk] using this) zK)
 have hk1:k+1<C.ts.length:=ok.last k p.kl (lu hs)
 rw [hs] at HT
 have P:=zm p
 clear p hs
 go_enter Tryz.func73,Tryz.ntmps73
 go_wp2_with fail
 refine (zk HT).mono ?_
 rintro e w1 ⟨rfl,hgr⟩
 have p1:=((zk P).alloc (.cells #[.string ⟨s.toArray⟩] 9)).quiet hgr
 obtain ⟨c0,c1,c2,f1,f2,hk,hfew,hcap,hlt,htl,htb⟩:=p1.facts ok
 have P1:=zm p1
 have G:w.grownBy w1 (some C.b):=zl (zr (zo _ _) _) (zn hgr)
 clear hgr p1
 go_wp2
 go_ret
 refine ⟨rfl,(zk P1).set1 ok hk1 (by go_num), ?_⟩
 (repeat (first | with_reducible assumption | with_reducible exact zo _ _ | with_reducible refine zz ?_ | with_reducible refine zr ?_ _ | (with_reducible refine yF ?_ _ zD)))
def brk (rule:ByteArray) (p:Int):List PanicEntry:=[{ v:=.iface 62 (.agg #[.string rule,.iface 42 (.agg #[.int .i64 p])]),recovered:=false }]
theorem yp {P:Program} {fn:Func} {Q:Ending→World→Prop} {a:Act} {w:World} {ch:List PanicEntry} (hd:a.defers=[]) (h:Q (.panicked ch) w):bodyPost P fn Q (.panic ch) a w:=⟨hd,h⟩
theorem PS.over {w:World} {C:Ctx} {k:Nat} {h:Bool} {a:Addr} (p:PS w C k h) (ok:C.Ok) (u:Value) (ha:C.b<a.block):PS (w.setCell a u) C k h:=
 p.same (Below.heap_setCell _ _ _ _ om) (Below.heap_setCell _ _ _ _ (by have:=ok.lt;omega))
theorem strsL {w:World} {g:Nat} {t:TypeId} {l:List (List UInt8)} (h:w.heap[g]?=some (.cells (l.map fun s=>.string ⟨s.toArray⟩).toArray t)):Strs w g l:=by
 intro j hj
 rw [zv h]
 simp [hj]
theorem isL (C:Ctx) (ok:C.Ok) (k:Nat) (h:Bool) (w:World) (g:Nat) (l:List (List UInt8)) (hl:l.length≤100) (p:PS w C k h) (hg:g=w.heap.size) :
 Calls Tryz.prog 58 #[.pointer (some ⟨C.b,0,none⟩),.slice (some ⟨g,0,none⟩) l.length l.length] (w.alloc (.cells (l.map fun s=>.string ⟨s.toArray⟩).toArray 9)) fun e w'=>e=.returned (.bool (yb C.ts k l))∧w.grownBy w' none:=by
 subst hg
 refine (is_any C ok k h _ w.heap.size l hl (p.alloc _) (strsL (yW w _ rfl)) zK).mono ?_
 rintro e w' ⟨he,hg⟩
 exact ⟨he,zl (zr (zo _ _) _) hg⟩
set_option linter.unusedSimpArgs false in
theorem yJ (C:Ctx) (ok:C.Ok) (k:Nat) (h:Bool) (w:World) (rule:ByteArray) (s:List UInt8) (p:PS w C k h) (hs:yb C.ts k [s]=true) :
 Calls Tryz.prog 30 #[.pointer (some ⟨C.b,0,none⟩),.string rule,.string ⟨s.toArray⟩] w fun e w'=>e=.returned (.agg #[.int .i64 (zp C.ts k).kind,.string ⟨(zp C.ts k).text.toArray⟩,.int .i64 (zp C.ts k).num,.int .i64 (zp C.ts k).pos])∧PS w' C (k+1) h∧w.grownBy w' (some C.b):=by
 have HT:=zm (isL C ok k h (w.alloc (.cells #[.int .i64 0,.string ⟨#[]⟩,.int .i64 0,.int .i64 0] 85)) (w.heap.size+1) [s] zK (p.alloc _) zK)
 have hl:=lu hs
 rw [hs] at HT
 have P:=zm p
 clear p hs
 go_enter Tryz.func30,Tryz.ntmps30
 go_wp2_with fail
 refine (zk HT).mono ?_
 rintro e w1 ⟨rfl,hgr⟩
 have r1:w1.heap[w.heap.size]?=some (.cells #[.int .i64 0,.string ⟨#[]⟩,.int .i64 0,.int .i64 0] 85):=by rw [hgr.block _ zK zK];exact yW w _ rfl
 have p1:=((zk P).alloc (.cells #[.int .i64 0,.string ⟨#[]⟩,.int .i64 0,.int .i64 0] 85)).quiet hgr
 have HT2:=zm (yR C ok k h w1 p1 hl)
 have hrl:=bG r1
 have hbl:=(zk P).lt
 have R1:=zm r1
 have G:w.grownBy w1 (some C.b):=zl (zr (zo _ _) _) (zn hgr)
 clear hgr p1 hl r1
 go_wp2_with fail
 refine (zk HT2).mono ?_
 rintro e w2 ⟨rfl,p2,hg2⟩
 have r2:w2.heap[w.heap.size]?=some (.cells #[.int .i64 0,.string ⟨#[]⟩,.int .i64 0,.int .i64 0] 85):=by rw [hg2.block _ hrl sp];exact zk R1
 have zc:=zv r2
 have fz:=yT r2
 have G2:w.grownBy w2 (some C.b):=zl G hg2
 have P2:=p2
 clear hg2 p2
 have R2:=zm r2
 clear r2
 go_wp2
 refine bodyPost_ret (v:=.agg #[.int .i64 (zp C.ts k).kind,.string ⟨(zp C.ts k).text.toArray⟩,.int .i64 (zp C.ts k).num,.int .i64 (zp C.ts k).pos]) (by simp [results,Tryz.results30,go_sem,zc]) rfl ⟨rfl, ?_, ?_⟩
 ·(repeat (first | with_reducible assumption | with_reducible refine PS.drew ?_ | with_reducible refine PS.alloc ?_ _ | with_reducible refine PS.over ?_ ok _ zI | with_reducible refine PS.set2 ?_ ok))
 ·(repeat (first | with_reducible assumption | with_reducible exact zo _ _ | with_reducible refine zz ?_ | with_reducible refine zr ?_ _ | (with_reducible refine yF ?_ _ zD)))
set_option linter.unusedSimpArgs false in
theorem yX (C:Ctx) (ok:C.Ok) (k:Nat) (h:Bool) (w:World) (rule:ByteArray) (s:List UInt8) (p:PS w C k h) (hs:yb C.ts k [s]=false) :
 Calls Tryz.prog 30 #[.pointer (some ⟨C.b,0,none⟩),.string rule,.string ⟨s.toArray⟩] w fun e w'=>e=.panicked (brk rule (zp C.ts k).pos)∧w.grownBy w' none:=by
 have HT:=zm (isL C ok k h (w.alloc (.cells #[.int .i64 0,.string ⟨#[]⟩,.int .i64 0,.int .i64 0] 85)) (w.heap.size+1) [s] zK (p.alloc _) zK)
 rw [hs] at HT
 have P:=zm p
 clear p hs
 go_enter Tryz.func30,Tryz.ntmps30
 go_wp2_with fail
 refine (zk HT).mono ?_
 rintro e w1 ⟨rfl,hgr⟩
 have p1:=((zk P).alloc (.cells #[.int .i64 0,.string ⟨#[]⟩,.int .i64 0,.int .i64 0] 85)).quiet hgr
 have HT2:=zm (dA C ok k h w1 rule p1)
 have G:w.grownBy w1 none:=zl (zr (zo _ _) _) hgr
 clear hgr p1
 go_wp2_with fail
 refine (zk HT2).mono ?_
 rintro e w2 ⟨rfl,hg2⟩
 have G2:w.grownBy w2 none:=zl G hg2
 clear hg2
 go_wp2
 exact yp rfl ⟨rfl,G2⟩
set_option linter.unusedSimpArgs false in
theorem kH (C:Ctx) (ok:C.Ok) (k:Nat) (h:Bool) (w:World) (rule:ByteArray) (p:PS w C k h) (hs:¬(zp C.ts k).kind=1) :
 Calls Tryz.prog 55 #[.pointer (some ⟨C.b,0,none⟩),.string rule] w fun e w'=>e=.panicked (brk rule (zp C.ts k).pos)∧w.grownBy w' none:=by
 have HT:=zm (zy C ok k h _ (p.alloc (.cells #[.int .i64 0,.string ⟨#[]⟩,.int .i64 0,.int .i64 0] 85)))
 have b1:((zp C.ts k).kind==1)=false:=by simp [hs]
 have tf:=dw
 have P:=zm p
 clear p hs
 go_enter Tryz.func55,Tryz.ntmps55
 go_wp2_with fail
 refine (zk HT).mono ?_
 rintro e w1 ⟨rfl,hgr⟩
 have p1:=((zk P).alloc (.cells #[.int .i64 0,.string ⟨#[]⟩,.int .i64 0,.int .i64 0] 85)).quiet hgr
 have HT2:=zm (dA C ok k h w1 rule p1)
 have G:w.grownBy w1 none:=zl (zr (zo _ _) _) hgr
 clear hgr p1
 go_wp2_with fail
 refine (zk HT2).mono ?_
 rintro e w2 ⟨rfl,hg2⟩
 have G2:w.grownBy w2 none:=zl G hg2
 clear hg2
 go_wp2
 exact yp rfl ⟨rfl,G2⟩
set_option linter.unusedSimpArgs false in
theorem jB (C:Ctx) (ok:C.Ok) (k:Nat) (h:Bool) (w:World) (rule:ByteArray) (p:PS w C k h) (hs:(zp C.ts k).kind=1) :
 Calls Tryz.prog 55 #[.pointer (some ⟨C.b,0,none⟩),.string rule] w fun e w'=>e=.returned (.agg #[.int .i64 (zp C.ts k).kind,.string ⟨(zp C.ts k).text.toArray⟩,.int .i64 (zp C.ts k).num,.int .i64 (zp C.ts k).pos])∧PS w' C (k+1) h∧w.grownBy w' (some C.b):=by
 have HT:=zm (zy C ok k h _ (p.alloc (.cells #[.int .i64 0,.string ⟨#[]⟩,.int .i64 0,.int .i64 0] 85)))
 have b1:((zp C.ts k).kind==1)=true:=by simp [hs]
 have hl:(zp C.ts k).kind≠6:=om
 have tf:=dw
 have P:=zm p
 clear p hs
 go_enter Tryz.func55,Tryz.ntmps55
 go_wp2_with fail
 refine (zk HT).mono ?_
 rintro e w1 ⟨rfl,hgr⟩
 have r1:w1.heap[w.heap.size]?=some (.cells #[.int .i64 0,.string ⟨#[]⟩,.int .i64 0,.int .i64 0] 85):=by rw [hgr.block _ zK zK];exact yW w _ rfl
 have p1:=((zk P).alloc (.cells #[.int .i64 0,.string ⟨#[]⟩,.int .i64 0,.int .i64 0] 85)).quiet hgr
 have HT2:=zm (yR C ok k h w1 p1 hl)
 have hrl:=bG r1
 have hbl:=(zk P).lt
 have R1:=zm r1
 have G:w.grownBy w1 (some C.b):=zl (zr (zo _ _) _) (zn hgr)
 clear hgr p1 hl r1
 go_wp2_with fail
 refine (zk HT2).mono ?_
 rintro e w2 ⟨rfl,p2,hg2⟩
 have r2:w2.heap[w.heap.size]?=some (.cells #[.int .i64 0,.string ⟨#[]⟩,.int .i64 0,.int .i64 0] 85):=by rw [hg2.block _ hrl sp];exact zk R1
 have zc:=zv r2
 have fz:=yT r2
 have G2:w.grownBy w2 (some C.b):=zl G hg2
 have P2:=p2
 clear hg2 p2 r2
 go_wp2
 refine bodyPost_ret (v:=.agg #[.int .i64 (zp C.ts k).kind,.string ⟨(zp C.ts k).text.toArray⟩,.int .i64 (zp C.ts k).num,.int .i64 (zp C.ts k).pos]) (by simp [results,Tryz.results55,go_sem,zc]) rfl ⟨rfl, ?_, ?_⟩
 ·(repeat (first | with_reducible assumption | with_reducible refine PS.drew ?_ | with_reducible refine PS.alloc ?_ _ | with_reducible refine PS.over ?_ ok _ zI | with_reducible refine PS.set2 ?_ ok))
 ·(repeat (first | with_reducible assumption | with_reducible exact zo _ _ | with_reducible refine zz ?_ | with_reducible refine zr ?_ _ | (with_reducible refine yF ?_ _ zD)))
end Go.Proofs.YtgbjpnnockoomaaGreatDoor
