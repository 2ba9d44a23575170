import Derived.Test.YtgbjpnnockoomaaGreatDoorParP
import Derived.Test.YtgbjpnnockoomaaGreatDoorNum
import Derived.Deep.Slices
import Derived.ProofKit
import Derived.SizedLaws
import Derived.Deep.RegionHeld2
import Derived.Deep.LoopGhost
import Derived.Deep.AppendLies
import Derived.Laws.MakeOwn
import Derived.Test.YtgbjpnnockoomaaGreatDoorQg
import Derived.Test.YtgbjpnnockoomaaGreatDoorQe
set_option linter.unusedVariables false
set_option maxRecDepth 100000
set_option linter.unusedSimpArgs false
set_option maxHeartbeats 4000000
namespace Go.Proofs.YtgbjpnnockoomaaGreatDoor.Px
open Lx
def Tree.kind:Tree→Int | .mk k _ _ _ _=>k
def Tree.num:Tree→Int | .mk _ _ n _ _=>n
def dZ:Tree:=.mk 0 [] 0 0 []
def yM (t:Tree) (i:Nat):Tree:=t.kids.getD i dZ
def qB (c:UInt8):List UInt8:=if c=10 then [92,110] else if c=34 then [92,34] else if c=92 then [92,92] else [c]
def nN (x:List UInt8):List UInt8:=34::(x.flatMap qB++[34])
def bV (d:Nat):List UInt8:=List.replicate d 9
def eY:List (List UInt8)→List UInt8
 | []=>[]
 | x::r=>x++r.flatMap fun y=>[44,32]++y
def linesT (f:Tree→List UInt8) (d:Nat) (l:List Tree):List UInt8:=l.flatMap fun t=>bV (d+1)++f t++[10]
def gX (ahead:List UInt8) (f:Tree→List UInt8) (t:Tree):List UInt8:=if t.kind=8 then [] else ahead++f t
inductive PrJ where
 | expr | stmt | block | wtype | typed | field | param | params | function | decl | simple | both (s:List UInt8) | exprStmt | initial | builtin | pointed | primary
 | ifStmt | forStmt | forParts | switchStmt | selectStmt | clause | comm | receiving | clauseStmts | jump (s:List UInt8) | file
section
variable (digits : Int → List UInt8) (rec : PrJ → Nat → Tree → List UInt8)
def ym (j:PrJ) (d:Nat) (t:Tree):List UInt8:=
 match j with
 | .expr=>
   if t.kind=36 then digits t.num
   else if t.kind=37 then nN t.text
   else if t.kind=38∨t.kind=40 then t.text
   else if t.kind=39 then [110,105,108]
   else if t.kind=41 then [40]++t.text++rec .expr d (yM t 0)++[41]
   else if t.kind=42 then [40]++rec (.both t.text) d t++[41]
   else if t.kind=44 then rec .builtin d t
   else if t.kind=48 then [102,117,110,99]++rec .function d t
   else if t.kind=49 then [40,38]++t.text++[123]++eY (t.kids.map (rec .initial d))++[125,41]
   else if t.kind=50 then [40,91,93]++rec .wtype d (yM t 0)++[123]++eY ((t.kids.drop 1).map (rec .expr d))++[125,41]
   else rec .primary d t
 | .primary=>
   if t.kind=43 then rec .expr d (yM t 0)++[40]++eY ((t.kids.drop 1).map (rec .expr d))++[41]
   else if t.kind=45 then rec .expr d (yM t 0)++[91]++rec .expr d (yM t 1)++[93]
   else if t.kind=46 then rec .expr d (yM t 0)++[91]++gX [] (rec .expr d) (yM t 1)++[58]++gX [] (rec .expr d) (yM t 2)++[93]
   else if t.kind=47 then rec .expr d (yM t 0)++[46]++t.text
   else [63]
 | .both s=>rec .expr d (yM t 0)++[32]++s++[32]++rec .expr d (yM t 1)
 | .initial=>if t.kind=5 then t.text++[58,32]++rec .expr d (yM t 0) else [63]
 | .builtin=>
   t.text++[40]++(if t.text=[109,97,107,101] then rec .wtype d (yM t 0)++(if 1<t.kids.length then [44,32]++rec .expr d (yM t 1) else [])
    else if t.text=[110,101,119] then rec .pointed d (yM t 0) else eY (t.kids.map (rec .expr d)))++[41]
 | .pointed=>if t.kind=12 then t.text else [63]
 | .wtype=>
   if t.kind=9 then [105,110,116]
   else if t.kind=10 then [98,111,111,108]
   else if t.kind=11 then [115,116,114,105,110,103]
   else if t.kind=12 then [42]++t.text
   else if t.kind=13 then [91,93]++rec .wtype d (yM t 0)
   else if t.kind=14 then [99,104,97,110,32]++rec .wtype d (yM t 0)
   else if t.kind=15 then [102,117,110,99,40]++eY ((t.kids.take (t.kids.length-1)).map (rec .wtype d))++[41]++gX [32] (rec .wtype d) (yM t (t.kids.length-1))
   else [63]
 | .typed=>t.text++[32]++rec .wtype d (yM t 0)
 | .field=>if t.kind=5 then rec .typed d t else [63]
 | .param=>if t.kind=7 then rec .typed d t else [63]
 | .params=>if t.kind=6 then eY (t.kids.map (rec .param d)) else [63]
 | .function=>[40]++rec .params d (yM t 0)++[41]++gX [32] (rec .wtype d) (yM t 1)++[32]++rec .block d (yM t 2)
 | .decl=>
   if t.kind=2 then [116,121,112,101,32]++t.text++[32,115,116,114,117,99,116,32,123,10]++linesT (rec .field (d+1)) d t.kids++[125]
   else if t.kind=3 then [118,97,114,32]++rec .typed d t
   else if t.kind=4 then [102,117,110,99,32]++t.text++rec .function d t
   else [63]
 | .file=>if t.kind=1 then t.kids.flatMap fun k=>rec .decl d k++[10] else [63]
 | .block=>if t.kind=16 then [123,10]++linesT (rec .stmt (d+1)) d t.kids++bV d++[125] else [63]
 | .stmt=>
   if t.kind=18 then [118,97,114,32]++rec .typed d t++gX [32,61,32] (rec .expr d) (yM t 1)
   else if t.kind=16 then rec .block d t
   else if t.kind=21 then rec .ifStmt d t
   else if t.kind=22 then rec .forStmt d t
   else if t.kind=23 then rec .switchStmt d t
   else if t.kind=25 then rec .selectStmt d t
   else if t.kind=27 then rec (.jump [98,114,101,97,107]) d t
   else if t.kind=28 then rec (.jump [99,111,110,116,105,110,117,101]) d t
   else if t.kind=29 then [102,97,108,108,116,104,114,111,117,103,104]
   else if t.kind=30 then [114,101,116,117,114,110]++gX [32] (rec .expr d) (yM t 0)
   else if t.kind=31 then [103,111,32]++rec .expr d (yM t 0)
   else if t.kind=32 then [100,101,102,101,114,32]++rec .expr d (yM t 0)
   else if t.kind=35 then t.text++[58,32]++rec .stmt d (yM t 0)
   else rec .simple d t
 | .jump s=>s++(if t.text=[] then [] else [32]++t.text)
 | .simple=>
   if t.kind=17 then t.text++[32,58,61,32]++rec .expr d (yM t 0)
   else if t.kind=19 then rec (.both t.text) d t
   else if t.kind=20 then rec .expr d (yM t 0)++t.text
   else if t.kind=33 then rec (.both [60,45]) d t
   else if t.kind=34 then rec .exprStmt d (yM t 0)
   else [63]
 | .exprStmt=>if t.kind=41∧t.text=[60,45] then [60,45]++rec .expr d (yM t 0) else rec .expr d t
 | .ifStmt=>[105,102,32]++rec .expr d (yM t 0)++[32]++rec .block d (yM t 1)++gX [32,101,108,115,101,32] (rec .stmt d) (yM t 2)
 | .forStmt=>[102,111,114]++(if (yM t 0).kind=8∧(yM t 2).kind=8 then gX [32] (rec .expr d) (yM t 1) else rec .forParts d t)++[32]++rec .block d (yM t 3)
 | .forParts=>[32]++gX [] (rec .stmt d) (yM t 0)++[59,32]++gX [] (rec .expr d) (yM t 1)++[59]++gX [32] (rec .stmt d) (yM t 2)
 | .switchStmt=>[115,119,105,116,99,104]++gX [32] (rec .expr d) (yM t 0)++[32,123,10]++(t.kids.drop 1).flatMap (rec .clause d)++bV d++[125]
 | .selectStmt=>[115,101,108,101,99,116]++[32,123,10]++t.kids.flatMap (rec .comm d)++bV d++[125]
 | .clause=>
   if t.kind=24∧t.text=[99,97,115,101] then bV d++[99,97,115,101,32]++(if t.kids.length-1=0 then [63] else [])++eY ((t.kids.take (t.kids.length-1)).map (rec .expr d))++rec .clauseStmts d (yM t (t.kids.length-1))
   else if t.kind=24∧t.text=[100,101,102,97,117,108,116] then bV d++[100,101,102,97,117,108,116]++rec .clauseStmts d (yM t (t.kids.length-1))
   else [63]
 | .comm=>
   if t.kind=26∧t.text=[114,101,99,118] then rec .receiving d t
   else if t.kind=26∧t.text=[115,101,110,100] then bV d++[99,97,115,101,32]++rec (.both [60,45]) d t++rec .clauseStmts d (yM t 2)
   else if t.kind=26∧t.text=[100,101,102,97,117,108,116] then bV d++[100,101,102,97,117,108,116]++rec .clauseStmts d (yM t 0)
   else [63]
 | .receiving=>
   if (yM t 0).kind=7 then bV d++[99,97,115,101,32]++(yM t 0).text++[32,58,61,32]++[60,45]++rec .expr d (yM t 1)++rec .clauseStmts d (yM t 2)
   else bV d++[99,97,115,101,32]++[60,45]++rec .expr d (yM t 0)++rec .clauseStmts d (yM t 1)
 | .clauseStmts=>[58,10]++(if t.kind=16 then linesT (rec .stmt (d+1)) d t.kids else [63])
end
def pr (digits:Int→List UInt8):Nat→PrJ→Nat→Tree→List UInt8
 | 0=>fun _ _ _=>[]
 | n+1=>ym digits (pr digits n)
open Lx
def er:Tree→Tree
 | .mk a b c _ l=>.mk a b c 0 (l.map er)
theorem iZ (a:Int) (b:List UInt8) (c p:Int) (l:List Tree):er (.mk a b c p l)=.mk a b c 0 (l.map er):=by rw [er]
end Go.Proofs.YtgbjpnnockoomaaGreatDoor.Px
namespace Go.Proofs.YtgbjpnnockoomaaGreatDoor
open Go.RowKit Lx
end Go.Proofs.YtgbjpnnockoomaaGreatDoor
namespace Go.Proofs.YtgbjpnnockoomaaGreatDoor.Jj
open Go.RowKit Lx Px
def aO (w:World) (kv:Value) (l:List Tree):Prop:=∃ cs,w.ownsRow 0 25 7 kv l.length cs∧bM w l (fun b=>b<w.heap.size) cs
theorem aO.of {w:World} {lo hi:Nat} {kv:Value} {l:List Tree} (h:zq w lo hi kv l) (hh:hi≤w.heap.size):aO w kv l:=by
 obtain ⟨cs,h1,h2,h3⟩:=h
 exact ⟨cs,nI (Nat.zero_le _) h1,yZ h3 _ (fun b hb=>⟨om,rfl⟩)⟩
theorem aO.grown {w w':World} {kv:Value} {l:List Tree} (h:aO w kv l) (hg:w.grownBy w' none):aO w' kv l:=by
 obtain ⟨cs,h1,h3⟩:=h
 have hz:=hg.size
 exact ⟨cs,gy h1 (fun g hq=>hg.block g (h1.lt g hq).2 zK),yZ h3 _ (fun b hb=>⟨om,hg.block b hb zK⟩)⟩
theorem cells_at {w:World} {S:Nat→Prop} : ∀ {l:List Tree} {cs:List Value} (h:bM w l S cs) (i:Nat) (kd:Int) (tx:List UInt8) (nm ps:Int) (ks:List Tree),l[i]?=some (.mk kd tx nm ps ks)→
 ∃ kv kc,w.ownsRow 0 25 7 kv ks.length kc∧(∀ g,kv.ownBlock=some g→S g)∧bM w ks (fun b=>S b∧some b≠kv.ownBlock) kc∧∀ j,j<7→cs[i*7+j]?=(fM kd tx nm ps kv)[j]?:=by
 intro l cs h
 induction h with
 | nil S=>intro i kd tx nm ps ks e;simp at e
 | @cons S kd0 nm0 ps0 tx0 kids0 l0 kv0 ks0 r0 h1 h2 h3 h4 _ ih4=>
   intro i kd tx nm ps ks e
   cases i with
   | zero=>
     simp at e
     obtain ⟨rfl,rfl,rfl,rfl,rfl⟩:=e
     refine ⟨kv0,ks0,h1,h2,h3,fun j hj=>?_⟩
     rw [Nat.zero_mul,Nat.zero_add,List.getElem?_append_left (by simp [fM];omega)]
   | succ i=>
     simp at e
     obtain ⟨kv,kc,g1,g2,g3,g4⟩:=ih4 i kd tx nm ps ks e
     refine ⟨kv,kc,g1,g2,g3,fun j hj=>?_⟩
     rw [List.getElem?_append_right (by simp [fM];omega)]
     have:(i+1)*7+j-(fM kd0 tx0 nm0 ps0 kv0).length=i*7+j:=by simp [fM];omega
     rw [this]
     exact g4 j hj
theorem aO.kid {w:World} {kv:Value} {l:List Tree} (h:aO w kv l) (i:Nat) (kd:Int) (tx:List UInt8) (nm ps:Int) (ks:List Tree) (e:l[i]?=some (.mk kd tx nm ps ks)) :
 ∃ g cap ao2 cp2,kv=.slice (some ⟨g,0,none⟩) l.length cap∧l.length≤cap∧cap≤maxLen∧g<w.heap.size∧aO w (.slice ao2 ks.length cp2) ks∧∀ j,j<7→w.cell? ⟨g,i*7+j,none⟩=(fM kd tx nm ps (.slice ao2 ks.length cp2))[j]?:=by
 obtain ⟨cs,h1,h3⟩:=h
 have hi:i<l.length:=by
  apply Decidable.byContradiction
  intro hn
  rw [List.getElem?_eq_none om] at e
  cases e
 obtain ⟨kv2,kc,g1,g2,g3,g4⟩:=cells_at h3 i kd tx nm ps ks e
 have hform:∃ ao2 cp2,kv2=.slice ao2 ks.length cp2:=by
  rcases g1.2 with hx | ⟨g2,cap2,cur2,e2,_⟩
  ·exact ⟨none,0,by rw [hx.1,hx.2]⟩
  ·exact ⟨_,_,e2⟩
 obtain ⟨ao2,cp2,rfl⟩:=hform
 obtain ⟨hlen,hn | ⟨g,cap,cur,e1,hlo,hb,hle,hcap,hsz,htk⟩⟩:=h1
 ·exfalso;have:=hn.2;omega
 refine ⟨g,cap,ao2,cp2,e1,hle,hcap,bG hb,⟨kc,g1,yZ g3 _ (fun b hb=>⟨hb.1,rfl⟩)⟩,fun j hj=>?_⟩
 rw [zv hb,←g4 j hj,←htk,List.getElem?_take_of_lt om]
 simp
theorem aO.few {w:World} {kv:Value} {l:List Tree} (h:aO w kv l):l.length≤maxLen:=by
 obtain ⟨cs,h1,h3⟩:=h
 obtain ⟨hlen,hn | ⟨g,cap,cur,e1,hlo,hb,hle,hcap,hsz,htk⟩⟩:=h1
 ·have:=hn.2;omega
 ·omega
open Go.RowKit Lx Px
theorem kid_size {kd:Int} {tx:List UInt8} {nm ps:Int} {kids:List Tree} {i:Nat} {t:Tree} {n:Nat} (h:SizeOf.sizeOf (Px.Tree.mk kd tx nm ps kids)≤n+1) (e:kids[i]?=some t):SizeOf.sizeOf t≤n:=by
 have hm:t∈kids:=List.mem_of_getElem? e
 have:=List.sizeOf_lt_of_mem hm
 simp only [Px.Tree.mk.sizeOf_spec] at h
 omega
theorem same_w:∀ (n:Nat) (kd:Int) (tx:List UInt8) (nm ps:Int) (kids:List Tree),SizeOf.sizeOf (Px.Tree.mk kd tx nm ps kids)≤n→∀ (w:World) (ao ao':Option Addr) (cp cp':Nat),aO w (.slice ao kids.length cp) kids→aO w (.slice ao' kids.length cp') kids→
 Calls Tryz.prog 7 #[.agg #[.int .i64 kd,.string ⟨tx.toArray⟩,.int .i64 nm,.int .i64 ps,.string ⟨#[]⟩,.int .i64 0,.slice ao kids.length cp],.agg #[.int .i64 kd,.string ⟨tx.toArray⟩,.int .i64 nm,.int .i64 ps,.string ⟨#[]⟩,.int .i64 0,.slice ao' kids.length cp']] w fun e w'=>e=.returned (.bool true)∧w.grownBy w' none:=by
 intro n
 induction n with
 | zero=>intro kd tx nm ps kids h;exfalso;simp at h
 | succ n ih=>
   intro kd tx nm ps kids hsz w ao ao' cp cp' K1 K2
   have hfew:=K1.few
   unfold maxLen at hfew
   have HI:=zm ih
   have HS:=zm hsz
   have HK1:=zm K1
   have HK2:=zm K2
   clear ih hsz K1 K2
   go_enter Tryz.func7,Tryz.ntmps7
   go_wp2
   go_loopg [5] (kids.length+1) (fun g v5 wr=>∃ j:Nat,g=kids.length+1-j∧j≤kids.length∧v5=.int .i64 j∧w.grownBy wr none∧BL wr w.heap.size (.cells #[.int .i64 kd,.string ⟨tx.toArray⟩,.int .i64 nm,.int .i64 ps,.string ⟨#[]⟩,.int .i64 0,.slice ao kids.length cp] 25)∧BL wr (w.heap.size+1) (.cells #[.int .i64 kd,.string ⟨tx.toArray⟩,.int .i64 nm,.int .i64 ps,.string ⟨#[]⟩,.int .i64 0,.slice ao' kids.length cp'] 25))
   case atStart=>exact ⟨0,om,om,rfl,by (repeat (first | with_reducible assumption | with_reducible exact zo _ _ | with_reducible refine zz ?_ | with_reducible refine zr ?_ _)),by (repeat (first | with_reducible assumption | with_reducible refine BL.drew ?_ | (with_reducible refine BL.new ?_;(first | omega | (simp <;> omega))) | with_reducible refine BL.alloc ?_ _)),by (repeat (first | with_reducible assumption | with_reducible refine BL.drew ?_ | (with_reducible refine BL.new ?_;(first | omega | (simp <;> omega))) | with_reducible refine BL.alloc ?_ _))⟩
   case round=>
    obtain ⟨j,rfl,hj,rfl,hgr,b0,b1⟩:=hrel
    have zc0:=b0.cell
    have zc1:=b1.cell
    have hl1:=b1.lt
    by_cases hlt:j<kids.length
    ·have hltz:(j:Int)<kids.length:=om
     obtain ⟨kd2,tx2,nm2,ps2,ks2,ek⟩:∃ a b c d e,kids[j]?=some (Px.Tree.mk a b c d e):=by
      rw [List.getElem?_eq_getElem hlt];cases kids[j] with | mk a b c d e=>exact ⟨a,b,c,d,e,rfl⟩
     obtain ⟨g,cap,ao2,cp2,e1,q1,q2,q3,Q,qc⟩:=((zk HK1).grown hgr).kid j _ _ _ _ _ ek
     obtain ⟨g',cap',ao2',cp2',e1',q1',q2',q3',Q',qc'⟩:=((zk HK2).grown hgr).kid j _ _ _ _ _ ek
     have a0:=qc 0 om
     have a1:=qc 1 om
     have a2:=qc 2 om
     have a3:=qc 3 om
     have a4:=qc 4 om
     have a5:=qc 5 om
     have a6:=qc 6 om
     have c0:=qc' 0 om
     have c1:=qc' 1 om
     have c2:=qc' 2 om
     have c3:=qc' 3 om
     have c4:=qc' 4 om
     have c5:=qc' 5 om
     have c6:=qc' 6 om
     simp only [fM,List.getElem?_cons_zero,List.getElem?_cons_succ,Nat.add_zero] at a0 a1 a2 a3 a4 a5 a6 c0 c1 c2 c3 c4 c5 c6
     cases e1
     cases e1'
     clear qc qc'
     have Q0:=zm Q
     have Q1:=zm Q'
     have EK:=zm ek
     clear Q Q' ek
     have hgr0:=zo wr none
     have x0:wr.cell? ⟨w.heap.size,6,none⟩=some (.slice (some ⟨g,0,none⟩) kids.length cp):=zc0 6
     have x1:wr.cell? ⟨w.heap.size+1,6,none⟩=some (.slice (some ⟨g',0,none⟩) kids.length cp'):=zc1 6
     have hl0:=b0.lt
     go_wp2
     unfold maxLen at q2 q2'
     go_region_law (go_simp;go_at_call 7;refine (zk HI kd2 tx2 nm2 ps2 ks2 (kid_size (zk HS) (zk EK)) _ ao2 ao2' cp2 cp2' ((zk Q0).grown (by with_reducible repeat (first | assumption | exact zo _ _ | refine zz ?_))) ((zk Q1).grown (by with_reducible repeat (first | assumption | exact zo _ _ | refine zz ?_)))).mono ?_;rintro e w2 ⟨rfl,hg2⟩;have hw2:=zl (b:=_) (show wr.grownBy _ none by with_reducible repeat (first | assumption | exact zo _ _ | refine zz ?_)) hg2)
     all_goals
      have G2:=zl hgr hw2
      have d0:=BL.quiet b0 hw2
      have d1:=BL.quiet b1 hw2
      go_wp2
      go_roundg (kids.length+1-(j+1))
      case measure=>omega
      case rel=>exact ⟨j+1,rfl,om,by go_num,by (repeat (first | with_reducible assumption | with_reducible exact zo _ _ | with_reducible refine zz ?_ | with_reducible refine zr ?_ _)),by (repeat (first | with_reducible assumption | with_reducible refine BL.drew ?_)),by (repeat (first | with_reducible assumption | with_reducible refine BL.drew ?_))⟩
    ·have hltz:¬(j:Int)<kids.length:=om
     go_wp2
     exact bodyPost_ret (v:=.bool true) (by simp [results,Tryz.results7,go_sem]) rfl ⟨rfl,by (repeat (first | with_reducible assumption | with_reducible exact zo _ _ | with_reducible refine zz ?_ | with_reducible refine zr ?_ _))⟩
open Go.RowKit Lx Px
theorem Ag.quiet {lo hi:Nat} {a b c:World} (h:Ag lo hi a b) (k:b.grownBy c none) (hz:hi≤b.heap.size):Ag lo hi a c:=fun x h1 h2=>(k.block x om zK).trans (h x h1 h2)
def small:Px.Tree→Bool
 | .mk _ _ _ _ l=>decide (l.length≤1000000)&&(l.map small).all id
theorem small_mk {a:Int} {b:List UInt8} {c d:Int} {l:List Tree} (h:small (.mk a b c d l)=true):l.length≤1000000∧∀ t∈l,small t=true:=by
 rw [small] at h
 simp only [Bool.and_eq_true,decide_eq_true_eq,List.all_eq_true] at h
 exact ⟨h.1,fun t ht=>h.2 _ (List.mem_map.2 ⟨t,ht,rfl⟩)⟩
theorem take_one {l:List Tree} {j:Nat} {t:Tree} (h:l[j]?=some t):(l.take (j+1)).map er=(l.take j).map er++[er t]:=by
 have hj:j<l.length:=by
  apply Decidable.byContradiction
  intro hn
  rw [List.getElem?_eq_none om] at h
  cases h
 rw [List.getElem?_eq_getElem hj] at h
 cases h
 rw [List.take_succ_eq_append_getElem hj,List.map_append];rfl
theorem bare_w:∀ (n:Nat) (kd:Int) (tx:List UInt8) (nm ps:Int) (kids:List Tree),SizeOf.sizeOf (Px.Tree.mk kd tx nm ps kids)≤n→small (.mk kd tx nm ps kids)=true→∀ (w:World) (ao:Option Addr) (cp:Nat),aO w (.slice ao kids.length cp) kids→
 Calls Tryz.prog 8 #[.agg #[.int .i64 kd,.string ⟨tx.toArray⟩,.int .i64 nm,.int .i64 ps,.string ⟨#[]⟩,.int .i64 0,.slice ao kids.length cp]] w fun e w'=>w.grownBy w' none∧∃ ao2 cp2,e=.returned (.agg #[.int .i64 kd,.string ⟨tx.toArray⟩,.int .i64 nm,.int .i64 0,.string ⟨#[]⟩,.int .i64 0,.slice ao2 (kids.map er).length cp2])∧zq w' w.heap.size w'.heap.size (.slice ao2 (kids.map er).length cp2) (kids.map er):=by
 intro n
 induction n with
 | zero=>intro kd tx nm ps kids h;exfalso;simp at h
 | succ n ih=>
   intro kd tx nm ps kids hsz hsm w ao cp K1
   have hfew:=(small_mk hsm).1
   have HI:=zm ih
   have HS:=zm hsz
   have HM:=zm (small_mk hsm).2
   have HK1:=zm K1
   clear ih hsz K1 hsm
   go_enter Tryz.func8,Tryz.ntmps8
   go_wp2
   go_loopg [4] (kids.length+1) (fun g v4 wr=>∃ (j:Nat) (acc:List Tree) (ao0:Option Addr) (cp0:Nat),g=kids.length+1-j∧j≤kids.length∧v4=.int .i64 j∧acc=(kids.take j).map er∧acc.length=j∧w.grownBy wr none∧BL wr w.heap.size (.cells #[.int .i64 kd,.string ⟨tx.toArray⟩,.int .i64 nm,.int .i64 ps,.string ⟨#[]⟩,.int .i64 0,.slice ao kids.length cp] 25)∧BL wr (w.heap.size+1) yA∧BL wr (w.heap.size+2) (.cells #[.int .i64 kd,.string ⟨tx.toArray⟩,.int .i64 nm,.int .i64 0,.string ⟨#[]⟩,.int .i64 0,.slice ao0 acc.length cp0] 25)∧zq wr (w.heap.size+3) wr.heap.size (.slice ao0 acc.length cp0) acc)
   case atStart=>exact ⟨0,[],none,0,om,om,rfl,by simp,rfl,by (repeat (first | with_reducible assumption | with_reducible exact zo _ _ | with_reducible refine zz ?_ | with_reducible refine zr ?_ _ | (with_reducible refine yF ?_ _ zV))),by (repeat (first | with_reducible assumption | with_reducible refine BL.drew ?_ | (with_reducible refine BL.new ?_;(first | omega | (simp <;> omega))) | with_reducible refine BL.alloc ?_ _ | (with_reducible refine BL.set ?_ _ ?_;rotate_left;(first | omega | (simp <;> omega))))),by (repeat (first | with_reducible assumption | with_reducible refine BL.drew ?_ | (with_reducible refine BL.new ?_;(first | omega | (simp <;> omega))) | with_reducible refine BL.alloc ?_ _ | (with_reducible refine BL.set ?_ _ ?_;rotate_left;(first | omega | (simp <;> omega))))),(by simp only [List.length_nil];(repeat (first | with_reducible assumption | with_reducible refine BL.drew ?_ | (with_reducible refine BL.new ?_;(first | omega | (simp <;> omega))) | with_reducible refine BL.alloc ?_ _ | (with_reducible refine BL.set ?_ _ ?_;rotate_left;(first | omega | (simp <;> omega)))))),zq.nil _ _ _⟩
   case round=>
    obtain ⟨j,acc,ao0,cp0,rfl,hj,rfl,hacc,hal,hgr,b0,b1,b2,row0⟩:=hrel
    have HAL:=zm hal
    have hal2:acc.length≤kids.length:=om
    have HACC:=zm hacc
    clear hal hacc
    have zc0:=b0.cell
    have zc2:=b2.cell
    have zc1:=b1.cell
    have fz1:=b1.frozen
    have fz2:=b2.frozen
    have hl2:=b2.lt
    by_cases hlt:j<kids.length
    ·have hltz:(j:Int)<kids.length:=om
     obtain ⟨kd2,tx2,nm2,ps2,ks2,ek⟩:∃ a b c d e,kids[j]?=some (Px.Tree.mk a b c d e):=by
      rw [List.getElem?_eq_getElem hlt];cases kids[j] with | mk a b c d e=>exact ⟨a,b,c,d,e,rfl⟩
     obtain ⟨g,cap,ao2,cp2,e1,q1,q2,q3,Q,qc⟩:=((zk HK1).grown hgr).kid j _ _ _ _ _ ek
     have a0:=qc 0 om
     have a1:=qc 1 om
     have a2:=qc 2 om
     have a3:=qc 3 om
     have a4:=qc 4 om
     have a5:=qc 5 om
     have a6:=qc 6 om
     simp only [fM,List.getElem?_cons_zero,List.getElem?_cons_succ,Nat.add_zero] at a0 a1 a2 a3 a4 a5 a6
     cases e1
     clear qc
     have Q0:=zm Q
     have EK:=zm ek
     have hsm2:=zk HM _ (List.mem_of_getElem? ek)
     obtain ⟨kb,hkb⟩:∃ kb,kb=ks2.map er:=⟨_,rfl⟩
     have HC:Hid (∀ X,aO X (.slice ao2 ks2.length cp2) ks2→Calls Tryz.prog 8 #[.agg #[.int .i64 kd2,.string ⟨tx2.toArray⟩,.int .i64 nm2,.int .i64 ps2,.string ⟨#[]⟩,.int .i64 0,.slice ao2 ks2.length cp2]] X fun e w'=>X.grownBy w' none∧∃ ao3 cp3,e=.returned (.agg #[.int .i64 kd2,.string ⟨tx2.toArray⟩,.int .i64 nm2,.int .i64 0,.string ⟨#[]⟩,.int .i64 0,.slice ao3 kb.length cp3])∧zq w' X.heap.size w'.heap.size (.slice ao3 kb.length cp3) kb):=by
      subst hkb
      exact fun X K=>zk HI kd2 tx2 nm2 ps2 ks2 (kid_size (zk HS) ek) hsm2 X ao2 cp2 K
     have HKB:=zm hkb
     clear Q ek hsm2 hkb
     unfold maxLen at q2
     go_wp2
     go_region_law (first | (refine iK rfl (.tmp 20) (.tmp 27) rfl (lo:=w.heap.size+3) (hi:=wr.heap.size) (ao:=ao0) (cp:=cp0) (l:=acc) (t:=.mk kd2 tx2 nm2 0 kb) (A:=lo2) (B:=w2.heap.size) (g0:=w2.heap.size) (cur:=#[.int .i64 kd2,.string ⟨tx2.toArray⟩,.int .i64 nm2,.int .i64 0,.string ⟨#[]⟩,.int .i64 0,.slice ao3 kb.length cp3]) zH (zq.ag row0 (yQ zu om) lr lr) zH (yN om) ((Nd.mk (kd:=kd2) (tx:=tx2) (nm:=nm2) (ps:=0) row2).ag (yQ zu sq)) rfl iO om sq sq om sq om ?_;intro g3 cp4 w3 hrw3 hgA hat3 hgl3;have hob:=row0.own;have hz3:=hgA.size;(try simp at hz3);(try simp at hat3);have G3:w.grownBy w3 none:=yP (yD wg) hgA (fun x hx=>by have:=hob x hx;omega);have bl0_3:=BL.own (yS bl0_2) hgA (fun e=>by have:=hob _ e.symm;omega);have bl1_3:=BL.own (yS bl1_2) hgA (fun e=>by have:=hob _ e.symm;omega);have bl2_3:=BL.own (yS bl2_2) hgA (fun e=>by have:=hob _ e.symm;omega);have zc2_3:=bl2_3.cell;have fz2_3:=bl2_3.frozen;have hl2_3:=bl2_3.lt) | (go_simp;go_at_call 8;(refine (zk HC _ ((zk Q0).grown (by (repeat (first | with_reducible assumption | with_reducible exact zo _ _ | with_reducible refine zz ?_ | with_reducible refine zr ?_ _ | (with_reducible refine yF ?_ _ zV)))))).mono ?_;rintro e w2 ⟨hg,ao3,cp3,rfl,hrow⟩;have hz2:=hg.size;(try simp at hz2);have G2:w.grownBy w2 none:=zl (by (repeat (first | with_reducible assumption | with_reducible exact zo _ _ | with_reducible refine zz ?_ | with_reducible refine zr ?_ _ | (with_reducible refine yF ?_ _ zV)))) hg;replace row0:=zq.ag row0 (Ag.quiet (by (repeat (first | with_reducible exact Ag.refl _ _ _ | with_reducible refine Ag.drew ?_))) hg oz) lr lr;have bl0_2:=BL.quiet (show BL _ w.heap.size (.cells #[.int .i64 kd,.string ⟨tx.toArray⟩,.int .i64 nm,.int .i64 ps,.string ⟨#[]⟩,.int .i64 0,.slice (some ⟨g,0,none⟩) kids.length cp] 25) by (repeat (first | with_reducible assumption | with_reducible refine BL.drew ?_ | (with_reducible refine BL.new ?_;(first | omega | (simp <;> omega))) | with_reducible refine BL.alloc ?_ _ | (with_reducible refine BL.set ?_ _ ?_;rotate_left;(first | omega | (simp <;> omega)))))) hg;have bl1_2:=BL.quiet (show BL _ (w.heap.size+1) yA by (repeat (first | with_reducible assumption | with_reducible refine BL.drew ?_ | (with_reducible refine BL.new ?_;(first | omega | (simp <;> omega))) | with_reducible refine BL.alloc ?_ _ | (with_reducible refine BL.set ?_ _ ?_;rotate_left;(first | omega | (simp <;> omega)))))) hg;have bl2_2:=BL.quiet (show BL _ (w.heap.size+2) (.cells #[.int .i64 kd,.string ⟨tx.toArray⟩,.int .i64 nm,.int .i64 0,.string ⟨#[]⟩,.int .i64 0,.slice ao0 acc.length cp0] 25) by (repeat (first | with_reducible assumption | with_reducible refine BL.drew ?_ | (with_reducible refine BL.new ?_;(first | omega | (simp <;> omega))) | with_reducible refine BL.alloc ?_ _ | (with_reducible refine BL.set ?_ _ ?_;rotate_left;(first | omega | (simp <;> omega)))))) hg;have zc2_2:=bl2_2.cell;have fz2_2:=bl2_2.frozen;have hl2_2:=bl2_2.lt;obtain ⟨lo2,hlo2,row2⟩:=hrow.named;(try simp at hlo2))))
     all_goals
      have hlen:(acc++[(.mk kd2 tx2 nm2 0 kb:Px.Tree)]).length=acc.length+1:=by simp
      have rowz:zq (w3.setCell ⟨w.heap.size+2,6,none⟩ (.slice (some ⟨g3,0,none⟩) (acc.length+1) cp4)) (w.heap.size+3) w3.heap.size (.slice (some ⟨g3,0,none⟩) (acc.length+1) cp4) (acc++[(.mk kd2 tx2 nm2 0 kb:Px.Tree)]):=zq.wide (hrw3 _ zK (Ag.one (aw3 zu sq)) (aw3 zu sq) (aw3 zu sq)) lr zK
      have hx1:acc++[(.mk kd2 tx2 nm2 0 kb:Px.Tree)]=(kids.take (j+1)).map er:=by rw [take_one (zk EK),iZ,←zk HKB,←zk HACC]
      have hx2:(acc++[(.mk kd2 tx2 nm2 0 kb:Px.Tree)]).length=j+1:=by rw [hlen,zk HAL]
      have H1:=zm hx1
      have H2:=zm hx2
      clear hx1 hx2
      go_wp2
      go_roundg (kids.length+1-(j+1))
      case measure=>omega
      case rel=>
       refine ⟨j+1,acc++[(.mk kd2 tx2 nm2 0 kb:Px.Tree)],some ⟨g3,0,none⟩,cp4,rfl,om,by go_num,zk H1,zk H2,by (repeat (first | with_reducible assumption | with_reducible exact zo _ _ | with_reducible refine zz ?_ | with_reducible refine zr ?_ _ | (with_reducible refine yF ?_ _ zV))),by (repeat (first | with_reducible assumption | with_reducible refine BL.drew ?_ | (with_reducible refine BL.new ?_;(first | omega | (simp <;> omega))) | with_reducible refine BL.alloc ?_ _ | (with_reducible refine BL.set ?_ _ ?_;rotate_left;(first | omega | (simp <;> omega))))),by (repeat (first | with_reducible assumption | with_reducible refine BL.drew ?_ | (with_reducible refine BL.new ?_;(first | omega | (simp <;> omega))) | with_reducible refine BL.alloc ?_ _ | (with_reducible refine BL.set ?_ _ ?_;rotate_left;(first | omega | (simp <;> omega))))), ?_, ?_⟩
       ·rw [hlen]
        apply BL.mF bl2_3;rfl
       ·rw [hlen]
        exact zq.wide rowz lr zK
    ·have hltz:¬(j:Int)<kids.length:=om
     have hjn:j=kids.length:=om
     have hfin:=zm (show acc=kids.map er by rw [zk HACC,hjn,List.take_length])
     have hle:=zm (show kids.length=acc.length by rw [zk HAL];exact hjn.symm)
     go_wp2
     refine bodyPost_ret (v:=.agg #[.int .i64 kd,.string ⟨tx.toArray⟩,.int .i64 nm,.int .i64 0,.string ⟨#[]⟩,.int .i64 0,.slice ao0 acc.length cp0]) (by simp [results,Tryz.results8,go_sem, *]) rfl ⟨by (repeat (first | with_reducible assumption | with_reducible exact zo _ _ | with_reducible refine zz ?_ | with_reducible refine zr ?_ _ | (with_reducible refine yF ?_ _ zV))),ao0,cp0,by rw [zk hle], ?_⟩
     rw [←zk hfin,zk hle]
     exact zq.ag row0 (by (repeat (first | with_reducible exact Ag.refl _ _ _ | with_reducible refine Ag.drew ?_ | with_reducible refine Ag.alloc ?_ _ zI | with_reducible refine Ag.set ?_ _ (by first | (left;simp <;> omega) | (left;omega))))) om zK
def Good (l:List UInt8) (kids:List Tree):Prop:=(aY l).2.1=0∧∃ s k',sD (aY l).1=.ok [nd 1 [] 0 kids] s k'
end Go.Proofs.YtgbjpnnockoomaaGreatDoor.Jj
namespace Go.Proofs.YtgbjpnnockoomaaGreatDoor.Px
open Lx
theorem er_kind (t:Tree):(er t).kind=t.kind:=by cases t;rw [iZ];rfl
theorem er_text (t:Tree):(er t).text=t.text:=by cases t;rw [iZ];rfl
theorem er_num (t:Tree):(er t).num=t.num:=by cases t;rw [iZ];rfl
theorem er_kids (t:Tree):(er t).kids=t.kids.map er:=by cases t;rw [iZ];rfl
theorem er_zero:er dZ=dZ:=by rw [dZ,iZ];rfl
theorem er_part (t:Tree) (i:Nat):yM (er t) i=er (yM t i):=by
 unfold yM
 rw [er_kids,List.getD_eq_getElem?_getD,List.getD_eq_getElem?_getD,List.getElem?_map]
 cases t.kids[i]? with
 | none=>exact er_zero.symm
 | some x=>rfl
theorem unlT_er {a:List UInt8} {f:Tree→List UInt8} (h:∀ t,f (er t)=f t) (t:Tree):gX a f (er t)=gX a f t:=by
 unfold gX;rw [er_kind,h]
theorem lines_er {f:Tree→List UInt8} (h:∀ t,f (er t)=f t) (d:Nat) (l:List Tree):linesT f d (l.map er)=linesT f d l:=by
 unfold linesT;rw [List.flatMap_map];simp only [h]
theorem prS_er (digits:Int→List UInt8) (rec:PrJ→Nat→Tree→List UInt8) (h:∀ j d t,rec j d (er t)=rec j d t) (j:PrJ) (d:Nat) (t:Tree):ym digits rec j d (er t)=ym digits rec j d t:=by
 have hm:∀ (j:PrJ) (d:Nat) (l:List Tree),(l.map er).map (rec j d)=l.map (rec j d):=fun j d l=>by rw [List.map_map];exact List.map_congr_left fun x _=>h j d x
 have hf:∀ (j:PrJ) (d:Nat) (l:List Tree),(l.map er).flatMap (rec j d)=l.flatMap (rec j d):=fun j d l=>by rw [List.flatMap_map];simp only [h]
 have hg:∀ (j:PrJ) (d:Nat) (l:List Tree),((l.map er).flatMap fun k=>rec j d k++[10])=l.flatMap fun k=>rec j d k++[10]:=fun j d l=>by rw [List.flatMap_map];simp only [h]
 cases j <;> simp only [ym,er_kind,er_text,er_num,er_kids,er_part,List.length_map,←List.map_drop,←List.map_take,hm,hf,hg,h,unlT_er (h _ _),lines_er (h _ _)]
theorem pr_er (digits:Int→List UInt8):∀ (n:Nat) (j:PrJ) (d:Nat) (t:Tree),pr digits n j d (er t)=pr digits n j d t
 | 0,_,_,_=>rfl
 | n+1,j,d,t=>prS_er digits (pr digits n) (pr_er digits n) j d t
end Go.Proofs.YtgbjpnnockoomaaGreatDoor.Px
