import Derived.Test.YtgbjpnnockoomaaGreatDoorPb2
import Derived.Laws.Small
import Derived.Deep.LoopGhost
set_option linter.unusedVariables false
set_option linter.unusedSimpArgs false
set_option maxHeartbeats 1000000
set_option maxRecDepth 100000
set_option maxHeartbeats 2000000
namespace Go.Proofs.YtgbjpnnockoomaaGreatDoor.Pp
open Go.RowKit Lx Px
theorem grown_a2 (w:World) (o o':Obj):w.grownBy ((w.alloc o).alloc o') none:=zr (zr (zo _ _) _) _
theorem part_in (W0 w:World) (hB:W0.grownBy w none) (kd:Int) (tx:List UInt8) (nm ps:Int) (kids:List Tree) (ao:Option Addr) (cp i:Nat) (hk:Jj.aO W0 (.slice ao kids.length cp) kids) (hi:i<kids.length) :
 Calls Tryz.prog 61 #[nA kd tx nm ps ao kids.length cp,.int .i64 (i:Int)] w fun e w'=>(∃ v,e=.returned v∧sN W0 (kids.getD i dZ) v)∧w.grownBy w' none:=by
 have hfew:=hk.few
 unfold maxLen at hfew
 obtain ⟨kd2,tx2,nm2,ps2,ks2,ek⟩:∃ a b c d e,kids[i]?=some (Px.Tree.mk a b c d e):=by
  rw [List.getElem?_eq_getElem hi];cases kids[i] with | mk a b c d e=>exact ⟨a,b,c,d,e,rfl⟩
 obtain ⟨g,cap,ao2,cp2,e1,q1,q2,q3,Q,qc⟩:=hk.kid i _ _ _ _ _ ek
 simp only [Value.slice.injEq] at e1
 obtain ⟨rfl,_,rfl⟩:=e1
 unfold maxLen at q2
 have hz:=hB.size
 have hcell:∀ (X:World) (j:Nat),w.grownBy X none→j<7→X.cell? ⟨g,i*7+j,none⟩=(fM kd2 tx2 nm2 ps2 (.slice ao2 ks2.length cp2))[j]?:=fun X j hX hj=>by
  rw [World.cell?_of_block (w:=w) (a:=⟨g,i*7+j,none⟩) (hX.block g om zK),World.cell?_of_block (w:=W0) (a:=⟨g,i*7+j,none⟩) (hB.block g q3 zK)]
  exact qc j hj
 have HQ:=zm Q
 have HC:=zm hcell
 have hg:kids.getD i dZ=.mk kd2 tx2 nm2 ps2 ks2:=by rw [List.getD_eq_getElem?_getD,ek];rfl
 rw [hg]
 have h0:¬(i:Int)<0:=om
 have h1:¬(kids.length:Int)≤(i:Int):=om
 have hiz:(i:Int)<(kids.length:Int):=om
 have gq:=grown_a2 w (nO kd tx nm ps (some ⟨g,0,none⟩) kids.length cp) (.cells #[.int .i64 0,.string ⟨#[]⟩,.int .i64 0,.int .i64 0,.string ⟨#[]⟩,.int .i64 0,.slice none 0 0] 25)
 have a0:=hcell _ 0 gq om
 have a1:=hcell _ 1 gq om
 have a2:=hcell _ 2 gq om
 have a3:=hcell _ 3 gq om
 have a4:=hcell _ 4 gq om
 have a5:=hcell _ 5 gq om
 have a6:=hcell _ 6 gq om
 simp only [fM,List.getElem?_cons_zero,List.getElem?_cons_succ,Nat.add_zero,nO] at a0 a1 a2 a3 a4 a5 a6
 clear hk hB qc Q hcell hg ek gq
 go_enter Tryz.func61,Tryz.ntmps61
 go_wp2
 refine bodyPost_ret (v:=nA kd2 tx2 nm2 ps2 ao2 ks2.length cp2) (by simp [results,Tryz.results61,go_sem, *]) rfl ⟨⟨_,rfl, ?_⟩, ?_⟩
 ·exact ⟨_,_,_,_,_,_,_,rfl,rfl,zk HQ⟩
 ·repeat (first | exact zo _ _ | refine zz ?_ | refine zr ?_ _ | refine yF ?_ _ zV)
theorem part_out (W0 w:World) (kd:Int) (tx:List UInt8) (nm ps:Int) (n:Nat) (ao:Option Addr) (cp:Nat) (i:Int) (hi:i<0∨(n:Int)≤i) :
 Calls Tryz.prog 61 #[nA kd tx nm ps ao n cp,.int .i64 i] w fun e w'=>(∃ v,e=.returned v∧sN W0 dZ v)∧w.grownBy w' none:=by
 have fin:sN W0 dZ (nA 0 [] 0 0 none 0 0):=⟨0,[],0,0,[],none,0,rfl,rfl,kids_nil W0⟩
 have HF:=zm fin
 clear fin
 by_cases h0:i<0
 ·clear hi
  go_enter Tryz.func61,Tryz.ntmps61
  go_wp2
  refine bodyPost_ret (v:=nA 0 [] 0 0 none 0 0) (by simp [results,Tryz.results61,go_sem, *]) rfl ⟨⟨_,rfl,zk HF⟩, ?_⟩
  repeat (first | exact zo _ _ | refine zz ?_ | refine zr ?_ _ | refine yF ?_ _ zV)
 ·have h1:(n:Int)≤i:=om
  clear hi
  go_enter Tryz.func61,Tryz.ntmps61
  go_wp2
  refine bodyPost_ret (v:=nA 0 [] 0 0 none 0 0) (by simp [results,Tryz.results61,go_sem, *]) rfl ⟨⟨_,rfl,zk HF⟩, ?_⟩
  repeat (first | exact zo _ _ | refine zz ?_ | refine zr ?_ _ | refine yF ?_ _ zV)
theorem lM (W0 w:World) (hB:W0.grownBy w none) (kd:Int) (tx:List UInt8) (nm ps:Int) (kids:List Tree) (ao:Option Addr) (cp i:Nat) (hk:Jj.aO W0 (.slice ao kids.length cp) kids) :
 Calls Tryz.prog 61 #[nA kd tx nm ps ao kids.length cp,.int .i64 (i:Int)] w fun e w'=>(∃ v,e=.returned v∧sN W0 (kids.getD i dZ) v)∧w.grownBy w' none:=by
 by_cases hi:i<kids.length
 ·exact part_in W0 w hB kd tx nm ps kids ao cp i hk hi
 ·have:=part_out W0 w kd tx nm ps kids.length ao cp i (.inr om)
  rw [List.getD_eq_getElem?_getD,List.getElem?_eq_none om]
  exact this
theorem qE (w:World) (kd:Int) (tx:List UInt8) (nm ps:Int) (n:Nat) (ao:Option Addr) (cp:Nat) :
 Calls Tryz.prog 85 #[nA kd tx nm ps ao n cp] w fun e w'=>e=.returned (.bool (kd==8))∧w.grownBy w' none:=by
 go_enter Tryz.func85,Tryz.ntmps85
 go_wp2
 go_ret
 exact ⟨rfl,zr (zo _ _) _⟩
theorem last_any (W0 w:World) (hB:W0.grownBy w none) (kd:Int) (tx:List UInt8) (nm ps:Int) (kids:List Tree) (ao:Option Addr) (cp:Nat) (hk:Jj.aO W0 (.slice ao kids.length cp) kids) :
 Calls Tryz.prog 83 #[nA kd tx nm ps ao kids.length cp] w fun e w'=>(∃ v,e=.returned v∧sN W0 (kids.getD (kids.length-1) dZ) v)∧w.grownBy w' none:=by
 have hfew:=hk.few
 unfold maxLen at hfew
 have HP:Hid (∀ X,w.grownBy X none→Calls Tryz.prog 61 #[nA kd tx nm ps ao kids.length cp,.int .i64 ((kids.length:Int)-1)] X fun e w'=>(∃ v,e=.returned v∧sN W0 (kids.getD (kids.length-1) dZ) v)∧X.grownBy w' none):=zm fun X hX=>by
  by_cases h0:kids.length=0
  ·have:=part_out W0 X kd tx nm ps kids.length ao cp ((kids.length:Int)-1) (.inl om)
   rw [List.getD_eq_getElem?_getD,List.getElem?_eq_none om]
   exact this
  ·have:=lM W0 X (zl hB hX) kd tx nm ps kids ao cp (kids.length-1) hk
   rwa [show ((kids.length-1:Nat):Int)=(kids.length:Int)-1 by omega] at this
 obtain ⟨T,hT⟩:∃ T,T=kids.getD (kids.length-1) dZ:=⟨_,rfl⟩
 rw [←hT] at HP ⊢
 clear hk hB hT
 go_enter Tryz.func83,Tryz.ntmps83
 go_wp2_with fail
 with_reducible refine (zk HP _ (by with_reducible repeat (first | exact zo _ _ | refine zr ?_ _))).mono ?_
 rintro e w2 ⟨⟨v,rfl,kd2,tx2,nm2,ps2,ks2,ao2,cp2,rfl,h3,h4⟩,hg⟩
 have HV:=zm h3
 have HV4:=zm h4
 have bl:BL w2 (w.heap.size+1) (.cells #[.int .i64 0,.string ⟨#[]⟩,.int .i64 0,.int .i64 0,.string ⟨#[]⟩,.int .i64 0,.slice none 0 0] 25):=(hg.block (w.heap.size+1) zK zK).trans (yW _ _ zK)
 have zc:=bl.cell
 have fz:=bl.frozen
 have HG:=zm hg
 clear h3 h4 hg
 go_wp2
 refine bodyPost_ret (v:=nA kd2 tx2 nm2 ps2 ao2 ks2.length cp2) (by simp [results,Tryz.results83,go_sem, *]) rfl ⟨⟨_,rfl,_,_,_,_,_,_,_,rfl,zk HV,zk HV4⟩, ?_⟩
 have:=zl (grown_a2 w _ _) (zk HG)
 with_reducible repeat (first | exact this | refine zz ?_ | refine zr ?_ _ | refine yF ?_ _ zV)
theorem o8 (N b:Nat) (l:List UInt8) (d:Int) (w:World) (h:PB N b d (Lib.byteCells l) w) (hl:l.length+1≤1099511627776) (hN:N≤w.heap.size) :
 Calls Tryz.prog 22 #[.pointer (some ⟨b,0,none⟩)] w fun e w'=>e=.returned (.tuple #[])∧Wr N b l [63] d w w':=by
 have H:=zm (wb N b l 63 d w h hl hN)
 clear h
 go_enter Tryz.func22,Tryz.ntmps22
 go_wp2_with (go_at_call 24;refine (zk H).mono ?_;rintro e w2 ⟨⟨v,rfl⟩,h2⟩;have H2:=zm h2;clear h2)
 go_end0
 exact ⟨rfl,zk H2⟩
open Go.RowKit Lx Px
def KC (W0:World) (a:Option Addr) (l:List Tree):Prop:=∀ (j:Nat) (kd:Int) (tx:List UInt8) (nm ps:Int) (ks:List Tree),l[j]?=some (.mk kd tx nm ps ks)→∃ b off ao2 cp2,a=some ⟨b,off,none⟩∧b<W0.heap.size∧Jj.aO W0 (.slice ao2 ks.length cp2) ks∧∀ i,i<7→W0.cell? ⟨b,off+(j*7+i),none⟩=(fM kd tx nm ps (.slice ao2 ks.length cp2))[i]?
theorem KC.of {W0:World} {ao:Option Addr} {cp:Nat} {kids:List Tree} (h:Jj.aO W0 (.slice ao kids.length cp) kids):KC W0 ao kids:=by
 intro j kd tx nm ps ks e
 obtain ⟨g,cap,ao2,cp2,e1,_,_,q3,Q,qc⟩:=h.kid j _ _ _ _ _ e
 simp only [Value.slice.injEq] at e1
 refine ⟨g,0,ao2,cp2,e1.1,q3,Q,fun i hi=>?_⟩
 rw [Nat.zero_add]
 exact qc i hi
theorem KC.take {W0:World} {ao:Option Addr} {l:List Tree} (h:KC W0 ao l) (m:Nat):KC W0 ao (l.take m):=by
 intro j kd tx nm ps ks e
 rw [List.getElem?_take] at e
 split at e
 ·exact h j _ _ _ _ _ e
 ·cases e
theorem KC.drop {W0:World} {ao:Option Addr} {l:List Tree} (h:KC W0 ao l) (m:Nat):KC W0 (ao.map fun x=>x.add (m*7)) (l.drop m):=by
 intro j kd tx nm ps ks e
 rw [List.getElem?_drop] at e
 obtain ⟨b,off,ao2,cp2,rfl,q3,Q,qc⟩:=h (m+j) _ _ _ _ _ e
 refine ⟨b,off+m*7,ao2,cp2,by simp [Go.WideShapes.add_plain],q3,Q,fun i hi=>?_⟩
 have:=qc i hi
 rwa [show off+((m+j)*7+i)=off+m*7+(j*7+i) by omega] at this
theorem KC.nil (W0:World) (a:Option Addr):KC W0 a []:=fun j kd tx nm ps ks e=>by simp at e
theorem until_any (W0 w:World) (kd:Int) (tx:List UInt8) (nm ps:Int) (kids:List Tree) (ao:Option Addr) (cp:Nat) (hk:Jj.aO W0 (.slice ao kids.length cp) kids) (hcp:kids.length≤cp) :
 Calls Tryz.prog 82 #[nA kd tx nm ps ao kids.length cp] w fun e w'=>(∃ a c,e=.returned (.slice a (kids.take (kids.length-1)).length c)∧KC W0 a (kids.take (kids.length-1))∧(kids.take (kids.length-1)).length≤maxLen)∧w.grownBy w' none:=by
 have hfew:=hk.few
 have hl:(kids.take (kids.length-1)).length=kids.length-1:=by rw [List.length_take];omega
 rw [hl]
 have HK:=zm ((KC.of hk).take (kids.length-1))
 obtain ⟨K,hK⟩:∃ K,K=kids.take (kids.length-1):=⟨_,rfl⟩
 rw [←hK] at HK ⊢
 have hfew2:kids.length-1≤maxLen:=om
 have HF:=zm hfew2
 unfold maxLen at hfew
 have hm:max ((kids.length:Int)-1) 0=((kids.length-1:Nat):Int):=om
 have hL:kids.length-1≤kids.length:=om
 generalize hLe:kids.length-1=L at hm hL HF ⊢
 clear hLe hk hK hl hfew2
 go_enter Tryz.func82,Tryz.ntmps82
 go_wp2
 go_ret
 exact ⟨⟨_,_,rfl,zk HK,zk HF⟩,zr (zo _ _) _⟩
theorem from_any (W0 w:World) (kd:Int) (tx:List UInt8) (nm ps:Int) (kids:List Tree) (ao:Option Addr) (cp:Nat) (hk:Jj.aO W0 (.slice ao kids.length cp) kids) (hcp:kids.length≤cp) :
 Calls Tryz.prog 105 #[nA kd tx nm ps ao kids.length cp,.int .i64 1] w fun e w'=>(∃ a c,e=.returned (.slice a (kids.drop 1).length c)∧KC W0 a (kids.drop 1)∧(kids.drop 1).length≤maxLen)∧w.grownBy w' none:=by
 have hfew:=hk.few
 have hl:(kids.drop 1).length=kids.length-1:=by rw [List.length_drop]
 rw [hl]
 obtain ⟨K,hK⟩:∃ K,K=kids.drop 1:=⟨_,rfl⟩
 have hfew2:kids.length-1≤maxLen:=om
 have HF:=zm hfew2
 unfold maxLen at hfew
 by_cases h0:kids.length=0
 ·have HK:Hid (∀ a,KC W0 a K):=zm fun a=>by rw [hK,List.drop_eq_nil_of_le om];exact KC.nil W0 a
  rw [←hK]
  rw [h0] at HF ⊢
  have hm:min (1:Int) 0=0:=om
  clear hk hK hl hfew2 hfew
  go_enter Tryz.func105,Tryz.ntmps105
  go_wp2
  go_ret
  exact ⟨⟨_,_,rfl,zk HK _,zk HF⟩,zr (zo _ _) _⟩
 ·have hm:min (1:Int) (kids.length:Int)=1:=om
  have h1:(1:Int)≤(kids.length:Int):=om
  by_cases hc:cp=1
  ·have HK:Hid (∀ a,KC W0 a K):=zm fun a=>by rw [hK,List.drop_eq_nil_of_le om];exact KC.nil W0 a
   rw [←hK]
   have hk1:kids.length=1:=om
   clear hk hK hl hfew2
   subst hc
   rw [hk1] at HF hm ⊢
   clear hk1 h0 hcp hfew h1
   go_enter Tryz.func105,Tryz.ntmps105
   go_wp2
   go_ret
   exact ⟨⟨_,_,rfl,zk HK _,zk HF⟩,zr (zo _ _) _⟩
  ·have HK:Hid (KC W0 (ao.map fun x=>⟨x.block,x.off+7,none⟩) K):=zm (by
    rw [hK]
    have h3:=(KC.of hk).drop 1
    intro j kd tx nm ps ks e
    obtain ⟨b,off,ao2,cp2,e1,r⟩:=h3 j _ _ _ _ _ e
    refine ⟨b,off,ao2,cp2, ?_,r⟩
    cases ao with
    | none=>simp at e1
    | some x=>
      obtain ⟨xb,xo,xs⟩:=x
      cases xs <;> simp [Addr.add] at e1 ⊢ <;> exact e1)
   rw [←hK]
   clear hk hK hl hfew2
   go_enter Tryz.func105,Tryz.ntmps105
   go_wp2
   go_ret
   exact ⟨⟨_,_,rfl,zk HK,zk HF⟩,zr (zo _ _) _⟩
theorem rf (N b:Nat) (l:List UInt8) (d:Nat) (w:World) (h:PB N b d (Lib.byteCells l) w) (hl:l.length+d≤1099511627776) (hN:N≤w.heap.size) :
 Calls Tryz.prog 59 #[.pointer (some ⟨b,0,none⟩)] w fun e w'=>e=.returned (.tuple #[])∧Wr N b l (bV d) d w w':=by
 have c2:=h.cell2
 have HB:=zm h
 clear h
 go_enter Tryz.func59,Tryz.ntmps59
 go_wp2
 go_loopw [6] (fun i wr=>∃ (j:Nat),j≤d∧i=.int .i64 j∧Hid (Wr N b l (bV j) d w wr)) (fun i _=>d-(intOf i).toNat)
 case atStart=>exact ⟨0,Nat.zero_le _,rfl,zm (Wr.nil (zk HB) (Below.refl _ _) (Lib.OthersKept.refl _ _ _))⟩
 case round=>
  obtain ⟨j,hj,rfl,hW⟩:=hrel
  by_cases hlt:j<d
  ·have hji:(j:Int)<(d:Int):=om
   have H:=zm (wb N b (l++bV j) 9 d wr (zk hW).1 (by simp [bV];omega) (by have:=(zk hW).size;omega))
   go_wp2_with fail
   refine (zk H).mono ?_
   rintro e w2 ⟨⟨v,rfl⟩,h2⟩
   have H2:=zm ((zk hW).trans h2)
   clear h2
   go_wp2
   go_roundw
   case rel=>exact ⟨j+1,om,by go_num,zm (by have:=zk H2;rwa [show bV j++[9]=bV (j+1) by simp [bV,List.replicate_succ']] at this)⟩
   case measure=>simp [intOf];omega
  ·obtain rfl:j=d:=om
   have hji:¬(j:Int)<(j:Int):=om
   go_wp2
   go_end0
   exact ⟨rfl,zk hW⟩
open Go.RowKit Lx Px
abbrev FV (F b:Nat):Value:=.func (.func F) #[.pointer (some ⟨b,0,none⟩)] #[]
abbrev Ent (F:Nat):Prop:=∀ args w,(callFunc F args).run Tryz.prog w=.ok (.enter F args) w
def IW (W0:World) (N b F:Nat) (f:Tree→List UInt8) (d:Nat) (l:List Tree):Prop:=∀ (kd:Int) (tx:List UInt8) (nm ps:Int) (ks:List Tree) (ao:Option Addr) (cp:Nat) (bs:List UInt8) (w:World),Tree.mk kd tx nm ps ks∈l→Jj.aO W0 (.slice ao ks.length cp) ks→Below N W0 w→PB N b d (Lib.byteCells bs) w→bs.length+(f (.mk kd tx nm ps ks)).length≤1099511627776→
 Calls Tryz.prog F #[.pointer (some ⟨b,0,none⟩),nA kd tx nm ps ao ks.length cp] w fun e w'=>e=.returned (.tuple #[])∧Wr N b bs (f (.mk kd tx nm ps ks)) d w w'
theorem uf (xs:List (List UInt8)) (y:List UInt8):eY (xs++[y])=if xs=[] then y else eY xs++[44,32]++y:=by
 cases xs with
 | nil=>simp [eY]
 | cons x r=>simp [eY]
theorem sepJ_le (xs ys:List (List UInt8)):(eY xs).length≤(eY (xs++ys)).length:=by
 cases xs with
 | nil=>simp [eY]
 | cons x r=>simp only [eY,List.cons_append,List.flatMap_append,List.length_append];omega
theorem sF {f:Tree→List UInt8} {l:List Tree} {j:Nat} {t:Tree} (h:l[j]?=some t):(l.take (j+1)).map f=(l.take j).map f++[f t]:=by
 rw [List.take_add_one,h];simp
theorem take_le {f:Tree→List UInt8} (l:List Tree) (j:Nat):(eY ((l.take j).map f)).length≤(eY (l.map f)).length:=by
 have:=sepJ_le ((l.take j).map f) ((l.drop j).map f)
 rwa [←List.map_append,List.take_append_drop] at this
theorem qG (W0:World) (N b F:Nat) (hN:N=W0.heap.size) (f:Tree→List UInt8) (d:Nat) (l:List Tree) (a:Option Addr) (c:Nat) (bs:List UInt8) (w:World) (hF:Ent F) (hI:IW W0 N b F f d l) (hk:KC W0 a l) (hm:l.length≤maxLen) (hB:Below N W0 w) (hp:PB N b d (Lib.byteCells bs) w) (hl:bs.length+(eY (l.map f)).length≤1099511627776) :
 Calls Tryz.prog 81 #[.pointer (some ⟨b,0,none⟩),.slice a l.length c,FV F b] w fun e w'=>e=.returned (.tuple #[])∧Wr N b bs (eY (l.map f)) d w w':=by
 unfold maxLen at hm
 have hNw:N≤w.heap.size:=by rw [hN];exact hB.size
 have HNN:=zm hN
 have hbw:=hp.lt
 have HP:=zm hp
 have HI:=zm hI
 have HK:=zm hk
 have HB:=zm hB
 have HL:=zm hl
 obtain ⟨T,hT⟩:∃ T,T=eY (l.map f):=⟨_,rfl⟩
 rw [←hT]
 have HT:=zm hT
 obtain ⟨n,hn⟩:∃ n,n=l.length:=⟨_,rfl⟩
 have HN:Hid (l.length=n):=zm hn.symm
 rw [←hn] at hm ⊢
 clear hp hI hk hB hl hT hn hN
 go_enter Tryz.func81,Tryz.ntmps81
 go_wp2
 go_loopw [10] (fun i wr=>∃ (j:Nat),j≤n∧i=.int .i64 j∧Hid (Wr N b bs (eY ((l.take j).map f)) d w wr)) (fun i _=>n-(intOf i).toNat)
 case atStart=>exact ⟨0,Nat.zero_le _,rfl,zm (Wr.nil (zk HP) (Below.refl _ _) (Lib.OthersKept.refl _ _ _))⟩
 case round=>
  obtain ⟨j,hj,rfl,hW⟩:=hrel
  have hws:=(zk hW).size
  by_cases hlt:j<n
  ·have hji:(j:Int)<(n:Int):=om
   have hjL:j<l.length:=by have:=zk HN;omega
   obtain ⟨kd,tx,nm,ps,ks,ek⟩:∃ a b c d e,l[j]?=some (Px.Tree.mk a b c d e):=by
    rw [List.getElem?_eq_getElem hjL];cases l[j] with | mk a b c d e=>exact ⟨a,b,c,d,e,rfl⟩
   obtain ⟨g,off,ao2,cp2,rfl,q3,Q,qc⟩:=zk HK j _ _ _ _ _ ek
   have hcell:∀ i,i<7→wr.cell? ⟨g,off+j*7+i,none⟩=(fM kd tx nm ps (.slice ao2 ks.length cp2))[i]?:=fun i hi=>by
    rw [Nat.add_assoc]
    have hb:=(zk HB).trans (zk hW).2.1
    rw [World.cell?_of_block (w:=W0) (a:=⟨g,off+(j*7+i),none⟩) (hb.block g (by rw [zk HNN];exact q3))]
    exact qc i hi
   have a0:=hcell 0 om
   have a1:=hcell 1 om
   have a2:=hcell 2 om
   have a3:=hcell 3 om
   have a4:=hcell 4 om
   have a5:=hcell 5 om
   have a6:=hcell 6 om
   simp only [fM,List.getElem?_cons_zero,List.getElem?_cons_succ,Nat.add_zero] at a0 a1 a2 a3 a4 a5 a6
   have HE:=zm ek
   have HQ:=zm Q
   have hmem:Tree.mk kd tx nm ps ks∈l:=List.mem_of_getElem? ek
   have HM:=zm hmem
   have hts:=sF (f:=f) ek
   have hle:=take_le (f:=f) l (j+1)
   rw [hts,uf] at hle
   have HTS:=zm hts
   have hA:Wr N b bs (eY ((l.take j).map f)) d w (wr.alloc (nO kd tx nm ps ao2 ks.length cp2)):=(zk hW).quiet (zr (zo _ _) _) hNw
   have hgA:(wr.alloc (nO kd tx nm ps ao2 ks.length cp2)).heap[wr.heap.size]?=some (nO kd tx nm ps ao2 ks.length cp2):=yW _ _ rfl
   have HA:=zm hA
   have HGA:=zm hgA
   have hne:wr.heap.size≠b:=om
   by_cases h0:j=0
   ·subst h0
    have hj0:¬(0:Int)<((0:Nat):Int):=om
    simp only [Nat.zero_mul,Nat.add_zero] at a0 a1 a2 a3 a4 a5 a6
    simp only [List.take_zero,List.map_nil,if_true] at hle
    have HX:=zm (zk HI kd tx nm ps ks ao2 cp2 (bs++eY ((l.take 0).map f)) _ hmem Q ((zk HB).trans hA.2.1) hA.1 (by have h2:=zk HL;simp [eY] ;omega))
    clear ek Q qc hcell hjL hle hts hA hmem
    obtain ⟨ft,hft⟩:∃ ft,ft=f (.mk kd tx nm ps ks):=⟨_,rfl⟩
    rw [←hft] at HX HTS
    clear hft hgA
    go_wp2_with fail
    with_reducible refine (zk HX).mono ?_
    rintro e w3 ⟨rfl,h3⟩
    have H3:=zm ((zk HA).trans h3)
    clear h3
    go_wp2
    go_roundw
    case rel=>exact ⟨1,om,by go_num,zm (by have:=zk H3;rw [zk HTS];simpa [eY] using this)⟩
    case measure=>simp [intOf];omega
   ·have hj0:(0:Int)<(j:Int):=om
    have hnn:¬(l.take j).map f=[]:=by simp;exact ⟨h0,fun e=>by rw [e] at hjL;simp at hjL⟩
    rw [if_neg hnn] at hle
    have HS:=zm (ws N b (bs++eY ((l.take j).map f)) [44,32] d _ hA.1 (by have h2:=zk HL;simp only [List.length_append] at hle ⊢;omega) (by have:=hA.size;omega))
    have HI2:=zm (fun wx h1 h2=>zk HI kd tx nm ps ks ao2 cp2 (bs++(eY ((l.take j).map f)++[44,32])) wx hmem Q h1 h2 (by have h2:=zk HL;simp only [List.length_append] at hle ⊢;omega))
    have HSN:Hid (eY ((l.take (j+1)).map f)=eY ((l.take j).map f)++[44,32]++f (.mk kd tx nm ps ks)):=zm (by rw [hts,uf,if_neg hnn])
    clear ek Q qc hcell hjL hle hts hA hmem hnn
    obtain ⟨ft,hft⟩:∃ ft,ft=f (.mk kd tx nm ps ks):=⟨_,rfl⟩
    rw [←hft] at HI2 HSN
    clear hft hgA HTS
    go_wp2_with fail
    with_reducible refine (zk HS).mono ?_
    rintro e w2 ⟨⟨v,rfl⟩,h2⟩
    have hb2:=h2.blk (zk HGA) hne dc
    obtain ⟨c0,c1,c2,c3,c4,c5,c6⟩:=gV hb2
    have H2:=zm ((zk HA).trans h2)
    have HX:=zm (zk HI2 w2 ((zk HB).trans (zk H2).2.1) (zk H2).1)
    clear h2 hb2
    go_wp2_with fail
    with_reducible refine (zk HX).mono ?_
    rintro e w3 ⟨rfl,h3⟩
    have H3:=zm ((zk H2).trans h3)
    clear h3
    go_wp2
    go_roundw
    case rel=>exact ⟨j+1,om,by go_num,zm (by have:=zk H3;rwa [←zk HSN] at this)⟩
    case measure=>simp [intOf];omega
  ·obtain rfl:j=n:=om
   have hji:¬(j:Int)<(j:Int):=om
   go_wp2
   go_end0
   refine ⟨rfl, ?_⟩
   have:=zk hW
   rw [List.take_of_length_le (by have:=zk HN;omega)] at this
   rw [zk HT]
   exact this
end Go.Proofs.YtgbjpnnockoomaaGreatDoor.Pp
