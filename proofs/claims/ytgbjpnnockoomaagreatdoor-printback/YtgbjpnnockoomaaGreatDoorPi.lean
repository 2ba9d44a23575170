import Derived.Test.YtgbjpnnockoomaaGreatDoorPbk
import Derived.Test.YtgbjpnnockoomaaGreatDoorPba
import Derived.Test.YtgbjpnnockoomaaGreatDoorPbb
import Derived.Test.YtgbjpnnockoomaaGreatDoorPbc
import Derived.Test.YtgbjpnnockoomaaGreatDoorPbd
import Derived.Test.YtgbjpnnockoomaaGreatDoorPbe
import Derived.Test.YtgbjpnnockoomaaGreatDoorPbh
import Derived.Test.YtgbjpnnockoomaaGreatDoorPbl
import Derived.Shelf.Strconv.Itoa0
import Derived.Shelf.Strconv.Itoa1
import Derived.Shelf.LaysM
import Derived.Shelf.Strconv.Itoa2
import Derived.Shelf.Strconv.Itoa3
import Derived.Lib.AppendIntMem
set_option linter.unusedVariables false
set_option linter.unusedSimpArgs false
set_option maxHeartbeats 8000000
set_option maxRecDepth 100000
set_option maxHeartbeats 2000000
namespace Go.Proofs.YtgbjpnnockoomaaGreatDoor.Pp
open Go.RowKit Lx Px
theorem uS (k:Int) (x:List UInt8) (n p:Int) (l:List Tree):(Tree.mk k x n p l).kind=k:=rfl
theorem uN {W0:World} {N b:Nat} (hN:N=W0.heap.size) (digits:Int→List UInt8) (rec:PrJ→Nat→Tree→List UInt8) (d:Nat) (hd:d<1152921504606846976) (t:Tree) (hr:RH W0 N b rec .forStmt d t) (ho:okJ .forStmt t):JC W0 N b (ym digits rec) .forStmt d t:=by
 intro kd tx nm ps ks ao cp e hK bs w hB hp hl
 subst e
 have HR:=zm hr
 clear hr
 have hkk:(Tree.mk kd tx nm ps ks).kind≠0:=ho
 by_cases h1:(yM (.mk kd tx nm ps ks) 0).kind=8
 ·have h1b:((yM (.mk kd tx nm ps ks) 0).kind==8)=true:=by rw [h1];rfl
  by_cases h2:(yM (.mk kd tx nm ps ks) 2).kind=8
  ·have h2b:((yM (.mk kd tx nm ps ks) 2).kind==8)=true:=by rw [h2];rfl
   simp only [ym,uS,Tree.text,Tree.kids,Tree.num,Int.reduceEq,if_true,if_false,or_self,or_false,false_or,or_true,true_or,false_and,true_and,and_true,and_false,reduceIte,List.append_nil,List.nil_append,ne_eq,not_true_eq_false,not_false_eq_true,et h1,et h2] at hl ⊢
   have HL:=zm hl
   have HV:Hid (PV W0 _ kd tx nm ps ao ks.length cp):=zm ⟨ks,rfl,rfl,hK⟩
   have HS:=ye.start (bs:=bs) kd tx nm ps ao ks.length cp hN hB hp
   clear hp hB hK hl hN
   try clear h0
   try clear h1
   try clear h2
   try clear hz
   simp only [JF,JA]
   go_enter Tryz.func93,Tryz.ntmps93
   (go_wp2_with fail;(try simp only [ByteArray.mk_append_mk]);with_reducible refine (ye.s HS pl).mono ?_;(try clear cc);clear HS;rintro e wn ⟨⟨v,rfl⟩,HS⟩;have cc:=ye.cells HS)
   (go_wp2_with fail;with_reducible refine (ye.part 0 HS HV dc).mono ?_;(try clear cc);clear HS;rintro e wn ⟨⟨kd2,tx2,nm2,ps2,ao2,n2,cp2,rfl,HP⟩,HS⟩;have cc:=ye.cells HS)
   (go_wp2_with fail;with_reducible refine (ye.isNone HS HP).mono ?_;(try clear cc);clear HS;rintro e wn ⟨rfl,HS⟩;have cc:=ye.cells HS)
   (go_wp2_with fail;with_reducible refine (ye.part 2 HS HV dc).mono ?_;(try clear cc);clear HS;rintro e wn ⟨⟨kd2,tx2,nm2,ps2,ao2,n2,cp2,rfl,HP⟩,HS⟩;have cc:=ye.cells HS)
   (go_wp2_with fail;with_reducible refine (ye.isNone HS HP).mono ?_;(try clear cc);clear HS;rintro e wn ⟨rfl,HS⟩;have cc:=ye.cells HS)
   (go_wp2_with fail;with_reducible refine (ye.part 1 HS HV dc).mono ?_;(try clear cc);clear HS;rintro e wn ⟨⟨kd2,tx2,nm2,ps2,ao2,n2,cp2,rfl,HP⟩,HS⟩;have cc:=ye.cells HS)
   (have hpj:di .expr:=fun _ _=>rfl;have hjf:JF .expr=91:=rfl;have hen:Ent 91:=dP 91 dc;have HU:=(RHp HR .expr hkk 1 trivial);go_wp2_with fail;with_reducible refine (ye.unl .expr HS HP hpj hjf hen HU pl).mono ?_;clear hpj hjf hen HU;(try clear cc);clear HS;rintro e wn ⟨rfl,HS⟩;have cc:=ye.cells HS)
   (go_wp2_with fail;with_reducible refine (ye.byte 32 HS dc pl).mono ?_;(try clear cc);clear HS;rintro e wn ⟨⟨v,rfl⟩,HS⟩;have cc:=ye.cells HS)
   (go_wp2_with fail;with_reducible refine (ye.part 3 HS HV dc).mono ?_;(try clear cc);clear HS;rintro e wn ⟨⟨kd2,tx2,nm2,ps2,ao2,n2,cp2,rfl,HP⟩,HS⟩;have cc:=ye.cells HS)
   (have HJ:=((zk (RHp HR .block hkk 3 trivial)).pv HP);simp only [JF,JA] at HJ;go_wp2_with fail;with_reducible refine (ye.call HS HJ pl).mono ?_;(try clear cc);clear HS HJ;rintro e wn ⟨rfl,HS⟩;have cc:=ye.cells HS)
   exact pe
  ·have h2b:((yM (.mk kd tx nm ps ks) 2).kind==8)=false:=by simpa using h2
   simp only [ym,uS,Tree.text,Tree.kids,Tree.num,Int.reduceEq,if_true,if_false,or_self,or_false,false_or,or_true,true_or,false_and,true_and,and_true,and_false,reduceIte,List.append_nil,List.nil_append,ne_eq,not_true_eq_false,not_false_eq_true,et h1,ef h2] at hl ⊢
   have HL:=zm hl
   have HV:Hid (PV W0 _ kd tx nm ps ao ks.length cp):=zm ⟨ks,rfl,rfl,hK⟩
   have HS:=ye.start (bs:=bs) kd tx nm ps ao ks.length cp hN hB hp
   clear hp hB hK hl hN
   try clear h0
   try clear h1
   try clear h2
   try clear hz
   simp only [JF,JA]
   go_enter Tryz.func93,Tryz.ntmps93
   (go_wp2_with fail;(try simp only [ByteArray.mk_append_mk]);with_reducible refine (ye.s HS pl).mono ?_;(try clear cc);clear HS;rintro e wn ⟨⟨v,rfl⟩,HS⟩;have cc:=ye.cells HS)
   (go_wp2_with fail;with_reducible refine (ye.part 0 HS HV dc).mono ?_;(try clear cc);clear HS;rintro e wn ⟨⟨kd2,tx2,nm2,ps2,ao2,n2,cp2,rfl,HP⟩,HS⟩;have cc:=ye.cells HS)
   (go_wp2_with fail;with_reducible refine (ye.isNone HS HP).mono ?_;(try clear cc);clear HS;rintro e wn ⟨rfl,HS⟩;have cc:=ye.cells HS)
   (go_wp2_with fail;with_reducible refine (ye.part 2 HS HV dc).mono ?_;(try clear cc);clear HS;rintro e wn ⟨⟨kd2,tx2,nm2,ps2,ao2,n2,cp2,rfl,HP⟩,HS⟩;have cc:=ye.cells HS)
   (go_wp2_with fail;with_reducible refine (ye.isNone HS HP).mono ?_;(try clear cc);clear HS;rintro e wn ⟨rfl,HS⟩;have cc:=ye.cells HS)
   (have HJ:=((zk (RHs HR .forParts dc zM)).pv HV);simp only [JF,JA] at HJ;go_wp2_with fail;with_reducible refine (ye.call HS HJ pl).mono ?_;(try clear cc);clear HS HJ;rintro e wn ⟨rfl,HS⟩;have cc:=ye.cells HS)
   (go_wp2_with fail;with_reducible refine (ye.byte 32 HS dc pl).mono ?_;(try clear cc);clear HS;rintro e wn ⟨⟨v,rfl⟩,HS⟩;have cc:=ye.cells HS)
   (go_wp2_with fail;with_reducible refine (ye.part 3 HS HV dc).mono ?_;(try clear cc);clear HS;rintro e wn ⟨⟨kd2,tx2,nm2,ps2,ao2,n2,cp2,rfl,HP⟩,HS⟩;have cc:=ye.cells HS)
   (have HJ:=((zk (RHp HR .block hkk 3 trivial)).pv HP);simp only [JF,JA] at HJ;go_wp2_with fail;with_reducible refine (ye.call HS HJ pl).mono ?_;(try clear cc);clear HS HJ;rintro e wn ⟨rfl,HS⟩;have cc:=ye.cells HS)
   exact pe
 ·have h1b:((yM (.mk kd tx nm ps ks) 0).kind==8)=false:=by simpa using h1
  simp only [ym,uS,Tree.text,Tree.kids,Tree.num,Int.reduceEq,if_true,if_false,or_self,or_false,false_or,or_true,true_or,false_and,true_and,and_true,and_false,reduceIte,List.append_nil,List.nil_append,ne_eq,not_true_eq_false,not_false_eq_true,ef h1] at hl ⊢
  have HL:=zm hl
  have HV:Hid (PV W0 _ kd tx nm ps ao ks.length cp):=zm ⟨ks,rfl,rfl,hK⟩
  have HS:=ye.start (bs:=bs) kd tx nm ps ao ks.length cp hN hB hp
  clear hp hB hK hl hN
  try clear h0
  try clear h1
  try clear h2
  try clear hz
  simp only [JF,JA]
  go_enter Tryz.func93,Tryz.ntmps93
  (go_wp2_with fail;(try simp only [ByteArray.mk_append_mk]);with_reducible refine (ye.s HS pl).mono ?_;(try clear cc);clear HS;rintro e wn ⟨⟨v,rfl⟩,HS⟩;have cc:=ye.cells HS)
  (go_wp2_with fail;with_reducible refine (ye.part 0 HS HV dc).mono ?_;(try clear cc);clear HS;rintro e wn ⟨⟨kd2,tx2,nm2,ps2,ao2,n2,cp2,rfl,HP⟩,HS⟩;have cc:=ye.cells HS)
  (go_wp2_with fail;with_reducible refine (ye.isNone HS HP).mono ?_;(try clear cc);clear HS;rintro e wn ⟨rfl,HS⟩;have cc:=ye.cells HS)
  (have HJ:=((zk (RHs HR .forParts dc zM)).pv HV);simp only [JF,JA] at HJ;go_wp2_with fail;with_reducible refine (ye.call HS HJ pl).mono ?_;(try clear cc);clear HS HJ;rintro e wn ⟨rfl,HS⟩;have cc:=ye.cells HS)
  (go_wp2_with fail;with_reducible refine (ye.byte 32 HS dc pl).mono ?_;(try clear cc);clear HS;rintro e wn ⟨⟨v,rfl⟩,HS⟩;have cc:=ye.cells HS)
  (go_wp2_with fail;with_reducible refine (ye.part 3 HS HV dc).mono ?_;(try clear cc);clear HS;rintro e wn ⟨⟨kd2,tx2,nm2,ps2,ao2,n2,cp2,rfl,HP⟩,HS⟩;have cc:=ye.cells HS)
  (have HJ:=((zk (RHp HR .block hkk 3 trivial)).pv HP);simp only [JF,JA] at HJ;go_wp2_with fail;with_reducible refine (ye.call HS HJ pl).mono ?_;(try clear cc);clear HS HJ;rintro e wn ⟨rfl,HS⟩;have cc:=ye.cells HS)
  exact pe
open Go.RowKit Lx Px
theorem comm_step {W0:World} {N b:Nat} (hN:N=W0.heap.size) (digits:Int→List UInt8) (rec:PrJ→Nat→Tree→List UInt8) (d:Nat) (hd:d<1152921504606846976) (t:Tree) (hr:RH W0 N b rec .comm d t) (ho:okJ .comm t):JC W0 N b (ym digits rec) .comm d t:=by
 intro kd tx nm ps ks ao cp e hK bs w hB hp hl
 subst e
 have HR:=zm hr
 clear hr
 by_cases k26:kd=26
 ·subst k26
  have hkk:(Tree.mk 26 tx nm ps ks).kind≠0:=by simp [Tree.kind]
  by_cases h1:tx=[114,101,99,118]
  ·have h1b:(tx==[114,101,99,118])=true:=by rw [h1];rfl
   simp only [ym,sS,sT,Int.reduceEq,reduceIte,et h1] at hl ⊢
   have HL:=zm hl
   have HV:Hid (PV W0 _ 26 tx nm ps ao ks.length cp):=zm ⟨ks,rfl,rfl,hK⟩
   have HS:=ye.start (bs:=bs) 26 tx nm ps ao ks.length cp hN hB hp
   clear hp hB hK hl hN
   try clear h0
   try clear h1
   try clear h2
   try clear hz
   simp only [JF,JA]
   go_enter Tryz.func110,Tryz.ntmps110
   (have HJ:=((zk (RHs HR .receiving dc zM)).pv HV);simp only [JF,JA] at HJ;go_wp2_with fail;with_reducible refine (ye.call HS HJ pl).mono ?_;(try clear cc);clear HS HJ;rintro e wn ⟨rfl,HS⟩;have cc:=ye.cells HS)
   exact pe
  ·have h1b:(tx==[114,101,99,118])=false:=by simpa using h1
   by_cases h2:tx=[115,101,110,100]
   ·have h2b:(tx==[115,101,110,100])=true:=by rw [h2];rfl
    simp only [ym,sS,sT,Int.reduceEq,reduceIte,ef h1,et h2] at hl ⊢
    have HL:=zm hl
    have HV:Hid (PV W0 _ 26 tx nm ps ao ks.length cp):=zm ⟨ks,rfl,rfl,hK⟩
    have HS:=ye.start (bs:=bs) 26 tx nm ps ao ks.length cp hN hB hp
    clear hp hB hK hl hN
    try clear h0
    try clear h1
    try clear h2
    try clear hz
    simp only [JF,JA]
    go_enter Tryz.func110,Tryz.ntmps110
    (go_wp2_with fail;with_reducible refine (ye.tabs HS pl).mono ?_;(try clear cc);clear HS;rintro e wn ⟨rfl,HS⟩;have cc:=ye.cells HS)
    (go_wp2_with fail;(try simp only [ByteArray.mk_append_mk]);with_reducible refine (ye.s HS pl).mono ?_;(try clear cc);clear HS;rintro e wn ⟨⟨v,rfl⟩,HS⟩;have cc:=ye.cells HS)
    (have HJ:=((zk (RHr HR (.both [60,45]) (by simp [rnk]) zM)).pv HV);simp only [JF,JA] at HJ;go_wp2_with fail;with_reducible refine (ye.call HS HJ pl).mono ?_;(try clear cc);clear HS HJ;rintro e wn ⟨rfl,HS⟩;have cc:=ye.cells HS)
    (go_wp2_with fail;with_reducible refine (ye.part 2 HS HV dc).mono ?_;(try clear cc);clear HS;rintro e wn ⟨⟨kd2,tx2,nm2,ps2,ao2,n2,cp2,rfl,HP⟩,HS⟩;have cc:=ye.cells HS)
    (have HJ:=((zk (RHp HR .clauseStmts hkk 2 trivial)).pv HP);simp only [JF,JA] at HJ;go_wp2_with fail;with_reducible refine (ye.call HS HJ pl).mono ?_;(try clear cc);clear HS HJ;rintro e wn ⟨rfl,HS⟩;have cc:=ye.cells HS)
    exact pe
   ·have h2b:(tx==[115,101,110,100])=false:=by simpa using h2
    by_cases h0:tx=[100,101,102,97,117,108,116]
    ·have h0b:(tx==[100,101,102,97,117,108,116])=true:=by rw [h0];rfl
     simp only [ym,sS,sT,Int.reduceEq,reduceIte,ef h1,ef h2,et h0] at hl ⊢
     have HL:=zm hl
     have HV:Hid (PV W0 _ 26 tx nm ps ao ks.length cp):=zm ⟨ks,rfl,rfl,hK⟩
     have HS:=ye.start (bs:=bs) 26 tx nm ps ao ks.length cp hN hB hp
     clear hp hB hK hl hN
     try clear h0
     try clear h1
     try clear h2
     try clear hz
     simp only [JF,JA]
     go_enter Tryz.func110,Tryz.ntmps110
     (go_wp2_with fail;with_reducible refine (ye.tabs HS pl).mono ?_;(try clear cc);clear HS;rintro e wn ⟨rfl,HS⟩;have cc:=ye.cells HS)
     (go_wp2_with fail;(try simp only [ByteArray.mk_append_mk]);with_reducible refine (ye.s HS pl).mono ?_;(try clear cc);clear HS;rintro e wn ⟨⟨v,rfl⟩,HS⟩;have cc:=ye.cells HS)
     (go_wp2_with fail;with_reducible refine (ye.part 0 HS HV dc).mono ?_;(try clear cc);clear HS;rintro e wn ⟨⟨kd2,tx2,nm2,ps2,ao2,n2,cp2,rfl,HP⟩,HS⟩;have cc:=ye.cells HS)
     (have HJ:=((zk (RHp HR .clauseStmts hkk 0 trivial)).pv HP);simp only [JF,JA] at HJ;go_wp2_with fail;with_reducible refine (ye.call HS HJ pl).mono ?_;(try clear cc);clear HS HJ;rintro e wn ⟨rfl,HS⟩;have cc:=ye.cells HS)
     exact pe
    ·have h0b:(tx==[100,101,102,97,117,108,116])=false:=by simpa using h0
     simp only [ym,sS,sT,Int.reduceEq,reduceIte,ef h1,ef h2,ef h0] at hl ⊢
     have HL:=zm hl
     have HV:Hid (PV W0 _ 26 tx nm ps ao ks.length cp):=zm ⟨ks,rfl,rfl,hK⟩
     have HS:=ye.start (bs:=bs) 26 tx nm ps ao ks.length cp hN hB hp
     clear hp hB hK hl hN
     try clear h0
     try clear h1
     try clear h2
     try clear hz
     simp only [JF,JA]
     go_enter Tryz.func110,Tryz.ntmps110
     (go_wp2_with fail;with_reducible refine (ye.unk HS pl).mono ?_;(try clear cc);clear HS;rintro e wn ⟨rfl,HS⟩;have cc:=ye.cells HS)
     exact pe
 ·skip
  simp only [ym,sS,sT,Int.reduceEq,reduceIte,k26] at hl ⊢
  have HL:=zm hl
  have HV:Hid (PV W0 _ kd tx nm ps ao ks.length cp):=zm ⟨ks,rfl,rfl,hK⟩
  have HS:=ye.start (bs:=bs) kd tx nm ps ao ks.length cp hN hB hp
  clear hp hB hK hl hN
  try clear h0
  try clear h1
  try clear h2
  try clear hz
  simp only [JF,JA]
  go_enter Tryz.func110,Tryz.ntmps110
  (go_wp2_with fail;with_reducible refine (ye.unk HS pl).mono ?_;(try clear cc);clear HS;rintro e wn ⟨rfl,HS⟩;have cc:=ye.cells HS)
  exact pe
open Go.RowKit Lx Px
theorem q_take {tx:List UInt8} {j:Nat} {c:UInt8} (h:tx[j]?=some c):(tx.take (j+1)).flatMap qB=(tx.take j).flatMap qB++qB c:=by
 rw [List.take_add_one,h];simp
theorem q_le (l:List UInt8) (j:Nat):((l.take j).flatMap qB).length≤(l.flatMap qB).length:=by
 have h:(l.take j++l.drop j).flatMap qB=l.flatMap qB:=by rw [List.take_append_drop]
 rw [←h,List.flatMap_append,List.length_append];omega
theorem qB_len (c:UInt8):1≤(qB c).length:=by unfold qB;split;simp;split;simp;split <;> simp
theorem q_len (l:List UInt8):l.length≤(l.flatMap qB).length:=by
 induction l with
 | nil=>simp
 | cons c r ih=>have:=qB_len c;simp only [List.flatMap_cons,List.length_cons,List.length_append];omega
theorem quoted_any (W0:World) (N b:Nat) (hN:N=W0.heap.size) (d:Nat) (tx bs:List UInt8) (w:World) (hB:Below N W0 w) (hp:PB N b d (Lib.byteCells bs) w) (hl:bs.length+(nN tx).length≤1099511627776) :
 Calls Tryz.prog 101 #[.pointer (some ⟨b,0,none⟩),.string ⟨tx.toArray⟩] w fun e w'=>e=.returned (.tuple #[])∧Wr N b bs (nN tx) d w w':=by
 have hNw:N≤w.heap.size:=by rw [hN];exact hB.size
 have hql:=q_len tx
 simp only [nN,List.length_cons,List.length_append,List.length_nil] at hl
 have H0:=zm (wbk N b bs 34 34 rfl d w hp om hNw)
 have hnb:tx.length≤1099511627776:=om
 have HL:=zm hl
 clear hp hB hN hl hql
 go_enter Tryz.func101,Tryz.ntmps101
 go_wp2_with fail
 with_reducible refine (zk H0).mono ?_
 rintro e w1 ⟨⟨v,rfl⟩,h1⟩
 have H1:=zm h1
 clear h1
 go_wp2
 go_loopw [11] (fun i wr=>∃ (j:Nat),j≤tx.length∧i=.int .i64 j∧Hid (Wr N b bs ([34]++(tx.take j).flatMap qB) d w wr)) (fun i _=>tx.length-(intOf i).toNat)
 case atStart=>exact ⟨0,Nat.zero_le _,rfl,by simpa only [List.take_zero,List.flatMap_nil,List.append_nil] using H1⟩
 case round=>
  obtain ⟨j,hj,rfl,hW⟩:=hrel
  have hws:=(zk hW).size
  by_cases hlt:j<tx.length
  ·have hji:(j:Int)<(tx.length:Int):=om
   have ek:tx[j]?=some tx[j]:=List.getElem?_eq_getElem hlt
   obtain ⟨c,hc⟩:∃ c,c=tx[j]:=⟨_,rfl⟩
   rw [←hc] at ek
   have hts:=q_take ek
   have hle:=q_le tx (j+1)
   rw [hts] at hle
   simp only [List.length_append] at hle
   have hidx:∀ (h:j<(⟨tx.toArray⟩:ByteArray).size),(⟨tx.toArray⟩:ByteArray)[j]=c:=fun h=>hc.symm
   have hql:=qB_len c
   by_cases h10:c=10
   ·have hT:(tx.take (j+1)).flatMap qB=(tx.take j).flatMap qB++[92,110]:=by rw [hts,h10];rfl
    have hL:(qB c).length=2:=by rw [h10];rfl
    have HTT:=zm hT
    have f10:((c.toNat:Int)==10)=true:=by rw [h10];rfl
    have HS:=zm (ws N b _ [92,110] d wr (zk hW).1 zO om)
    clear hts hT hle hc ek h10 hL
    go_wp2_with fail
    with_reducible refine (zk HS).mono ?_
    rintro e w2 ⟨⟨v,rfl⟩,h2⟩
    have H2:=zm ((zk hW).trans h2)
    clear h2
    go_wp2
    go_roundw
    case rel=>exact ⟨j+1,om,by go_num,zm zd⟩
    case measure=>simp [intOf];omega
   ·skip
    by_cases h34:c=34
    ·have hT:(tx.take (j+1)).flatMap qB=(tx.take j).flatMap qB++[92,34]:=by rw [hts,h34];rfl
     have hL:(qB c).length=2:=by rw [h34];rfl
     have HTT:=zm hT
     have f34:((c.toNat:Int)==34)=true:=by rw [h34];rfl
     have f10:((c.toNat:Int)==10)=false:=by rw [h34];rfl
     have HS:=zm (ws N b _ [92,34] d wr (zk hW).1 zO om)
     clear hts hT hle hc ek h34 hL
     go_wp2_with fail
     with_reducible refine (zk HS).mono ?_
     rintro e w2 ⟨⟨v,rfl⟩,h2⟩
     have H2:=zm ((zk hW).trans h2)
     clear h2
     go_wp2
     go_roundw
     case rel=>exact ⟨j+1,om,by go_num,zm zd⟩
     case measure=>simp [intOf];omega
    ·skip
     by_cases h92:c=92
     ·have hT:(tx.take (j+1)).flatMap qB=(tx.take j).flatMap qB++[92,92]:=by rw [hts,h92];rfl
      have hL:(qB c).length=2:=by rw [h92];rfl
      have HTT:=zm hT
      have f92:((c.toNat:Int)==92)=true:=by rw [h92];rfl
      have f10:((c.toNat:Int)==10)=false:=by rw [h92];rfl
      have f34:((c.toNat:Int)==34)=false:=by rw [h92];rfl
      have HS:=zm (ws N b _ [92,92] d wr (zk hW).1 zO om)
      clear hts hT hle hc ek h92 hL
      go_wp2_with fail
      with_reducible refine (zk HS).mono ?_
      rintro e w2 ⟨⟨v,rfl⟩,h2⟩
      have H2:=zm ((zk hW).trans h2)
      clear h2
      go_wp2
      go_roundw
      case rel=>exact ⟨j+1,om,by go_num,zm zd⟩
      case measure=>simp [intOf];omega
     ·skip
      have hq:qB c=[c]:=by unfold qB;rw [if_neg h10,if_neg h34,if_neg h92]
      rw [hq] at hts hle
      have HTT:=zm hts
      have fk:∀ k:UInt8,¬c=k→((c.toNat:Int)==(k.toNat:Int))=false:=fun k hk=>by
       have:¬c.toNat=k.toNat:=fun e=>hk (UInt8.toNat_inj.1 e)
       simp only [beq_eq_false_iff_ne,ne_eq]
       omega
      have f10:((c.toNat:Int)==10)=false:=fk 10 h10
      have f34:((c.toNat:Int)==34)=false:=fk 34 h34
      have f92:((c.toNat:Int)==92)=false:=fk 92 h92
      have HS:=zm (fun wx (hx:Wr N b bs ([34]++(tx.take j).flatMap qB) d w wx)=>wb N b _ c d wx hx.1 (by have h2:=zk HL;simp only [List.length_append,List.length_cons,List.length_nil] at h2 hle ⊢;omega) (by have:=hx.size;omega))
      clear hts hle hc ek h10 h34 h92 hq hql fk
      go_wp2_with fail
      go_region_held2 (fun _=>True) (trivial) (first | (go_at_call 24;with_reducible refine (zk HS _ ((zk hW).quiet (zz (zo _ _)) hNw)).mono ?_;rintro e w2 ⟨⟨v,rfl⟩,h2⟩;have H2:=zm (((zk hW).quiet (zz (zo _ _)) hNw).trans h2);clear h2))
      go_wp2
      go_roundw
      case rel=>exact ⟨j+1,om,by go_num,zm zd⟩
      case measure=>simp [intOf];omega
  ·obtain rfl:j=tx.length:=om
   have hji:¬(tx.length:Int)<(tx.length:Int):=om
   have hW2:=zk hW
   rw [List.take_length] at hW2
   have HW2:=zm hW2
   have HY:=zm (wbk N b _ 34 34 rfl d wr hW2.1 zO om)
   clear hW2
   go_wp2_with fail
   with_reducible refine (zk HY).mono ?_
   rintro e w5 ⟨⟨v,rfl⟩,h5⟩
   have H5:=zm ((zk HW2).trans h5)
   clear h5
   go_wp2
   go_end0
   exact ⟨rfl,by simpa [nN] using zk H5⟩
open Go.RowKit Lx Px
def ItoaP (W0:World) (N:Nat) (digits:Int→List UInt8) (v:Int):Prop:=∀ w',Below N W0 w'→N≤w'.heap.size→Calls Tryz.prog 100 #[.int .i64 v] w' fun e w2=>e=.returned (.string ⟨(digits v).toArray⟩)∧w'.grownBy w2 none
def je (P:Int→Prop):Tree→Prop
 | .mk _ _ n _ l=>P n∧∀ t∈l,je P t
theorem lW (P:Int→Prop) (k:Int) (x:List UInt8) (n p:Int) (l:List Tree):je P (.mk k x n p l)↔(P n∧∀ t∈l,je P t):=by rw [je]
theorem je.num {P:Int→Prop} {t:Tree} (h:je P t):P t.num:=by
 cases t;rw [lW] at h;exact h.1
theorem je.sub {P:Int→Prop} (h0:P 0) {s t:Tree} (h:je P t) (k:Sub s t):je P s:=by
 rcases k with rfl | k | rfl
 ·exact h
 ·cases t;rw [lW] at h;exact h.2 _ k
 ·rw [dZ,lW];exact ⟨h0,fun t m=>by simp at m⟩
theorem jobs_all {W0:World} {N b:Nat} (hN:N=W0.heap.size) (digits:Int→List UInt8) (P:Int→Prop) (hP0:P 0) (hD:∀ v,P v→ItoaP W0 N digits v):∀ (n:Nat) (j:PrJ) (d:Nat) (t:Tree),nee j t<n→okJ j t→d+sz t<1152921504606846976→je P t→JC W0 N b (pr digits n) j d t
 | 0,j,d,t,h,_,_,_=>absurd h (Nat.not_lt_zero _)
 | n+1,j,d,t,h,ho,hd,hn=>by
   have hr:RH W0 N b (pr digits n) j d t:=fun j' d' t' h1 h2 h3 h4=>by
    refine jobs_all hN digits P hP0 hD n j' d' t' om h2 ?_ (hn.sub hP0 h4)
    rcases h3 with rfl | ⟨rfl,h4⟩
    ·have:sz t'≤sz t:=by unfold nee at h1;have:=kK j;omega
     omega
    ·omega
   have hd':d<1152921504606846976:=om
   have hQ:∀ tx,JG W0 N b 101 #[.pointer (some ⟨b,0,none⟩),.string ⟨List.toArray tx⟩] (nN tx) d:=fun tx bs w hB hp hl=>quoted_any W0 N b hN d tx bs w hB hp hl
   show JC W0 N b (ym digits (pr digits n)) j d t
   cases j with
   | expr=>exact expr_step hN digits _ d hd' t hr ho (fun v e w'=>hD v (e ▸ hn.num) w') hQ
   | stmt=>exact stmt_step hN digits _ d hd' t hr ho
   | block=>exact block_step hN digits _ d hd' t hr ho
   | wtype=>exact wtype_step hN digits _ d hd' t hr ho
   | typed=>exact typed_step hN digits _ d hd' t hr ho
   | field=>exact field_step hN digits _ d hd' t hr ho
   | param=>exact param_step hN digits _ d hd' t hr ho
   | params=>exact params_step hN digits _ d hd' t hr ho
   | function=>exact rQ hN digits _ d hd' t hr ho
   | decl=>exact decl_step hN digits _ d hd' t hr ho
   | simple=>exact simple_step hN digits _ d hd' t hr ho
   | both s=>exact both_step hN digits _ s d t hr ho
   | exprStmt=>exact rO hN digits _ d hd' t hr ho
   | initial=>exact uQ hN digits _ d hd' t hr ho
   | builtin=>exact uD hN digits _ d hd' t hr ho
   | pointed=>exact vH hN digits _ d hd' t hr ho
   | primary=>exact vI hN digits _ d hd' t hr ho
   | ifStmt=>exact ifStmt_step hN digits _ d hd' t hr ho
   | forStmt=>exact uN hN digits _ d hd' t hr ho
   | forParts=>exact rP hN digits _ d hd' t hr ho
   | switchStmt=>exact pG hN digits _ d hd' t hr ho
   | selectStmt=>exact pF hN digits _ d hd' t hr ho
   | clause=>exact clause_step hN digits _ d hd' t hr ho
   | comm=>exact comm_step hN digits _ d hd' t hr ho
   | receiving=>exact qQ hN digits _ d hd' t hr ho
   | clauseStmts=>exact oG hN digits _ d hd' t hr ho
   | jump s=>exact jump_step hN digits _ s d hd' t hr ho
   | file=>exact file_step hN digits _ d hd' t hr ho
end Go.Proofs.YtgbjpnnockoomaaGreatDoor.Pp
namespace Go.Proofs
open Go.Shelf
def Tryz.uT:Go.Shelf.Ren:=⟨fun | 171=>100 | 243=>121 | 246=>135 | 283=>146 | 284=>147 | 285=>148 | 286=>149 | 129=>157 | 317=>156 | 318=>158 | 319=>159 | 320=>160 | 337=>167 | 338=>168 | n=>n,fun | 3=>3 | 9=>9 | 2=>2 | 4=>4 | 171=>146 | 0=>0 | 53=>147 | 37=>46 | 5=>5 | 173=>150 | 212=>157 | 51=>158 | 20=>20 | 213=>159 | 46=>161 | 232=>165 | 233=>166 | n=>n,fun | 17=>2 | 18=>3 | 19=>4 | n=>n⟩
theorem Tryz.laysM171:Go.Proofs.LaysM.n171 Tryz.prog Tryz.uT:={
 mixed:=by kernel_rfl
 f129:=Tryz.func157.trans (congrArg some (by kernel_rfl))
 f171:=Tryz.func100.trans (congrArg some (by kernel_rfl))
 f243:=Tryz.func121.trans (congrArg some (by kernel_rfl))
 f246:=Tryz.func135.trans (congrArg some (by kernel_rfl))
 f283:=Tryz.func146.trans (congrArg some (by kernel_rfl))
 f284:=Tryz.func147.trans (congrArg some (by kernel_rfl))
 f285:=Tryz.func148.trans (congrArg some (by kernel_rfl))
 f286:=Tryz.func149.trans (congrArg some (by kernel_rfl))
 f317:=Tryz.func156.trans (congrArg some (by kernel_rfl))
 f318:=Tryz.func158.trans (congrArg some (by kernel_rfl))
 f319:=Tryz.func159.trans (congrArg some (by kernel_rfl))
 f320:=Tryz.func160.trans (congrArg some (by kernel_rfl))
 f337:=Tryz.func167.trans (congrArg some (by kernel_rfl))
 f338:=Tryz.func168.trans (congrArg some (by kernel_rfl))
 t0:=Tryz.underlying0
 a0:=Tryz.isAgg0
 z0:=Tryz.sizeOf0
 v0:=Tryz.zeroValue0
 t2:=Tryz.underlying2
 a2:=Tryz.isAgg2
 z2:=Tryz.sizeOf2
 v2:=Tryz.zeroValue2
 t3:=Tryz.underlying3
 a3:=Tryz.isAgg3
 z3:=Tryz.sizeOf3
 v3:=Tryz.zeroValue3
 t4:=Tryz.underlying4
 a4:=Tryz.isAgg4
 z4:=Tryz.sizeOf4
 v4:=Tryz.zeroValue4
 t5:=Tryz.underlying5
 a5:=Tryz.isAgg5
 z5:=Tryz.sizeOf5
 v5:=Tryz.zeroValue5
 t9:=Tryz.underlying9
 a9:=Tryz.isAgg9
 z9:=Tryz.sizeOf9
 v9:=Tryz.zeroValue9
 t20:=Tryz.underlying20
 a20:=Tryz.isAgg20
 z20:=Tryz.sizeOf20
 v20:=Tryz.zeroValue20
 t37:=Tryz.underlying46
 a37:=Tryz.isAgg46
 z37:=Tryz.sizeOf46
 v37:=Tryz.zeroValue46
 t46:=Tryz.underlying161
 a46:=Tryz.isAgg161
 z46:=Tryz.sizeOf161
 v46:=Tryz.zeroValue161
 t51:=Tryz.underlying158
 a51:=Tryz.isAgg158
 z51:=Tryz.sizeOf158
 v51:=Tryz.zeroValue158
 t53:=Tryz.underlying147
 a53:=Tryz.isAgg147
 z53:=Tryz.sizeOf147
 v53:=Tryz.zeroValue147
 t171:=Tryz.underlying146
 a171:=Tryz.isAgg146
 z171:=Tryz.sizeOf146
 v171:=Tryz.zeroValue146
 t173:=Tryz.underlying150
 a173:=Tryz.isAgg150
 z173:=Tryz.sizeOf150
 v173:=Tryz.zeroValue150
 t212:=Tryz.underlying157
 a212:=Tryz.isAgg157
 z212:=Tryz.sizeOf157
 v212:=Tryz.zeroValue157
 t213:=Tryz.underlying159
 a213:=Tryz.isAgg159
 z213:=Tryz.sizeOf159
 t232:=Tryz.underlying165
 a232:=Tryz.isAgg165
 z232:=Tryz.sizeOf165
 v232:=Tryz.zeroValue165
 t233:=Tryz.underlying166
 a233:=Tryz.isAgg166
 z233:=Tryz.sizeOf166
 v233:=Tryz.zeroValue166
 g17:=by kernel_rfl
 g18:=by kernel_rfl
 g19:=by kernel_rfl
 i0:=by kernel_rfl
 i2:=by kernel_rfl
 i3:=by kernel_rfl
 i4:=by kernel_rfl
 i5:=by kernel_rfl
 i9:=by kernel_rfl
 i20:=by kernel_rfl
 i37:=by kernel_rfl
 i46:=by kernel_rfl
 i51:=by kernel_rfl
 i53:=by kernel_rfl
 i171:=by kernel_rfl
 i173:=by kernel_rfl
 i212:=by kernel_rfl
 i232:=by kernel_rfl
 i233:=by kernel_rfl
 m17:=by kernel_rfl
 m18:=by kernel_rfl
 m19:=by kernel_rfl }
open Go.RowKit Go.Sort Go.Lib in
theorem Tryz.strconv_Itoa (n:Int) (h0 : -9223372036854775808≤n) (h1:n≤9223372036854775807) (w:World) (htab:Lib.TabIs Tryz.prog w "internal/strconv.uint64pow10" .u64 Lib.pow10Tab) :
 Calls Tryz.prog 100 #[.int .i64 n] w fun e w'=>e=.returned (.string ⟨(Lib.itoa n).toArray⟩)∧∃ k os,w'=grow (w.drewN k) os:=Any.strconv_Itoa Tryz.laysM171 n h0 h1 w htab
end Go.Proofs
namespace Go.Proofs.YtgbjpnnockoomaaGreatDoor.Pp
open Go.RowKit Lx Px
theorem drewN_heap (w:World) (k:Nat):(w.drewN k).heap=w.heap∧(w.drewN k).tape=w.tape∧(w.drewN k).output=w.output∧(w.drewN k).os=w.os:=by
 induction k generalizing w with
 | zero=>exact ⟨rfl,rfl,rfl,rfl⟩
 | succ k ih=>exact ih w.drew
theorem grown_grow (w:World) (k:Nat) (os:Array Obj):w.grownBy (Sort.grow (w.drewN k) os) none:=by
 obtain ⟨h1,h2,h3,h4⟩:=drewN_heap w k
 refine ⟨h4,h2,h3, ?_,fun i hi _=>?_⟩
 ·simp [Sort.grow,h1]
 ·simp [Sort.grow,h1,Array.getElem?_append_left hi]
def I64 (v:Int):Prop:=-9223372036854775808≤v∧v≤9223372036854775807
abbrev TabOk (w:World):Prop:=Lib.TabIs Tryz.prog w "internal/strconv.uint64pow10" .u64 Lib.pow10Tab
theorem itoa_ok {W0:World} {N:Nat} (hN:N=W0.heap.size) (hT:TabOk W0) (v:Int) (hv:I64 v):ItoaP W0 N Lib.itoa v:=by
 intro w' hB _
 subst hN
 refine (Tryz.strconv_Itoa v hv.1 hv.2 w' (Lib.tabBelow_of_tabIs hT w' hB)).mono ?_
 rintro e w2 ⟨rfl,k,os,rfl⟩
 exact ⟨rfl,grown_grow w' k os⟩
end Go.Proofs.YtgbjpnnockoomaaGreatDoor.Pp
