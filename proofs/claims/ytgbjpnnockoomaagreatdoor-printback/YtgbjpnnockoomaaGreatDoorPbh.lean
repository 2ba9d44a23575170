import Derived.Test.YtgbjpnnockoomaaGreatDoorPbk
set_option linter.unusedVariables false
set_option linter.unusedSimpArgs false
set_option maxHeartbeats 8000000
set_option maxRecDepth 100000
namespace Go.Proofs.YtgbjpnnockoomaaGreatDoor.Pp
open Go.RowKit Lx Px
theorem case_any (W0:World) (N b:Nat) (hN:N=W0.heap.size) (f:Tree→List UInt8) (d:Nat) (l:List Tree) (a:Option Addr) (c:Nat) (bs:List UInt8) (w:World) (hI:IW W0 N b 91 f d l) (hk:KC W0 a l) (hm:l.length≤maxLen) (hB:Below N W0 w) (hp:PB N b d (Lib.byteCells bs) w) (hl:bs.length+((if l.length=0 then [63] else [])++eY (l.map f)).length≤1099511627776) :
 Calls Tryz.prog 123 #[.pointer (some ⟨b,0,none⟩),.slice a l.length c] w fun e w'=>e=.returned (.tuple #[])∧Wr N b bs ((if l.length=0 then [63] else [])++eY (l.map f)) d w w':=by
 have hNw:N≤w.heap.size:=by rw [hN];exact hB.size
 by_cases h0:l.length=0
 ·simp only [h0,if_true] at hl ⊢
  simp only [List.length_append,List.length_cons,List.length_nil] at hl
  have HU:=zm (o8 N b bs d w hp om hNw)
  have HX:=zm (fun (w1:World) (h1:Wr N b bs [63] d w w1)=>qG W0 N b 91 hN f d l a c (bs++[63]) w1 (dP 91 dc) hI hk hm (hB.trans h1.2.1) h1.1 (by simp only [List.length_append,List.length_cons,List.length_nil];omega))
  rw [h0] at HX
  obtain ⟨y,hy⟩:∃ y,y=eY (l.map f):=⟨_,rfl⟩
  rw [←hy] at HX ⊢
  clear hI hk hm hB hp hl hN hy h0
  go_enter Tryz.func123,Tryz.ntmps123
  go_wp2_with fail
  with_reducible refine (zk HU).mono ?_
  rintro e w1 ⟨rfl,h1⟩
  have H1:=zm h1
  have H2:=zm (zk HX w1 h1)
  clear h1
  go_wp2_with fail
  with_reducible refine (zk H2).mono ?_
  rintro e w2 ⟨rfl,h2⟩
  have H3:=zm ((zk H1).trans h2)
  clear h2
  go_wp2
  go_end0
  exact ⟨rfl,zk H3⟩
 ·simp only [h0,if_false,List.nil_append] at hl ⊢
  have HX:=zm (qG W0 N b 91 hN f d l a c bs w (dP 91 dc) hI hk hm hB hp hl)
  obtain ⟨y,hy⟩:∃ y,y=eY (l.map f):=⟨_,rfl⟩
  rw [←hy] at HX ⊢
  have h0i:¬(l.length:Int)=0:=om
  clear hI hk hm hB hp hl hN hy
  go_enter Tryz.func123,Tryz.ntmps123
  go_wp2_with fail
  with_reducible refine (zk HX).mono ?_
  rintro e w2 ⟨rfl,h2⟩
  have H3:=zm h2
  clear h2
  go_wp2
  go_end0
  exact ⟨rfl,zk H3⟩
theorem ye.caseE {W0:World} {N b:Nat} {bs X:List UInt8} {d:Nat} {w wr:World} {g:Nat} {kd:Int} {tx:List UInt8} {nm ps:Int} {ao:Option Addr} {n cp:Nat} {rec:PrJ→Nat→Tree→List UInt8} {l:List Tree} {a:Option Addr} {m c:Nat} (q:List UInt8) (h:Hid (ye W0 N b bs X d w wr g kd tx nm ps ao n cp)) (hq:Hid (RV W0 a m l)) (hJ:Hid (∀ t∈l,JC W0 N b rec .expr d t)) (hqe:q=if l.length=0 then [63] else []) (hl:bs.length+(X.length+(q++eY (l.map (rec .expr d))).length)≤1099511627776) :
 Calls Tryz.prog 123 #[.pointer (some ⟨b,0,none⟩),.slice a m c] wr fun e w'=>e=.returned (.tuple #[])∧Hid (ye W0 N b bs (X++(q++eY (l.map (rec .expr d)))) d w w' g kd tx nm ps ao n cp):=by
 obtain ⟨hk,rfl,hm⟩:=zk hq
 subst hqe
 exact (case_any W0 N b (zk h).2.2.2.2.2 (rec .expr d) d l a c (bs++X) wr (iw_of (fun _ _=>rfl) (zk hJ)) hk hm (zk h).bel (zk h).1.1 (by simp only [List.length_append] at hl ⊢;omega)).mono fun e w' q=>⟨q.1,(zk h).to q.2⟩
theorem take_len (l:List Tree):(l.take (l.length-1)).length=l.length-1:=by rw [List.length_take];omega
theorem clause_step {W0:World} {N b:Nat} (hN:N=W0.heap.size) (digits:Int→List UInt8) (rec:PrJ→Nat→Tree→List UInt8) (d:Nat) (hd:d<1152921504606846976) (t:Tree) (hr:RH W0 N b rec .clause d t) (ho:okJ .clause t):JC W0 N b (ym digits rec) .clause d t:=by
 intro kd tx nm ps ks ao cp e hK bs w hB hp hl
 subst e
 have HR:=zm hr
 clear hr
 by_cases k24:kd=24
 ·subst k24
  have hkk:(Tree.mk 24 tx nm ps ks).kind≠0:=by simp [Tree.kind]
  by_cases h1:tx=[99,97,115,101]
  ·have h1b:(tx==[99,97,115,101])=true:=by rw [h1];rfl
   by_cases hz:ks.length-1=0
   ·have HQE:=zm (show [63]=if (ks.take (ks.length-1)).length=0 then ([63]:List UInt8) else [] by rw [take_len,if_pos hz])
    simp only [ym,sS,sT,Int.reduceEq,reduceIte,et h1,et hz] at hl ⊢
    have HL:=zm hl
    have HV:Hid (PV W0 _ 24 tx nm ps ao ks.length cp):=zm ⟨ks,rfl,rfl,hK⟩
    have HS:=ye.start (bs:=bs) 24 tx nm ps ao ks.length cp hN hB hp
    clear hp hB hK hl hN
    try clear h0
    try clear h1
    try clear h2
    try clear hz
    simp only [JF,JA]
    go_enter Tryz.func109,Tryz.ntmps109
    (go_wp2_with fail;with_reducible refine (ye.tabs HS pl).mono ?_;(try clear cc);clear HS;rintro e wn ⟨rfl,HS⟩;have cc:=ye.cells HS)
    (go_wp2_with fail;(try simp only [ByteArray.mk_append_mk]);with_reducible refine (ye.s HS pl).mono ?_;(try clear cc);clear HS;rintro e wn ⟨⟨v,rfl⟩,HS⟩;have cc:=ye.cells HS)
    (go_wp2_with fail;with_reducible refine (ye.until_ HS HV).mono ?_;(try clear cc);clear HS;rintro e wn ⟨⟨ar,nr,cr,rfl,HR2⟩,HS⟩;have cc:=ye.cells HS)
    (have HU:=(RHk HR .expr (l:=ks.take (ks.length-1)) (fun _=>trivial) (fun _ h=>List.mem_of_mem_take h));go_wp2_with fail;with_reducible refine (ye.caseE [63] HS HR2 HU (zk HQE) pl).mono ?_;clear HU;(try clear cc);clear HS;rintro e wn ⟨rfl,HS⟩;have cc:=ye.cells HS)
    (go_wp2_with fail;with_reducible refine (ye.last HS HV).mono ?_;(try clear cc);clear HS;rintro e wn ⟨⟨kd2,tx2,nm2,ps2,ao2,n2,cp2,rfl,HP⟩,HS⟩;have cc:=ye.cells HS)
    (have HJ:=((zk (RHp HR .clauseStmts hkk (ks.length-1) trivial)).pv HP);simp only [JF,JA] at HJ;go_wp2_with fail;with_reducible refine (ye.call HS HJ pl).mono ?_;(try clear cc);clear HS HJ;rintro e wn ⟨rfl,HS⟩;have cc:=ye.cells HS)
    exact pe
   ·have HQE:=zm (show []=if (ks.take (ks.length-1)).length=0 then ([63]:List UInt8) else [] by rw [take_len,if_neg hz])
    simp only [ym,sS,sT,Int.reduceEq,reduceIte,et h1,ef hz] at hl ⊢
    have HL:=zm hl
    have HV:Hid (PV W0 _ 24 tx nm ps ao ks.length cp):=zm ⟨ks,rfl,rfl,hK⟩
    have HS:=ye.start (bs:=bs) 24 tx nm ps ao ks.length cp hN hB hp
    clear hp hB hK hl hN
    try clear h0
    try clear h1
    try clear h2
    try clear hz
    simp only [JF,JA]
    go_enter Tryz.func109,Tryz.ntmps109
    (go_wp2_with fail;with_reducible refine (ye.tabs HS pl).mono ?_;(try clear cc);clear HS;rintro e wn ⟨rfl,HS⟩;have cc:=ye.cells HS)
    (go_wp2_with fail;(try simp only [ByteArray.mk_append_mk]);with_reducible refine (ye.s HS pl).mono ?_;(try clear cc);clear HS;rintro e wn ⟨⟨v,rfl⟩,HS⟩;have cc:=ye.cells HS)
    (go_wp2_with fail;with_reducible refine (ye.until_ HS HV).mono ?_;(try clear cc);clear HS;rintro e wn ⟨⟨ar,nr,cr,rfl,HR2⟩,HS⟩;have cc:=ye.cells HS)
    (have HU:=(RHk HR .expr (l:=ks.take (ks.length-1)) (fun _=>trivial) (fun _ h=>List.mem_of_mem_take h));go_wp2_with fail;with_reducible refine (ye.caseE [] HS HR2 HU (zk HQE) pl).mono ?_;clear HU;(try clear cc);clear HS;rintro e wn ⟨rfl,HS⟩;have cc:=ye.cells HS)
    (go_wp2_with fail;with_reducible refine (ye.last HS HV).mono ?_;(try clear cc);clear HS;rintro e wn ⟨⟨kd2,tx2,nm2,ps2,ao2,n2,cp2,rfl,HP⟩,HS⟩;have cc:=ye.cells HS)
    (have HJ:=((zk (RHp HR .clauseStmts hkk (ks.length-1) trivial)).pv HP);simp only [JF,JA] at HJ;go_wp2_with fail;with_reducible refine (ye.call HS HJ pl).mono ?_;(try clear cc);clear HS HJ;rintro e wn ⟨rfl,HS⟩;have cc:=ye.cells HS)
    exact pe
  ·have h1b:(tx==[99,97,115,101])=false:=by simpa using h1
   by_cases h2:tx=[100,101,102,97,117,108,116]
   ·have h2b:(tx==[100,101,102,97,117,108,116])=true:=by rw [h2];rfl
    simp only [ym,sS,sT,Int.reduceEq,reduceIte,ef h1,et h2] at hl ⊢
    have HL:=zm hl
    have HV:Hid (PV W0 _ 24 tx nm ps ao ks.length cp):=zm ⟨ks,rfl,rfl,hK⟩
    have HS:=ye.start (bs:=bs) 24 tx nm ps ao ks.length cp hN hB hp
    clear hp hB hK hl hN
    try clear h0
    try clear h1
    try clear h2
    try clear hz
    simp only [JF,JA]
    go_enter Tryz.func109,Tryz.ntmps109
    (go_wp2_with fail;with_reducible refine (ye.tabs HS pl).mono ?_;(try clear cc);clear HS;rintro e wn ⟨rfl,HS⟩;have cc:=ye.cells HS)
    (go_wp2_with fail;(try simp only [ByteArray.mk_append_mk]);with_reducible refine (ye.s HS pl).mono ?_;(try clear cc);clear HS;rintro e wn ⟨⟨v,rfl⟩,HS⟩;have cc:=ye.cells HS)
    (go_wp2_with fail;with_reducible refine (ye.last HS HV).mono ?_;(try clear cc);clear HS;rintro e wn ⟨⟨kd2,tx2,nm2,ps2,ao2,n2,cp2,rfl,HP⟩,HS⟩;have cc:=ye.cells HS)
    (have HJ:=((zk (RHp HR .clauseStmts hkk (ks.length-1) trivial)).pv HP);simp only [JF,JA] at HJ;go_wp2_with fail;with_reducible refine (ye.call HS HJ pl).mono ?_;(try clear cc);clear HS HJ;rintro e wn ⟨rfl,HS⟩;have cc:=ye.cells HS)
    exact pe
   ·have h2b:(tx==[100,101,102,97,117,108,116])=false:=by simpa using h2
    simp only [ym,sS,sT,Int.reduceEq,reduceIte,ef h1,ef h2] at hl ⊢
    have HL:=zm hl
    have HV:Hid (PV W0 _ 24 tx nm ps ao ks.length cp):=zm ⟨ks,rfl,rfl,hK⟩
    have HS:=ye.start (bs:=bs) 24 tx nm ps ao ks.length cp hN hB hp
    clear hp hB hK hl hN
    try clear h0
    try clear h1
    try clear h2
    try clear hz
    simp only [JF,JA]
    go_enter Tryz.func109,Tryz.ntmps109
    (go_wp2_with fail;with_reducible refine (ye.unk HS pl).mono ?_;(try clear cc);clear HS;rintro e wn ⟨rfl,HS⟩;have cc:=ye.cells HS)
    exact pe
 ·skip
  simp only [ym,sS,sT,Int.reduceEq,reduceIte,k24] at hl ⊢
  have HL:=zm hl
  have HV:Hid (PV W0 _ kd tx nm ps ao ks.length cp):=zm ⟨ks,rfl,rfl,hK⟩
  have HS:=ye.start (bs:=bs) kd tx nm ps ao ks.length cp hN hB hp
  clear hp hB hK hl hN
  try clear h0
  try clear h1
  try clear h2
  try clear hz
  simp only [JF,JA]
  go_enter Tryz.func109,Tryz.ntmps109
  (go_wp2_with fail;with_reducible refine (ye.unk HS pl).mono ?_;(try clear cc);clear HS;rintro e wn ⟨rfl,HS⟩;have cc:=ye.cells HS)
  exact pe
end Go.Proofs.YtgbjpnnockoomaaGreatDoor.Pp
