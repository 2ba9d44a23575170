import Derived.Test.YtgbjpnnockoomaaGreatDoorPb6
set_option linter.unusedVariables false
set_option linter.unusedSimpArgs false
set_option maxHeartbeats 1000000
set_option maxRecDepth 100000
namespace Go.Proofs.YtgbjpnnockoomaaGreatDoor.Px
open Lx
def sz:Tree→Nat
 | .mk k _ _ _ l=>(if k=0 then 1 else 2)+(l.map sz).sum
theorem nX (k:Int) (b:List UInt8) (c p:Int) (l:List Tree):sz (.mk k b c p l)=(if k=0 then 1 else 2)+(l.map sz).sum:=by rw [sz]
theorem oJ {x:Nat} : ∀ {l:List Nat},x∈l→x≤l.sum
 | a::r,h=>by
   simp only [List.sum_cons]
   rcases List.mem_cons.1 h with rfl | h
   ·omega
   ·have:=oJ h;omega
theorem qZ {t s:Tree} (h:s∈t.kids):sz s<sz t:=by
 cases t with
 | mk k b c p l=>
   rw [nX]
   have:=oJ (List.mem_map_of_mem (f:=sz) (show s∈l from h))
   split <;> omega
theorem sz_part {t:Tree} (h:t.kind≠0) (i:Nat):sz (yM t i)<sz t:=by
 unfold yM
 rw [List.getD_eq_getElem?_getD]
 cases e:t.kids[i]? with
 | some x=>exact qZ (List.mem_of_getElem? e)
 | none=>
   cases t with
   | mk k b c p l=>
     have hk:k≠0:=h
     rw [nX,if_neg hk]
     simp only [Option.getD_none,dZ,nX,if_true,List.map_nil,List.sum_nil]
     omega
def rnk:PrJ→Nat
 | .stmt=>2 | .exprStmt=>2 | .forStmt=>1 | .simple=>1 | .expr=>1 | .comm=>1 | .decl=>1 | .field=>1 | .param=>1 | _=>0
theorem kK (j:PrJ):rnk j≤2:=by cases j <;> simp [rnk]
def nee (j:PrJ) (t:Tree):Nat:=8*sz t+rnk j
theorem oL {t:Tree} (h:t.kind≠0) (i:Nat) (j j':PrJ):nee j' (yM t i)<nee j t:=by
 have:=sz_part h i;have:=kK j';unfold nee;omega
theorem qJ {t s:Tree} (h:s∈t.kids) (j j':PrJ):nee j' s<nee j t:=by
 have:=qZ h;have:=kK j';unfold nee;omega
theorem tN {t:Tree} {j j':PrJ} (h:rnk j'<rnk j):nee j' t<nee j t:=by unfold nee;omega
def Sub (s t:Tree):Prop:=s=t∨s∈t.kids∨s=dZ
theorem qY (t:Tree) (i:Nat):Sub (yM t i) t:=by
 unfold yM
 rw [List.getD_eq_getElem?_getD]
 cases e:t.kids[i]? with
 | some x=>exact .inr (.inl (List.mem_of_getElem? e))
 | none=>exact .inr (.inr rfl)
def okJ (j:PrJ) (t:Tree):Prop:=match j with
 | .both _ | .jump _ | .ifStmt | .forStmt | .forParts | .switchStmt | .selectStmt | .receiving | .typed | .function | .builtin=>t.kind≠0
 | _=>True
end Go.Proofs.YtgbjpnnockoomaaGreatDoor.Px
namespace Go.Proofs.YtgbjpnnockoomaaGreatDoor.Pp
open Go.RowKit Lx Px
def JF:PrJ→Nat
 | .expr=>91 | .stmt=>86 | .block=>64 | .wtype=>60 | .typed=>37 | .field=>36 | .param=>84 | .params=>62 | .function=>38 | .decl=>23 | .simple=>97 | .both _=>102 | .exprStmt=>111 | .initial=>104 | .builtin=>103 | .pointed=>122 | .primary=>106
 | .ifStmt=>92 | .forStmt=>93 | .forParts=>107 | .switchStmt=>94 | .selectStmt=>95 | .clause=>109 | .comm=>110 | .receiving=>125 | .clauseStmts=>124 | .jump _=>96 | .file=>12
def JA (b:Nat):PrJ→Value→Array Value
 | .both s,nv=>#[.pointer (some ⟨b,0,none⟩),nv,.string ⟨s.toArray⟩]
 | .jump s,nv=>#[.pointer (some ⟨b,0,none⟩),.string ⟨s.toArray⟩,nv]
 | _,nv=>#[.pointer (some ⟨b,0,none⟩),nv]
def JG (W0:World) (N b F:Nat) (args:Array Value) (y:List UInt8) (d:Nat):Prop:=∀ (bs:List UInt8) (w:World),Below N W0 w→PB N b d (Lib.byteCells bs) w→bs.length+y.length≤1099511627776→
 Calls Tryz.prog F args w fun e w'=>e=.returned (.tuple #[])∧Wr N b bs y d w w'
def JC (W0:World) (N b:Nat) (rec:PrJ→Nat→Tree→List UInt8) (j:PrJ) (d:Nat) (t:Tree):Prop:=
 ∀ (kd:Int) (tx:List UInt8) (nm ps:Int) (ks:List Tree) (ao:Option Addr) (cp:Nat),t=.mk kd tx nm ps ks→Jj.aO W0 (.slice ao ks.length cp) ks→JG W0 N b (JF j) (JA b j (nA kd tx nm ps ao ks.length cp)) (rec j d t) d
def ye (W0:World) (N b:Nat) (bs X:List UInt8) (d:Nat) (w wr:World) (g:Nat) (kd:Int) (tx:List UInt8) (nm ps:Int) (ao:Option Addr) (n cp:Nat):Prop:=
 Wr N b bs X d w wr∧wr.heap[g]?=some (nO kd tx nm ps ao n cp)∧g≠b∧N≤w.heap.size∧Below N W0 w∧N=W0.heap.size
section
variable {W0 : World} {N b : Nat} {bs X : List UInt8} {d : Nat} {w wr : World} {g : Nat} {kd : Int} {tx : List UInt8} {nm ps : Int} {ao : Option Addr} {n cp : Nat}
theorem ye.start (kd:Int) (tx:List UInt8) (nm ps:Int) (ao:Option Addr) (n cp:Nat) (hN:N=W0.heap.size) (hB:Below N W0 w) (hp:PB N b d (Lib.byteCells bs) w):Hid (ye W0 N b bs [] d w (w.alloc (nO kd tx nm ps ao n cp)) w.heap.size kd tx nm ps ao n cp):=by
 have hNw:N≤w.heap.size:=by rw [hN];exact hB.size
 have:=hp.lt
 exact zm ⟨(Wr.nil hp (Below.refl _ _) (Lib.OthersKept.refl _ _ _)).quiet (zr (zo _ _) _) hNw,yW _ _ rfl,om,hNw,hB,hN⟩
theorem ye.to {wr':World} {y:List UInt8} (h:ye W0 N b bs X d w wr g kd tx nm ps ao n cp) (k:Wr N b (bs++X) y d wr wr'):Hid (ye W0 N b bs (X++y) d w wr' g kd tx nm ps ao n cp):=
 zm ⟨h.1.trans k,k.blk h.2.1 h.2.2.1 dc,h.2.2⟩
theorem ye.qu {wr':World} (h:ye W0 N b bs X d w wr g kd tx nm ps ao n cp) (k:wr.grownBy wr' none):Hid (ye W0 N b bs X d w wr' g kd tx nm ps ao n cp):=
 zm ⟨h.1.quiet k h.2.2.2.1,(k.block g (Array.getElem?_eq_some_iff.1 h.2.1).1 zK).trans h.2.1,h.2.2⟩
theorem ye.big (h:ye W0 N b bs X d w wr g kd tx nm ps ao n cp):N≤wr.heap.size:=by have:=h.1.size;have:=h.2.2.2.1;omega
theorem ye.bel (h:ye W0 N b bs X d w wr g kd tx nm ps ao n cp):Below N W0 wr:=h.2.2.2.2.1.trans h.1.2.1
theorem ye.s {s:List UInt8} (h:Hid (ye W0 N b bs X d w wr g kd tx nm ps ao n cp)) (hl:bs.length+(X.length+s.length)≤1099511627776) :
 Calls Tryz.prog 34 #[.pointer (some ⟨b,0,none⟩),.string ⟨s.toArray⟩] wr fun e w'=>(∃ v,e=.returned v)∧Hid (ye W0 N b bs (X++s) d w w' g kd tx nm ps ao n cp):=
 (ws N b (bs++X) s d wr (zk h).1.1 zi (zk h).big).mono fun e w' q=>⟨q.1,(zk h).to q.2⟩
theorem ye.byte (c:UInt8) {k:Int} (h:Hid (ye W0 N b bs X d w wr g kd tx nm ps ao n cp)) (hk:(c.toNat:Int)=k) (hl:bs.length+(X.length+1)≤1099511627776) :
 Calls Tryz.prog 24 #[.pointer (some ⟨b,0,none⟩),.int .u8 k] wr fun e w'=>(∃ v,e=.returned v)∧Hid (ye W0 N b bs (X++[c]) d w w' g kd tx nm ps ao n cp):=
 (wbk N b (bs++X) c k hk d wr (zk h).1.1 zi (zk h).big).mono fun e w' q=>⟨q.1,(zk h).to q.2⟩
theorem ye.unk (h:Hid (ye W0 N b bs X d w wr g kd tx nm ps ao n cp)) (hl:bs.length+(X.length+1)≤1099511627776) :
 Calls Tryz.prog 22 #[.pointer (some ⟨b,0,none⟩)] wr fun e w'=>e=.returned (.tuple #[])∧Hid (ye W0 N b bs (X++[63]) d w w' g kd tx nm ps ao n cp):=
 (o8 N b (bs++X) d wr (zk h).1.1 zi (zk h).big).mono fun e w' q=>⟨q.1,(zk h).to q.2⟩
theorem ye.tabs (h:Hid (ye W0 N b bs X d w wr g kd tx nm ps ao n cp)) (hl:bs.length+(X.length+(bV d).length)≤1099511627776) :
 Calls Tryz.prog 59 #[.pointer (some ⟨b,0,none⟩)] wr fun e w'=>e=.returned (.tuple #[])∧Hid (ye W0 N b bs (X++bV d) d w w' g kd tx nm ps ao n cp):=
 (rf N b (bs++X) d wr (zk h).1.1 (by rw [List.length_append];simp [bV] at hl;omega) (zk h).big).mono fun e w' q=>⟨q.1,(zk h).to q.2⟩
theorem ye.call {F:Nat} {args:Array Value} {y:List UInt8} (h:Hid (ye W0 N b bs X d w wr g kd tx nm ps ao n cp)) (hJ:Hid (JG W0 N b F args y d)) (hl:bs.length+(X.length+y.length)≤1099511627776) :
 Calls Tryz.prog F args wr fun e w'=>e=.returned (.tuple #[])∧Hid (ye W0 N b bs (X++y) d w w' g kd tx nm ps ao n cp):=
 (zk hJ (bs++X) wr (zk h).bel (zk h).1.1 zi).mono fun e w' q=>⟨q.1,(zk h).to q.2⟩
theorem ye.cells (h:Hid (ye W0 N b bs X d w wr g kd tx nm ps ao n cp)):wr.cell? ⟨g,0,none⟩=some (.int .i64 kd)∧wr.cell? ⟨g,1,none⟩=some (.string ⟨tx.toArray⟩)∧wr.cell? ⟨g,2,none⟩=some (.int .i64 nm)∧wr.cell? ⟨g,3,none⟩=some (.int .i64 ps)∧wr.cell? ⟨g,4,none⟩=some (.string ⟨#[]⟩)∧wr.cell? ⟨g,5,none⟩=some (.int .i64 0)∧wr.cell? ⟨g,6,none⟩=some (.slice ao n cp):=gV (zk h).2.1
theorem ye.wrote (h:Hid (ye W0 N b bs X d w wr g kd tx nm ps ao n cp)):Wr N b bs X d w wr:=(zk h).1
def PV (W0:World) (t:Tree) (kd:Int) (tx:List UInt8) (nm ps:Int) (ao:Option Addr) (n cp:Nat):Prop:=∃ ks,t=.mk kd tx nm ps ks∧n=ks.length∧Jj.aO W0 (.slice ao n cp) ks
theorem ye.part {kids:List Tree} (i:Nat) {k:Int} (h:Hid (ye W0 N b bs X d w wr g kd tx nm ps ao n cp)) (hq:Hid (PV W0 (.mk kd tx nm ps kids) kd tx nm ps ao n cp)) (hk:(i:Int)=k) :
 Calls Tryz.prog 61 #[nA kd tx nm ps ao n cp,.int .i64 k] wr fun e w'=>(∃ kd2 tx2 nm2 ps2 ao2 n2 cp2,e=.returned (nA kd2 tx2 nm2 ps2 ao2 n2 cp2)∧Hid (PV W0 (yM (.mk kd tx nm ps kids) i) kd2 tx2 nm2 ps2 ao2 n2 cp2))∧Hid (ye W0 N b bs X d w w' g kd tx nm ps ao n cp):=by
 obtain ⟨ks,e,rfl,hK⟩:=zk hq
 simp only [Tree.mk.injEq,true_and] at e
 subst e hk
 refine (lM W0 wr (grown_of (zk h).2.2.2.2.2 (zk h).bel) kd tx nm ps kids ao cp i hK).mono ?_
 rintro e w' ⟨⟨v,rfl,kd2,tx2,nm2,ps2,ks2,ao2,cp2,rfl,h3,h4⟩,hg⟩
 exact ⟨⟨_,_,_,_,_,_,_,rfl,zm ⟨ks2,h3,rfl,h4⟩⟩,(zk h).qu hg⟩
theorem JC.pv {rec:PrJ→Nat→Tree→List UInt8} {j:PrJ} {t:Tree} (h:JC W0 N b rec j d t) (hq:Hid (PV W0 t kd tx nm ps ao n cp)):Hid (JG W0 N b (JF j) (JA b j (nA kd tx nm ps ao n cp)) (rec j d t) d):=by
 obtain ⟨ks,e,rfl,hK⟩:=zk hq
 exact zm (h kd tx nm ps ks ao cp e hK)
end
theorem pl {p:Prop} (h:p:=by (have h2:=zk HL;simp only [List.length_append,List.length_cons,List.length_nil] at h2 ⊢;omega)):p:=h
theorem pe {p:Prop} (h:p:=by (go_wp2;(first | go_end0 | ((try simp only [Exit.inBlock,Exit.then]);refine bodyPost_ret (results_none rfl _ _ _) rfl ?_));exact ⟨rfl,by simpa only [List.nil_append,List.append_assoc,List.cons_append] using ye.wrote HS⟩)):p:=h
theorem sS (k n p:Int) (x:List UInt8) (l:List Tree):(Tree.mk k x n p l).kind=k∧(Tree.mk k x n p l).text=x∧(Tree.mk k x n p l).kids=l∧(Tree.mk k x n p l).num=n:=⟨rfl,rfl,rfl,rfl⟩
theorem sT:(∀ (h:Decidable True) (a b:List UInt8),@ite _ True h a b=a)∧(∀ (h:Decidable False) (a b:List UInt8),@ite _ False h a b=b)∧(∀ p:Prop,(p∨p)=p)∧(∀ p:Prop,(p∨False)=p)∧(∀ p:Prop,(False∨p)=p)∧(∀ p:Prop,(p∨True)=True)∧(∀ p:Prop,(True∨p)=True)∧(∀ p:Prop,(False∧p)=False)∧(∀ p:Prop,(True∧p)=p)∧(∀ p:Prop,(p∧True)=p)∧(∀ p:Prop,(p∧False)=False)∧(∀ l:List UInt8,l++[]=l)∧(∀ l:List UInt8,[]++l=l)∧(∀ a b:Int,(a≠b)=¬a=b)∧(¬True)=False∧(¬False)=True:=by simp
abbrev RH (W0:World) (N b:Nat) (rec:PrJ→Nat→Tree→List UInt8) (j:PrJ) (d:Nat) (t:Tree):Prop:=∀ (j':PrJ) (d':Nat) (t':Tree),nee j' t'<nee j t→okJ j' t'→(d'=d∨d'=d+1∧sz t'<sz t)→Sub t' t→JC W0 N b rec j' d' t'
theorem both_step {W0:World} {N b:Nat} (hN:N=W0.heap.size) (digits:Int→List UInt8) (rec:PrJ→Nat→Tree→List UInt8) (s:List UInt8) (d:Nat) (t:Tree) (hr:RH W0 N b rec (.both s) d t) (ho:okJ (.both s) t):JC W0 N b (ym digits rec) (.both s) d t:=by
 intro kd tx nm ps ks ao cp rfl hK bs w hB hp hl
 have h0:=hr .expr d (yM (.mk kd tx nm ps ks) 0) (oL ho 0 _ _) trivial (.inl rfl) (qY _ _)
 have h1:=hr .expr d (yM (.mk kd tx nm ps ks) 1) (oL ho 1 _ _) trivial (.inl rfl) (qY _ _)
 simp only [ym] at hl ⊢
 have HV:Hid (PV W0 (.mk kd tx nm ps ks) kd tx nm ps ao ks.length cp):=zm ⟨ks,rfl,rfl,hK⟩
 have HS:=ye.start (bs:=bs) kd tx nm ps ao ks.length cp hN hB hp
 have H0:=zm h0
 have H1:=zm h1
 have HL:=zm hl
 have hs:s.length≤1099511627776:=pl
 have hs1:¬9223372036854775807<1+s.length:=om
 have hs2:¬9223372036854775807<1+s.length+1:=om
 clear hp hB hK hl hr h0 h1
 simp only [JF,JA]
 go_enter Tryz.func102,Tryz.ntmps102
 (go_wp2_with fail;with_reducible refine (ye.part 0 HS HV dc).mono ?_;(try clear cc);clear HS;rintro e wn ⟨⟨kd2,tx2,nm2,ps2,ao2,n2,cp2,rfl,HP⟩,HS⟩;have cc:=ye.cells HS)
 (have HJ:=((zk H0).pv HP);simp only [JF,JA] at HJ;go_wp2_with fail;with_reducible refine (ye.call HS HJ pl).mono ?_;(try clear cc);clear HS HJ;rintro e wn ⟨rfl,HS⟩;have cc:=ye.cells HS)
 (go_wp2_with fail;(try simp only [ByteArray.mk_append_mk]);with_reducible refine (ye.s HS pl).mono ?_;(try clear cc);clear HS;rintro e wn ⟨⟨v,rfl⟩,HS⟩;have cc:=ye.cells HS)
 (go_wp2_with fail;with_reducible refine (ye.part 1 HS HV dc).mono ?_;(try clear cc);clear HS;rintro e wn ⟨⟨kd2,tx2,nm2,ps2,ao2,n2,cp2,rfl,HP⟩,HS⟩;have cc:=ye.cells HS)
 (have HJ:=((zk H1).pv HP);simp only [JF,JA] at HJ;go_wp2_with fail;with_reducible refine (ye.call HS HJ pl).mono ?_;(try clear cc);clear HS HJ;rintro e wn ⟨rfl,HS⟩;have cc:=ye.cells HS)
 exact pe
open Go.RowKit Lx Px
theorem dP (F:Nat) (h:F∈[36,60,64,84,86,91,104,109,110]):Ent F:=by
 simp only [List.mem_cons,List.not_mem_nil,or_false] at h
 rcases h with rfl | rfl | rfl | rfl | rfl | rfl | rfl | rfl | rfl <;> intro args w <;> kernel_rfl
theorem qm {w:World} {ao:Option Addr} {n cp:Nat} {l:List Tree} (h:Jj.aO w (.slice ao n cp) l):n≤cp:=by
 obtain ⟨cs,h1,h3⟩:=h
 obtain ⟨hlen,hn | ⟨g,cap,cur,e1,hlo,hb,hle,hcap,hsz,htk⟩⟩:=h1
 ·have:=hn.1;simp only [Value.slice.injEq] at this;omega
 ·simp only [Value.slice.injEq] at e1;omega
def RV (W0:World) (a:Option Addr) (n:Nat) (l:List Tree):Prop:=KC W0 a l∧n=l.length∧l.length≤maxLen
section
variable {W0 : World} {N b : Nat} {bs X : List UInt8} {d : Nat} {w wr : World} {g : Nat} {kd : Int} {tx : List UInt8} {nm ps : Int} {ao : Option Addr} {n cp : Nat} {rec : PrJ → Nat → Tree → List UInt8}
def di (j:PrJ):Prop:=∀ b nv,JA b j nv=#[.pointer (some ⟨b,0,none⟩),nv]
theorem iw_of {j:PrJ} (hj:di j) {l:List Tree} (h:∀ t∈l,JC W0 N b rec j d t):IW W0 N b (JF j) (rec j d) d l:=by
 intro kd tx nm ps ks ao cp bs w hm hK hB hp hl
 have:=h _ hm kd tx nm ps ks ao cp rfl hK bs w hB hp hl
 rwa [hj] at this
theorem PV.rv {kids:List Tree} (hq:Hid (PV W0 (.mk kd tx nm ps kids) kd tx nm ps ao n cp)):Hid (RV W0 ao n kids):=by
 obtain ⟨ks,e,rfl,hK⟩:=zk hq
 simp only [Tree.mk.injEq,true_and] at e
 subst e
 exact zm ⟨KC.of hK,rfl,hK.few⟩
theorem ye.unl (j:PrJ) {F:Nat} {ah:List UInt8} {t:Tree} {kd2:Int} {tx2:List UInt8} {nm2 ps2:Int} {ao2:Option Addr} {n2 cp2:Nat} (h:Hid (ye W0 N b bs X d w wr g kd tx nm ps ao n cp)) (hq:Hid (PV W0 t kd2 tx2 nm2 ps2 ao2 n2 cp2)) (hj:di j) (hF:JF j=F) (hE:Ent F) (hJ:Hid (JC W0 N b rec j d t)) (hl:bs.length+(X.length+(gX ah (rec j d) t).length)≤1099511627776) :
 Calls Tryz.prog 63 #[.pointer (some ⟨b,0,none⟩),.string ⟨ah.toArray⟩,nA kd2 tx2 nm2 ps2 ao2 n2 cp2,FV F b] wr fun e w'=>e=.returned (.tuple #[])∧Hid (ye W0 N b bs (X++gX ah (rec j d) t) d w w' g kd tx nm ps ao n cp):=by
 subst hF
 obtain ⟨ks,rfl,rfl,hK⟩:=zk hq
 refine (unl_any W0 N b (JF j) (zk h).2.2.2.2.2 (rec j d (.mk kd2 tx2 nm2 ps2 ks)) ah d kd2 tx2 nm2 ps2 ks.length ao2 cp2 (bs++X) wr hE (fun _ bs2 w2 hB hp hl=>?_) (zk h).bel (zk h).1.1 (by rw [List.length_append];unfold gX Tree.kind at hl;dsimp only at hl;omega)).mono fun e w' q=>⟨q.1,(zk h).to q.2⟩
 have:=zk hJ kd2 tx2 nm2 ps2 ks ao2 cp2 rfl hK bs2 w2 hB hp hl
 rwa [hj] at this
theorem ye.list (j:PrJ) {F:Nat} {l:List Tree} {a:Option Addr} {m c:Nat} (h:Hid (ye W0 N b bs X d w wr g kd tx nm ps ao n cp)) (hq:Hid (RV W0 a m l)) (hj:di j) (hF:JF j=F) (hE:Ent F) (hJ:Hid (∀ t∈l,JC W0 N b rec j d t)) (hl:bs.length+(X.length+(eY (l.map (rec j d))).length)≤1099511627776) :
 Calls Tryz.prog 81 #[.pointer (some ⟨b,0,none⟩),.slice a m c,FV F b] wr fun e w'=>e=.returned (.tuple #[])∧Hid (ye W0 N b bs (X++eY (l.map (rec j d))) d w w' g kd tx nm ps ao n cp):=by
 subst hF
 obtain ⟨hk,rfl,hm⟩:=zk hq
 exact (qG W0 N b (JF j) (zk h).2.2.2.2.2 (rec j d) d l a c (bs++X) wr hE (iw_of hj (zk hJ)) hk hm (zk h).bel (zk h).1.1 zi).mono fun e w' q=>⟨q.1,(zk h).to q.2⟩
theorem ye.lines (j:PrJ) {F:Nat} {l:List Tree} {a:Option Addr} {m c:Nat} (h:Hid (ye W0 N b bs X d w wr g kd tx nm ps ao n cp)) (hq:Hid (RV W0 a m l)) (hj:di j) (hF:JF j=F) (hE:Ent F) (hJ:Hid (∀ t∈l,JC W0 N b rec j (d+1) t)) (hd:d<1152921504606846976) (hl:bs.length+(X.length+(linesT (rec j (d+1)) d l).length)≤1099511627776) :
 Calls Tryz.prog 35 #[.pointer (some ⟨b,0,none⟩),.slice a m c,FV F b] wr fun e w'=>e=.returned (.tuple #[])∧Hid (ye W0 N b bs (X++linesT (rec j (d+1)) d l) d w w' g kd tx nm ps ao n cp):=by
 subst hF
 obtain ⟨hk,rfl,hm⟩:=zk hq
 exact (lines_any W0 N b (JF j) (zk h).2.2.2.2.2 (rec j (d+1)) d hd l a c (bs++X) wr hE (iw_of hj (zk hJ)) hk hm (zk h).bel (zk h).1.1 zi).mono fun e w' q=>⟨q.1,(zk h).to q.2⟩
theorem ye.clauses (j:PrJ) {F:Nat} {l:List Tree} {a:Option Addr} {m c:Nat} (h:Hid (ye W0 N b bs X d w wr g kd tx nm ps ao n cp)) (hq:Hid (RV W0 a m l)) (hj:di j) (hF:JF j=F) (hE:Ent F) (hJ:Hid (∀ t∈l,JC W0 N b rec j d t)) (hl:bs.length+(X.length+([32,123,10]++l.flatMap (rec j d)++bV d++[125]).length)≤1099511627776) :
 Calls Tryz.prog 108 #[.pointer (some ⟨b,0,none⟩),.slice a m c,FV F b] wr fun e w'=>e=.returned (.tuple #[])∧Hid (ye W0 N b bs (X++([32,123,10]++l.flatMap (rec j d)++bV d++[125])) d w w' g kd tx nm ps ao n cp):=by
 subst hF
 obtain ⟨hk,rfl,hm⟩:=zk hq
 exact (clauses_any W0 N b (JF j) (zk h).2.2.2.2.2 (rec j d) d l a c (bs++X) wr hE (iw_of hj (zk hJ)) hk hm (zk h).bel (zk h).1.1 (by simp only [List.length_append] at hl ⊢;omega)).mono fun e w' q=>⟨q.1,(zk h).to q.2⟩
theorem ye.last {kids:List Tree} (h:Hid (ye W0 N b bs X d w wr g kd tx nm ps ao n cp)) (hq:Hid (PV W0 (.mk kd tx nm ps kids) kd tx nm ps ao n cp)) :
 Calls Tryz.prog 83 #[nA kd tx nm ps ao n cp] wr fun e w'=>(∃ kd2 tx2 nm2 ps2 ao2 n2 cp2,e=.returned (nA kd2 tx2 nm2 ps2 ao2 n2 cp2)∧Hid (PV W0 (yM (.mk kd tx nm ps kids) (kids.length-1)) kd2 tx2 nm2 ps2 ao2 n2 cp2))∧Hid (ye W0 N b bs X d w w' g kd tx nm ps ao n cp):=by
 obtain ⟨ks,e,rfl,hK⟩:=zk hq
 simp only [Tree.mk.injEq,true_and] at e
 subst e
 refine (last_any W0 wr (grown_of (zk h).2.2.2.2.2 (zk h).bel) kd tx nm ps kids ao cp hK).mono ?_
 rintro e w' ⟨⟨v,rfl,kd2,tx2,nm2,ps2,ks2,ao2,cp2,rfl,h3,h4⟩,hg⟩
 exact ⟨⟨_,_,_,_,_,_,_,rfl,zm ⟨ks2,h3,rfl,h4⟩⟩,(zk h).qu hg⟩
theorem ye.until_ {kids:List Tree} (h:Hid (ye W0 N b bs X d w wr g kd tx nm ps ao n cp)) (hq:Hid (PV W0 (.mk kd tx nm ps kids) kd tx nm ps ao n cp)) :
 Calls Tryz.prog 82 #[nA kd tx nm ps ao n cp] wr fun e w'=>(∃ a m c,e=.returned (.slice a m c)∧Hid (RV W0 a m (kids.take (kids.length-1))))∧Hid (ye W0 N b bs X d w w' g kd tx nm ps ao n cp):=by
 obtain ⟨ks,e,rfl,hK⟩:=zk hq
 simp only [Tree.mk.injEq,true_and] at e
 subst e
 refine (until_any W0 wr kd tx nm ps kids ao cp hK (qm hK)).mono ?_
 rintro e w' ⟨⟨a,c,rfl,h3,h4⟩,hg⟩
 exact ⟨⟨_,_,_,rfl,zm ⟨h3,rfl,h4⟩⟩,(zk h).qu hg⟩
theorem ye.from_ {kids:List Tree} (h:Hid (ye W0 N b bs X d w wr g kd tx nm ps ao n cp)) (hq:Hid (PV W0 (.mk kd tx nm ps kids) kd tx nm ps ao n cp)) :
 Calls Tryz.prog 105 #[nA kd tx nm ps ao n cp,.int .i64 1] wr fun e w'=>(∃ a m c,e=.returned (.slice a m c)∧Hid (RV W0 a m (kids.drop 1)))∧Hid (ye W0 N b bs X d w w' g kd tx nm ps ao n cp):=by
 obtain ⟨ks,e,rfl,hK⟩:=zk hq
 simp only [Tree.mk.injEq,true_and] at e
 subst e
 refine (from_any W0 wr kd tx nm ps kids ao cp hK (qm hK)).mono ?_
 rintro e w' ⟨⟨a,c,rfl,h3,h4⟩,hg⟩
 exact ⟨⟨_,_,_,rfl,zm ⟨h3,rfl,h4⟩⟩,(zk h).qu hg⟩
theorem ye.isNone {t:Tree} {kd2:Int} {tx2:List UInt8} {nm2 ps2:Int} {ao2:Option Addr} {n2 cp2:Nat} (h:Hid (ye W0 N b bs X d w wr g kd tx nm ps ao n cp)) (hq:Hid (PV W0 t kd2 tx2 nm2 ps2 ao2 n2 cp2)) :
 Calls Tryz.prog 85 #[nA kd2 tx2 nm2 ps2 ao2 n2 cp2] wr fun e w'=>e=.returned (.bool (t.kind==8))∧Hid (ye W0 N b bs X d w w' g kd tx nm ps ao n cp):=by
 obtain ⟨ks,rfl,rfl,hK⟩:=zk hq
 exact (qE wr kd2 tx2 nm2 ps2 ks.length ao2 cp2).mono fun e w' q=>⟨q.1,(zk h).qu q.2⟩
theorem ye.dr (h:Hid (ye W0 N b bs X d w wr g kd tx nm ps ao n cp)):Hid (ye W0 N b bs X d w wr.drew g kd tx nm ps ao n cp):=(zk h).qu (zz (zo _ _))
end
end Go.Proofs.YtgbjpnnockoomaaGreatDoor.Pp
