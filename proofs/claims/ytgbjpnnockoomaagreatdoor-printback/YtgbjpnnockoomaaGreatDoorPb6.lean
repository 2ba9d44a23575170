import Derived.Test.YtgbjpnnockoomaaGreatDoorPb5
set_option linter.unusedVariables false
set_option linter.unusedSimpArgs false
set_option maxHeartbeats 2000000
set_option maxRecDepth 100000
namespace Go.Proofs.YtgbjpnnockoomaaGreatDoor.Pp
open Go.RowKit Lx Px
def J1 (W0:World) (N b F:Nat) (y:List UInt8) (d:Nat) (nv:Value):Prop:=∀ (bs:List UInt8) (w:World),Below N W0 w→PB N b d (Lib.byteCells bs) w→bs.length+y.length≤1099511627776→
 Calls Tryz.prog F #[.pointer (some ⟨b,0,none⟩),nv] w fun e w'=>e=.returned (.tuple #[])∧Wr N b bs y d w w'
theorem wbk (N b:Nat) (l:List UInt8) (c:UInt8) (k:Int) (hk:(c.toNat:Int)=k) (d:Int) (w:World) (h:PB N b d (Lib.byteCells l) w) (hl:l.length+1≤1099511627776) (hN:N≤w.heap.size) :
 Calls Tryz.prog 24 #[.pointer (some ⟨b,0,none⟩),.int .u8 k] w fun e w'=>(∃ v,e=.returned v)∧Wr N b l [c] d w w':=by subst hk;exact wb N b l c d w h hl hN
theorem unl_any (W0:World) (N b F:Nat) (hN:N=W0.heap.size) (y ah:List UInt8) (d:Nat) (kd:Int) (tx:List UInt8) (nm ps:Int) (n:Nat) (ao:Option Addr) (cp:Nat) (bs:List UInt8) (w:World) (hF:Ent F) (hI:kd≠8→J1 W0 N b F y d (nA kd tx nm ps ao n cp)) (hB:Below N W0 w) (hp:PB N b d (Lib.byteCells bs) w) (hl:bs.length+(if kd=8 then [] else ah++y:List UInt8).length≤1099511627776) :
 Calls Tryz.prog 63 #[.pointer (some ⟨b,0,none⟩),.string ⟨ah.toArray⟩,nA kd tx nm ps ao n cp,FV F b] w fun e w'=>e=.returned (.tuple #[])∧Wr N b bs (if kd=8 then [] else ah++y) d w w':=by
 have hNw:N≤w.heap.size:=by rw [hN];exact hB.size
 have hbw:=hp.lt
 have hA:Wr N b bs [] d w (w.alloc (nO kd tx nm ps ao n cp)):=(Wr.nil hp (Below.refl _ _) (Lib.OthersKept.refl _ _ _)).quiet (zr (zo _ _) _) hNw
 have hgA:(w.alloc (nO kd tx nm ps ao n cp)).heap[w.heap.size]?=some (nO kd tx nm ps ao n cp):=yW _ _ rfl
 have hne:w.heap.size≠b:=om
 have HA:=zm hA
 have HGA:=zm hgA
 have HB:=zm hB
 have HNO:=zm fun X=>qE X kd tx nm ps n ao cp
 clear hp hB hA hgA
 by_cases h8:kd=8
 ·simp only [h8,if_true] at hl ⊢
  subst h8
  clear hI
  go_enter Tryz.func63,Tryz.ntmps63
  go_wp2_with fail
  with_reducible refine (zk HNO _).mono ?_
  rintro e w2 ⟨rfl,hg⟩
  have H2:=zm ((zk HA).quiet hg hNw)
  clear hg
  go_wp2
  ((try simp only [Exit.inBlock,Exit.then]);refine bodyPost_ret (results_none rfl _ _ _) rfl ?_)
  exact ⟨rfl,zk H2⟩
 ·simp only [h8,if_false] at hl ⊢
  have h8b:(kd==8)=false:=by simpa using h8
  have HI:=zm (hI h8)
  have HL:=zm hl
  clear hI hl
  go_enter Tryz.func63,Tryz.ntmps63
  go_wp2_with fail
  with_reducible refine (zk HNO _).mono ?_
  rintro e w2 ⟨rfl,hg⟩
  have h2:=(zk HA).quiet hg hNw
  have HS:=zm (ws N b (bs++[]) ah d _ h2.1 (by have h2:=zk HL;simp only [List.length_append,List.length_nil] at h2 ⊢;omega) (by have:=h2.size;omega))
  have hb2:w2.heap[w.heap.size]?=some (nO kd tx nm ps ao n cp):=(hg.block _ zK zK).trans (zk HGA)
  have HG2:=zm hb2
  have H2:=zm h2
  clear hg h2 hb2
  go_wp2_with fail
  with_reducible refine (zk HS).mono ?_
  rintro e w3 ⟨⟨v,rfl⟩,h3⟩
  have hb3:=h3.blk (zk HG2) hne dc
  obtain ⟨c0,c1,c2,c3,c4,c5,c6⟩:=gV hb3
  have H3:=zm ((zk H2).trans h3)
  have HX:=zm (zk HI _ w3 ((zk HB).trans (zk H3).2.1) (zk H3).1 (by have h2:=zk HL;simp only [List.length_append,List.length_nil] at h2 ⊢;omega))
  clear h3 hb3
  go_wp2_with fail
  with_reducible refine (zk HX).mono ?_
  rintro e w4 ⟨rfl,h4⟩
  have H4:=zm ((zk H3).trans h4)
  clear h4
  go_wp2
  go_end0
  exact ⟨rfl,by simpa using zk H4⟩
theorem Wr.deep {N b:Nat} {l x:List UInt8} {d:Int} {w w1:World} (h:Wr N b l x d w w1) (d':Int) (hN:N≤w.heap.size):Wr N b l x d' w (w1.setCell ⟨b,2,none⟩ (.int .i64 d')):=by
 have k:w1.grownBy (w1.setCell ⟨b,2,none⟩ (.int .i64 d')) (some b):=yF (zo _ _) _ (by right;rfl)
 have hb:=h.1.ge
 exact ⟨h.1.deep d',h.2.1.grown k (by have:=h.2.1.size;omega) (fun x e=>by cases e;exact hb),h.2.2.setCell _ rfl _⟩
theorem oI {f:Tree→List UInt8} {l:List Tree} {j:Nat} {t:Tree} (h:l[j]?=some t):(l.take (j+1)).flatMap f=(l.take j).flatMap f++f t:=by
 rw [List.take_add_one,h];simp
theorem uK {f:Tree→List UInt8} (l:List Tree) (j:Nat):((l.take j).flatMap f).length≤(l.flatMap f).length:=by
 have h:(l.take j++l.drop j).flatMap f=l.flatMap f:=by rw [List.take_append_drop]
 rw [←h,List.flatMap_append,List.length_append];omega
theorem lines_any (W0:World) (N b F:Nat) (hN:N=W0.heap.size) (f:Tree→List UInt8) (d:Nat) (hd:d<1152921504606846976) (l:List Tree) (a:Option Addr) (c:Nat) (bs:List UInt8) (w:World) (hF:Ent F) (hI:IW W0 N b F f (d+1) l) (hk:KC W0 a l) (hm:l.length≤maxLen) (hB:Below N W0 w) (hp:PB N b d (Lib.byteCells bs) w) (hl:bs.length+(linesT f d l).length≤1099511627776) :
 Calls Tryz.prog 35 #[.pointer (some ⟨b,0,none⟩),.slice a l.length c,FV F b] w fun e w'=>e=.returned (.tuple #[])∧Wr N b bs (linesT f d l) d w w':=by
 unfold maxLen at hm
 have hNw:N≤w.heap.size:=by rw [hN];exact hB.size
 have hbw:=hp.lt
 have p2:=hp.cell2
 have pf:=hp.frozen
 have H0:=zm ((Wr.nil hp (Below.refl _ _) (Lib.OthersKept.refl _ _ _)).deep (d+1:Nat) hNw)
 have HI:=zm hI
 have HK:=zm hk
 have HB:=zm hB
 obtain ⟨g,hg⟩:∃ g:Tree→List UInt8,g=fun t=>bV (d+1)++f t++[10]:=⟨_,rfl⟩
 have hgt:∀ t,g t=bV (d+1)++f t++[10]:=fun t=>by rw [hg]
 have hLT:linesT f d l=l.flatMap g:=by rw [hg];rfl
 rw [hLT] at hl ⊢
 have HL:=zm hl
 have HGT:=zm hgt
 obtain ⟨T,hT⟩:∃ T,T=l.flatMap g:=⟨_,rfl⟩
 rw [←hT]
 have HT:=zm hT
 obtain ⟨n,hn⟩:∃ n,n=l.length:=⟨_,rfl⟩
 have HN:Hid (l.length=n):=zm hn.symm
 have HNN:=zm hN
 rw [←hn] at hm ⊢
 have hd1:((d+1:Nat):Int)=(d:Int)+1:=om
 clear hp hI hk hB hl hT hn hN hg hgt hLT
 go_enter Tryz.func35,Tryz.ntmps35
 go_wp2
 go_loopw [17] (fun i wr=>∃ (j:Nat),j≤n∧i=.int .i64 j∧Hid (Wr N b bs ((l.take j).flatMap g) (d+1:Nat) w wr)) (fun i _=>n-(intOf i).toNat)
 case atStart=>exact ⟨0,Nat.zero_le _,rfl,by simpa only [hd1,List.take_zero,List.flatMap_nil] using H0⟩
 case round=>
  obtain ⟨j,hj,rfl,hW⟩:=hrel
  have hws:=(zk hW).size
  by_cases hlt:j<n
  ·have hji:(j:Int)<(n:Int):=om
   have hjL:j<l.length:=by have:=zk HN;omega
   obtain ⟨kd,tx,nm,ps,ks,ek⟩:∃ a b c d e,l[j]?=some (Px.Tree.mk a b c d e):=by
    rw [List.getElem?_eq_getElem hjL];cases l[j] with | mk a b c d e=>exact ⟨a,b,c,d,e,rfl⟩
   obtain ⟨gb,off,ao2,cp2,rfl,q3,Q,qc⟩:=zk HK j _ _ _ _ _ ek
   have hcell:∀ i,i<7→wr.cell? ⟨gb,off+j*7+i,none⟩=(fM kd tx nm ps (.slice ao2 ks.length cp2))[i]?:=fun i hi=>by
    rw [Nat.add_assoc]
    have hb:=(zk HB).trans (zk hW).2.1
    rw [World.cell?_of_block (w:=W0) (a:=⟨gb,off+(j*7+i),none⟩) (hb.block gb (by rw [zk HNN];exact q3))]
    exact qc i hi
   have a0:=hcell 0 om
   have a1:=hcell 1 om
   have a2:=hcell 2 om
   have a3:=hcell 3 om
   have a4:=hcell 4 om
   have a5:=hcell 5 om
   have a6:=hcell 6 om
   simp only [fM,List.getElem?_cons_zero,List.getElem?_cons_succ,Nat.add_zero] at a0 a1 a2 a3 a4 a5 a6
   have hmem:Tree.mk kd tx nm ps ks∈l:=List.mem_of_getElem? ek
   have hts:=oI (f:=g) ek
   have hle:=uK (f:=g) l (j+1)
   have HTS:=zm hts
   rw [hts,zk HGT] at hle
   simp only [List.length_append] at hle
   have hA:Wr N b bs ((l.take j).flatMap g) (d+1:Nat) w (wr.alloc (nO kd tx nm ps ao2 ks.length cp2)):=(zk hW).quiet (zr (zo _ _) _) hNw
   have hgA:(wr.alloc (nO kd tx nm ps ao2 ks.length cp2)).heap[wr.heap.size]?=some (nO kd tx nm ps ao2 ks.length cp2):=yW _ _ rfl
   have HA:=zm hA
   have HGA:=zm hgA
   have hne:wr.heap.size≠b:=om
   have htl:(bV (d+1)).length=d+1:=by simp [bV]
   have HTb:=zm (rf N b _ (d+1) _ hA.1 (by have h2:=zk HL;simp only [List.length_append] at h2 ⊢;omega) (by have:=hA.size;omega))
   have HI2:=zm (fun wx h1 h2=>zk HI kd tx nm ps ks ao2 cp2 (bs++((l.take j).flatMap g++bV (d+1))) wx hmem Q h1 h2 (by have h2:=zk HL;simp only [List.length_append] at h2 ⊢;omega))
   have HW2:=zm (fun wx h1 h2=>wbk N b (bs++(((l.take j).flatMap g++bV (d+1))++f (.mk kd tx nm ps ks))) 10 10 rfl (d+1:Nat) wx h1 (by have h2:=zk HL;simp only [List.length_append,List.length_cons,List.length_nil] at h2 hle ⊢;omega) h2)
   have HSN:Hid ((l.take (j+1)).flatMap g=((((l.take j).flatMap g)++bV (d+1))++f (.mk kd tx nm ps ks))++[10]):=zm (by rw [hts,zk HGT];simp only [List.append_assoc])
   clear ek Q qc hcell hjL hle hts hA hmem HTS htl
   obtain ⟨ft,hft⟩:∃ ft,ft=f (.mk kd tx nm ps ks):=⟨_,rfl⟩
   rw [←hft] at HI2 HSN HW2
   clear hft hgA
   by_cases h0:j=0
   ·subst h0
    simp only [Nat.zero_mul,Nat.add_zero] at a0 a1 a2 a3 a4 a5 a6
    go_wp2_with fail
    with_reducible refine (zk HTb).mono ?_
    rintro e w2 ⟨rfl,h2⟩
    have hb2:=h2.blk (zk HGA) hne dc
    have HG2:=zm hb2
    obtain ⟨c0,c1,c2,c3,c4,c5,c6⟩:=gV hb2
    have H2:=zm ((zk HA).trans h2)
    have HX:=zm (zk HI2 w2 ((zk HB).trans (zk H2).2.1) (zk H2).1)
    clear h2 hb2
    go_wp2_with fail
    with_reducible refine (zk HX).mono ?_
    rintro e w3 ⟨rfl,h3⟩
    have H3:=zm ((zk H2).trans h3)
    have HY:=zm (zk HW2 w3 (zk H3).1 (by have:=(zk H3).size;omega))
    clear h3
    go_wp2_with fail
    with_reducible refine (zk HY).mono ?_
    rintro e w4 ⟨⟨v,rfl⟩,h4⟩
    have H4:=zm ((zk H3).trans h4)
    clear h4
    go_wp2
    go_roundw
    case rel=>exact ⟨1,om,by go_num,zm (by have:=zk H4;rwa [←zk HSN] at this)⟩
    case measure=>simp [intOf];omega
   ·go_wp2_with fail
    with_reducible refine (zk HTb).mono ?_
    rintro e w2 ⟨rfl,h2⟩
    have hb2:=h2.blk (zk HGA) hne dc
    have HG2:=zm hb2
    obtain ⟨c0,c1,c2,c3,c4,c5,c6⟩:=gV hb2
    have H2:=zm ((zk HA).trans h2)
    have HX:=zm (zk HI2 w2 ((zk HB).trans (zk H2).2.1) (zk H2).1)
    clear h2 hb2
    go_wp2_with fail
    with_reducible refine (zk HX).mono ?_
    rintro e w3 ⟨rfl,h3⟩
    have H3:=zm ((zk H2).trans h3)
    have HY:=zm (zk HW2 w3 (zk H3).1 (by have:=(zk H3).size;omega))
    clear h3
    go_wp2_with fail
    with_reducible refine (zk HY).mono ?_
    rintro e w4 ⟨⟨v,rfl⟩,h4⟩
    have H4:=zm ((zk H3).trans h4)
    clear h4
    go_wp2
    go_roundw
    case rel=>exact ⟨j+1,om,by go_num,zm (by have:=zk H4;rwa [←zk HSN] at this)⟩
    case measure=>simp [intOf];omega
  ·obtain rfl:j=n:=om
   have hji:¬(j:Int)<(j:Int):=om
   have hW2:=zk hW
   rw [List.take_of_length_le (by have:=zk HN;omega)] at hW2
   have q2:=hW2.1.cell2
   have qf:=hW2.1.frozen
   rw [hd1] at q2
   have HE:=zm (hW2.deep (d:Int) hNw)
   have hd2:(d:Int)+1-1=d:=om
   clear hW2
   go_wp2
   go_end0
   refine ⟨rfl, ?_⟩
   rw [zk HT]
   exact zk HE
theorem clauses_any (W0:World) (N b F:Nat) (hN:N=W0.heap.size) (g:Tree→List UInt8) (d:Nat) (l:List Tree) (a:Option Addr) (c:Nat) (bs:List UInt8) (w:World) (hF:Ent F) (hI:IW W0 N b F g d l) (hk:KC W0 a l) (hm:l.length≤maxLen) (hB:Below N W0 w) (hp:PB N b d (Lib.byteCells bs) w) (hl:bs.length+([32,123,10]++l.flatMap g++bV d++[125]).length≤1099511627776) :
 Calls Tryz.prog 108 #[.pointer (some ⟨b,0,none⟩),.slice a l.length c,FV F b] w fun e w'=>e=.returned (.tuple #[])∧Wr N b bs ([32,123,10]++l.flatMap g++bV d++[125]) d w w':=by
 unfold maxLen at hm
 have hNw:N≤w.heap.size:=by rw [hN];exact hB.size
 have hbw:=hp.lt
 have htl:(bV d).length=d:=by simp [bV]
 simp only [List.length_append,List.length_cons,List.length_nil] at hl
 rw [htl] at hl
 have HS:=zm (ws N b bs [32,123,10] d w hp (by simp only [List.length_cons,List.length_nil];omega) hNw)
 have HI:=zm hI
 have HK:=zm hk
 have HB:=zm hB
 have HL:=zm hl
 obtain ⟨T,hT⟩:∃ T,T=l.flatMap g:=⟨_,rfl⟩
 rw [←hT]
 have HT:=zm hT
 obtain ⟨n,hn⟩:∃ n,n=l.length:=⟨_,rfl⟩
 have HN:Hid (l.length=n):=zm hn.symm
 have HNN:=zm hN
 rw [←hn] at hm ⊢
 clear hp hI hk hB hl hT hn hN htl
 go_enter Tryz.func108,Tryz.ntmps108
 go_wp2_with fail
 with_reducible refine (zk HS).mono ?_
 rintro e w1 ⟨⟨v,rfl⟩,h1⟩
 have H1:=zm h1
 clear h1
 go_wp2
 go_loopw [14] (fun i wr=>∃ (j:Nat),j≤n∧i=.int .i64 j∧Hid (Wr N b bs ([32,123,10]++(l.take j).flatMap g) d w wr)) (fun i _=>n-(intOf i).toNat)
 case atStart=>exact ⟨0,Nat.zero_le _,rfl,by simpa only [List.take_zero,List.flatMap_nil,List.append_nil] using H1⟩
 case round=>
  obtain ⟨j,hj,rfl,hW⟩:=hrel
  have hws:=(zk hW).size
  by_cases hlt:j<n
  ·have hji:(j:Int)<(n:Int):=om
   have hjL:j<l.length:=by have:=zk HN;omega
   obtain ⟨kd,tx,nm,ps,ks,ek⟩:∃ a b c d e,l[j]?=some (Px.Tree.mk a b c d e):=by
    rw [List.getElem?_eq_getElem hjL];cases l[j] with | mk a b c d e=>exact ⟨a,b,c,d,e,rfl⟩
   obtain ⟨gb,off,ao2,cp2,rfl,q3,Q,qc⟩:=zk HK j _ _ _ _ _ ek
   have hcell:∀ i,i<7→wr.cell? ⟨gb,off+j*7+i,none⟩=(fM kd tx nm ps (.slice ao2 ks.length cp2))[i]?:=fun i hi=>by
    rw [Nat.add_assoc]
    have hb:=(zk HB).trans (zk hW).2.1
    rw [World.cell?_of_block (w:=W0) (a:=⟨gb,off+(j*7+i),none⟩) (hb.block gb (by rw [zk HNN];exact q3))]
    exact qc i hi
   have a0:=hcell 0 om
   have a1:=hcell 1 om
   have a2:=hcell 2 om
   have a3:=hcell 3 om
   have a4:=hcell 4 om
   have a5:=hcell 5 om
   have a6:=hcell 6 om
   simp only [fM,List.getElem?_cons_zero,List.getElem?_cons_succ,Nat.add_zero] at a0 a1 a2 a3 a4 a5 a6
   have hmem:Tree.mk kd tx nm ps ks∈l:=List.mem_of_getElem? ek
   have hts:=oI (f:=g) ek
   have hle:=uK (f:=g) l (j+1)
   have HTS:=zm hts
   rw [hts] at hle
   simp only [List.length_append] at hle
   have hA:Wr N b bs ([32,123,10]++(l.take j).flatMap g) d w (wr.alloc (nO kd tx nm ps ao2 ks.length cp2)):=(zk hW).quiet (zr (zo _ _) _) hNw
   have HA:=zm hA
   have hne:wr.heap.size≠b:=om
   have HX:=zm (zk HI kd tx nm ps ks ao2 cp2 _ _ hmem Q ((zk HB).trans hA.2.1) hA.1 zO)
   clear ek Q qc hcell hjL hle hts hA hmem
   obtain ⟨ft,hft⟩:∃ ft,ft=g (.mk kd tx nm ps ks):=⟨_,rfl⟩
   rw [←hft] at HX HTS
   clear hft
   by_cases h0:j=0
   ·subst h0
    simp only [Nat.zero_mul,Nat.add_zero] at a0 a1 a2 a3 a4 a5 a6
    go_wp2_with fail
    with_reducible refine (zk HX).mono ?_
    rintro e w3 ⟨rfl,h3⟩
    have H3:=zm ((zk HA).trans h3)
    clear h3
    go_wp2
    go_roundw
    case rel=>exact ⟨1,om,by go_num,zm (by have:=zk H3;rw [List.append_assoc] at this;rwa [zk HTS])⟩
    case measure=>simp [intOf];omega
   ·skip
    go_wp2_with fail
    with_reducible refine (zk HX).mono ?_
    rintro e w3 ⟨rfl,h3⟩
    have H3:=zm ((zk HA).trans h3)
    clear h3
    go_wp2
    go_roundw
    case rel=>exact ⟨j+1,om,by go_num,zm (by have:=zk H3;rw [List.append_assoc] at this;rwa [zk HTS])⟩
    case measure=>simp [intOf];omega
  ·obtain rfl:j=n:=om
   have hji:¬(j:Int)<(j:Int):=om
   have hW2:=zk hW
   rw [List.take_of_length_le (by have:=zk HN;omega)] at hW2
   have HW2:=zm hW2
   have HTb:=zm (rf N b _ d _ hW2.1 zO (by have:=hW2.size;omega))
   clear hW2
   go_wp2_with fail
   with_reducible refine (zk HTb).mono ?_
   rintro e w3 ⟨rfl,h3⟩
   have h4:=(zk HW2).trans h3
   have H4:=zm h4
   have HY:=zm (wbk N b _ 125 125 rfl d w3 h4.1 (by have h2:=zk HL;simp only [List.length_append,List.length_cons,List.length_nil,bV,List.length_replicate] at h2 ⊢;omega) (by have:=h4.size;omega))
   clear h3 h4
   go_wp2_with fail
   with_reducible refine (zk HY).mono ?_
   rintro e w5 ⟨⟨v,rfl⟩,h5⟩
   have H5:=zm ((zk H4).trans h5)
   clear h5
   go_wp2
   go_end0
   refine ⟨rfl, ?_⟩
   rw [zk HT]
   exact zk H5
end Go.Proofs.YtgbjpnnockoomaaGreatDoor.Pp
