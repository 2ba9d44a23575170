import Derived.Test.YtgbjpnnockoomaaGreatDoorPb8
set_option linter.unusedVariables false
set_option linter.unusedSimpArgs false
set_option maxHeartbeats 8000000
set_option maxRecDepth 100000
namespace Go.Proofs.YtgbjpnnockoomaaGreatDoor.Pp
open Go.RowKit Lx Px
theorem RHp {W0:World} {N b:Nat} {rec:PrJ→Nat→Tree→List UInt8} {j:PrJ} {d:Nat} {t:Tree} (h:Hid (RH W0 N b rec j d t)) (j':PrJ) (hk:t.kind≠0) (i:Nat) (ho:okJ j' (yM t i)):Hid (JC W0 N b rec j' d (yM t i)):=
 zm (zk h j' d _ (oL hk i _ _) ho (.inl rfl) (qY _ _))
theorem RHr {W0:World} {N b:Nat} {rec:PrJ→Nat→Tree→List UInt8} {j:PrJ} {d:Nat} {t:Tree} (h:Hid (RH W0 N b rec j d t)) (j':PrJ) (hr:rnk j'<rnk j) (ho:okJ j' t):Hid (JC W0 N b rec j' d t):=
 zm (zk h j' d _ (tN hr) ho (.inl rfl) (.inl rfl))
theorem RHs {W0:World} {N b:Nat} {rec:PrJ→Nat→Tree→List UInt8} {j:PrJ} {d:Nat} {t:Tree} (h:Hid (RH W0 N b rec j d t)) (j':PrJ) (hr:rnk j'<rnk j) (ho:okJ j' t):Hid (JC W0 N b rec j' d t):=
 zm (zk h j' d _ (tN hr) ho (.inl rfl) (.inl rfl))
theorem RHk {W0:World} {N b:Nat} {rec:PrJ→Nat→Tree→List UInt8} {j:PrJ} {d:Nat} {t:Tree} (h:Hid (RH W0 N b rec j d t)) (j':PrJ) (ho:∀ s,okJ j' s) {l:List Tree} (hs:∀ s∈l,s∈t.kids):Hid (∀ s∈l,JC W0 N b rec j' d s):=
 zm fun s m=>zk h j' d _ (qJ (hs s m) _ _) (ho s) (.inl rfl) (.inr (.inl (hs s m)))
theorem RHk1 {W0:World} {N b:Nat} {rec:PrJ→Nat→Tree→List UInt8} {j:PrJ} {d:Nat} {t:Tree} (h:Hid (RH W0 N b rec j d t)) (j':PrJ) (ho:∀ s,okJ j' s) {l:List Tree} (hs:∀ s∈l,s∈t.kids):Hid (∀ s∈l,JC W0 N b rec j' (d+1) s):=
 zm fun s m=>zk h j' (d+1) _ (qJ (hs s m) _ _) (ho s) (.inr ⟨rfl,qZ (hs s m)⟩) (.inr (.inl (hs s m)))
theorem typed_step {W0:World} {N b:Nat} (hN:N=W0.heap.size) (digits:Int→List UInt8) (rec:PrJ→Nat→Tree→List UInt8) (d:Nat) (hd:d<1152921504606846976) (t:Tree) (hr:RH W0 N b rec .typed d t) (ho:okJ .typed t):JC W0 N b (ym digits rec) .typed d t:=by
 intro kd tx nm ps ks ao cp e hK bs w hB hp hl
 subst e
 have HR:=zm hr
 clear hr
 have hkk:(Tree.mk kd tx nm ps ks).kind≠0:=ho
 simp only [ym,sS,sT,Int.reduceEq,reduceIte] at hl ⊢
 have HL:=zm hl
 have HV:Hid (PV W0 _ kd tx nm ps ao ks.length cp):=zm ⟨ks,rfl,rfl,hK⟩
 have HS:=ye.start (bs:=bs) kd tx nm ps ao ks.length cp hN hB hp
 have ht:tx.length≤1099511627776:=pl
 have hc5:¬9223372036854775807<tx.length+1:=om
 clear hp hB hK hl
 simp only [JF,JA]
 go_enter Tryz.func37,Tryz.ntmps37
 (go_wp2;go_region_held2 (fun w'=>w'.cell? ⟨w.heap.size,1,none⟩=some (.string ⟨tx.toArray⟩)) (go_keep) (first | (go_at_call 34;(try simp only [ByteArray.mk_append_mk]);with_reducible refine (ye.s (ye.dr HS) pl).mono ?_;(try clear cc);clear HS;rintro e wn ⟨⟨v,rfl⟩,HS⟩;have cc:=ye.cells HS)))
 (go_wp2_with fail;with_reducible refine (ye.part 0 HS HV dc).mono ?_;(try clear cc);clear HS;rintro e wn ⟨⟨kd2,tx2,nm2,ps2,ao2,n2,cp2,rfl,HP⟩,HS⟩;have cc:=ye.cells HS)
 (have HJ:=((zk (RHp HR .wtype hkk 0 trivial)).pv HP);simp only [JF,JA] at HJ;go_wp2_with fail;with_reducible refine (ye.call HS HJ pl).mono ?_;(try clear cc);clear HS HJ;rintro e wn ⟨rfl,HS⟩;have cc:=ye.cells HS)
 exact pe
theorem field_step {W0:World} {N b:Nat} (hN:N=W0.heap.size) (digits:Int→List UInt8) (rec:PrJ→Nat→Tree→List UInt8) (d:Nat) (hd:d<1152921504606846976) (t:Tree) (hr:RH W0 N b rec .field d t) (ho:okJ .field t):JC W0 N b (ym digits rec) .field d t:=by
 intro kd tx nm ps ks ao cp e hK bs w hB hp hl
 subst e
 have HR:=zm hr
 clear hr
 by_cases h5:kd=5
 ·subst h5
  have hkk:(Tree.mk 5 tx nm ps ks).kind≠0:=by simp [Tree.kind]
  simp only [ym,sS,sT,Int.reduceEq,reduceIte] at hl ⊢
  have HL:=zm hl
  have HV:Hid (PV W0 _ 5 tx nm ps ao ks.length cp):=zm ⟨ks,rfl,rfl,hK⟩
  have HS:=ye.start (bs:=bs) 5 tx nm ps ao ks.length cp hN hB hp
  clear hp hB hK hl
  simp only [JF,JA]
  go_enter Tryz.func36,Tryz.ntmps36
  (have HJ:=((zk (RHs HR .typed dc zM)).pv HV);simp only [JF,JA] at HJ;go_wp2_with fail;with_reducible refine (ye.call HS HJ pl).mono ?_;(try clear cc);clear HS HJ;rintro e wn ⟨rfl,HS⟩;have cc:=ye.cells HS)
  exact pe
 simp only [ym,sS,sT,Int.reduceEq,reduceIte,h5] at hl ⊢
 have HL:=zm hl
 have HV:Hid (PV W0 _ kd tx nm ps ao ks.length cp):=zm ⟨ks,rfl,rfl,hK⟩
 have HS:=ye.start (bs:=bs) kd tx nm ps ao ks.length cp hN hB hp
 clear hp hB hK hl
 simp only [JF,JA]
 go_enter Tryz.func36,Tryz.ntmps36
 (go_wp2_with fail;with_reducible refine (ye.unk HS pl).mono ?_;(try clear cc);clear HS;rintro e wn ⟨rfl,HS⟩;have cc:=ye.cells HS)
 exact pe
theorem param_step {W0:World} {N b:Nat} (hN:N=W0.heap.size) (digits:Int→List UInt8) (rec:PrJ→Nat→Tree→List UInt8) (d:Nat) (hd:d<1152921504606846976) (t:Tree) (hr:RH W0 N b rec .param d t) (ho:okJ .param t):JC W0 N b (ym digits rec) .param d t:=by
 intro kd tx nm ps ks ao cp e hK bs w hB hp hl
 subst e
 have HR:=zm hr
 clear hr
 by_cases h7:kd=7
 ·subst h7
  have hkk:(Tree.mk 7 tx nm ps ks).kind≠0:=by simp [Tree.kind]
  simp only [ym,sS,sT,Int.reduceEq,reduceIte] at hl ⊢
  have HL:=zm hl
  have HV:Hid (PV W0 _ 7 tx nm ps ao ks.length cp):=zm ⟨ks,rfl,rfl,hK⟩
  have HS:=ye.start (bs:=bs) 7 tx nm ps ao ks.length cp hN hB hp
  clear hp hB hK hl
  simp only [JF,JA]
  go_enter Tryz.func84,Tryz.ntmps84
  (have HJ:=((zk (RHs HR .typed dc zM)).pv HV);simp only [JF,JA] at HJ;go_wp2_with fail;with_reducible refine (ye.call HS HJ pl).mono ?_;(try clear cc);clear HS HJ;rintro e wn ⟨rfl,HS⟩;have cc:=ye.cells HS)
  exact pe
 simp only [ym,sS,sT,Int.reduceEq,reduceIte,h7] at hl ⊢
 have HL:=zm hl
 have HV:Hid (PV W0 _ kd tx nm ps ao ks.length cp):=zm ⟨ks,rfl,rfl,hK⟩
 have HS:=ye.start (bs:=bs) kd tx nm ps ao ks.length cp hN hB hp
 clear hp hB hK hl
 simp only [JF,JA]
 go_enter Tryz.func84,Tryz.ntmps84
 (go_wp2_with fail;with_reducible refine (ye.unk HS pl).mono ?_;(try clear cc);clear HS;rintro e wn ⟨rfl,HS⟩;have cc:=ye.cells HS)
 exact pe
theorem params_step {W0:World} {N b:Nat} (hN:N=W0.heap.size) (digits:Int→List UInt8) (rec:PrJ→Nat→Tree→List UInt8) (d:Nat) (hd:d<1152921504606846976) (t:Tree) (hr:RH W0 N b rec .params d t) (ho:okJ .params t):JC W0 N b (ym digits rec) .params d t:=by
 intro kd tx nm ps ks ao cp e hK bs w hB hp hl
 subst e
 have HR:=zm hr
 clear hr
 by_cases h6:kd=6
 ·subst h6
  have hkk:(Tree.mk 6 tx nm ps ks).kind≠0:=by simp [Tree.kind]
  simp only [ym,sS,sT,Int.reduceEq,reduceIte] at hl ⊢
  have HL:=zm hl
  have HV:Hid (PV W0 _ 6 tx nm ps ao ks.length cp):=zm ⟨ks,rfl,rfl,hK⟩
  have HS:=ye.start (bs:=bs) 6 tx nm ps ao ks.length cp hN hB hp
  clear hp hB hK hl
  simp only [JF,JA]
  go_enter Tryz.func62,Tryz.ntmps62
  (have hpj:di .param:=fun _ _=>rfl;have hjf:JF .param=84:=rfl;have hen:Ent 84:=dP 84 dc;have HU:=(RHk HR .param (l:=ks) (fun _=>trivial) (fun _ h=>h));have HQ:=(PV.rv HV);go_wp2_with fail;with_reducible refine (ye.list .param HS HQ hpj hjf hen HU pl).mono ?_;clear hpj hjf hen HU HQ;(try clear cc);clear HS;rintro e wn ⟨rfl,HS⟩;have cc:=ye.cells HS)
  exact pe
 simp only [ym,sS,sT,Int.reduceEq,reduceIte,h6] at hl ⊢
 have HL:=zm hl
 have HV:Hid (PV W0 _ kd tx nm ps ao ks.length cp):=zm ⟨ks,rfl,rfl,hK⟩
 have HS:=ye.start (bs:=bs) kd tx nm ps ao ks.length cp hN hB hp
 clear hp hB hK hl
 simp only [JF,JA]
 go_enter Tryz.func62,Tryz.ntmps62
 (go_wp2_with fail;with_reducible refine (ye.unk HS pl).mono ?_;(try clear cc);clear HS;rintro e wn ⟨rfl,HS⟩;have cc:=ye.cells HS)
 exact pe
theorem rQ {W0:World} {N b:Nat} (hN:N=W0.heap.size) (digits:Int→List UInt8) (rec:PrJ→Nat→Tree→List UInt8) (d:Nat) (hd:d<1152921504606846976) (t:Tree) (hr:RH W0 N b rec .function d t) (ho:okJ .function t):JC W0 N b (ym digits rec) .function d t:=by
 intro kd tx nm ps ks ao cp e hK bs w hB hp hl
 subst e
 have HR:=zm hr
 clear hr
 have hkk:(Tree.mk kd tx nm ps ks).kind≠0:=ho
 simp only [ym,sS,sT,Int.reduceEq,reduceIte] at hl ⊢
 have HL:=zm hl
 have HV:Hid (PV W0 _ kd tx nm ps ao ks.length cp):=zm ⟨ks,rfl,rfl,hK⟩
 have HS:=ye.start (bs:=bs) kd tx nm ps ao ks.length cp hN hB hp
 clear hp hB hK hl
 simp only [JF,JA]
 go_enter Tryz.func38,Tryz.ntmps38
 (go_wp2_with fail;with_reducible refine (ye.byte 40 HS dc pl).mono ?_;(try clear cc);clear HS;rintro e wn ⟨⟨v,rfl⟩,HS⟩;have cc:=ye.cells HS)
 (go_wp2_with fail;with_reducible refine (ye.part 0 HS HV dc).mono ?_;(try clear cc);clear HS;rintro e wn ⟨⟨kd2,tx2,nm2,ps2,ao2,n2,cp2,rfl,HP⟩,HS⟩;have cc:=ye.cells HS)
 (have HJ:=((zk (RHp HR .params hkk 0 trivial)).pv HP);simp only [JF,JA] at HJ;go_wp2_with fail;with_reducible refine (ye.call HS HJ pl).mono ?_;(try clear cc);clear HS HJ;rintro e wn ⟨rfl,HS⟩;have cc:=ye.cells HS)
 (go_wp2_with fail;with_reducible refine (ye.byte 41 HS dc pl).mono ?_;(try clear cc);clear HS;rintro e wn ⟨⟨v,rfl⟩,HS⟩;have cc:=ye.cells HS)
 (go_wp2_with fail;with_reducible refine (ye.part 1 HS HV dc).mono ?_;(try clear cc);clear HS;rintro e wn ⟨⟨kd2,tx2,nm2,ps2,ao2,n2,cp2,rfl,HP⟩,HS⟩;have cc:=ye.cells HS)
 (have hpj:di .wtype:=fun _ _=>rfl;have hjf:JF .wtype=60:=rfl;have hen:Ent 60:=dP 60 dc;have HU:=(RHp HR .wtype hkk 1 trivial);go_wp2_with fail;with_reducible refine (ye.unl .wtype HS HP hpj hjf hen HU pl).mono ?_;clear hpj hjf hen HU;(try clear cc);clear HS;rintro e wn ⟨rfl,HS⟩;have cc:=ye.cells HS)
 (go_wp2_with fail;with_reducible refine (ye.byte 32 HS dc pl).mono ?_;(try clear cc);clear HS;rintro e wn ⟨⟨v,rfl⟩,HS⟩;have cc:=ye.cells HS)
 (go_wp2_with fail;with_reducible refine (ye.part 2 HS HV dc).mono ?_;(try clear cc);clear HS;rintro e wn ⟨⟨kd2,tx2,nm2,ps2,ao2,n2,cp2,rfl,HP⟩,HS⟩;have cc:=ye.cells HS)
 (have HJ:=((zk (RHp HR .block hkk 2 trivial)).pv HP);simp only [JF,JA] at HJ;go_wp2_with fail;with_reducible refine (ye.call HS HJ pl).mono ?_;(try clear cc);clear HS HJ;rintro e wn ⟨rfl,HS⟩;have cc:=ye.cells HS)
 exact pe
theorem block_step {W0:World} {N b:Nat} (hN:N=W0.heap.size) (digits:Int→List UInt8) (rec:PrJ→Nat→Tree→List UInt8) (d:Nat) (hd:d<1152921504606846976) (t:Tree) (hr:RH W0 N b rec .block d t) (ho:okJ .block t):JC W0 N b (ym digits rec) .block d t:=by
 intro kd tx nm ps ks ao cp e hK bs w hB hp hl
 subst e
 have HR:=zm hr
 clear hr
 by_cases h16:kd=16
 ·subst h16
  have hkk:(Tree.mk 16 tx nm ps ks).kind≠0:=by simp [Tree.kind]
  simp only [ym,sS,sT,Int.reduceEq,reduceIte] at hl ⊢
  have HL:=zm hl
  have HV:Hid (PV W0 _ 16 tx nm ps ao ks.length cp):=zm ⟨ks,rfl,rfl,hK⟩
  have HS:=ye.start (bs:=bs) 16 tx nm ps ao ks.length cp hN hB hp
  clear hp hB hK hl
  simp only [JF,JA]
  go_enter Tryz.func64,Tryz.ntmps64
  (go_wp2_with fail;(try simp only [ByteArray.mk_append_mk]);with_reducible refine (ye.s HS pl).mono ?_;(try clear cc);clear HS;rintro e wn ⟨⟨v,rfl⟩,HS⟩;have cc:=ye.cells HS)
  (have hpj:di .stmt:=fun _ _=>rfl;have hjf:JF .stmt=86:=rfl;have hen:Ent 86:=dP 86 dc;have HU:=(RHk1 HR .stmt (l:=ks) (fun _=>trivial) (fun _ h=>h));have HQ:=(PV.rv HV);go_wp2_with fail;with_reducible refine (ye.lines .stmt HS HQ hpj hjf hen HU hd pl).mono ?_;clear hpj hjf hen HU HQ;(try clear cc);clear HS;rintro e wn ⟨rfl,HS⟩;have cc:=ye.cells HS)
  (go_wp2_with fail;with_reducible refine (ye.tabs HS pl).mono ?_;(try clear cc);clear HS;rintro e wn ⟨rfl,HS⟩;have cc:=ye.cells HS)
  (go_wp2_with fail;with_reducible refine (ye.byte 125 HS dc pl).mono ?_;(try clear cc);clear HS;rintro e wn ⟨⟨v,rfl⟩,HS⟩;have cc:=ye.cells HS)
  exact pe
 simp only [ym,sS,sT,Int.reduceEq,reduceIte,h16] at hl ⊢
 have HL:=zm hl
 have HV:Hid (PV W0 _ kd tx nm ps ao ks.length cp):=zm ⟨ks,rfl,rfl,hK⟩
 have HS:=ye.start (bs:=bs) kd tx nm ps ao ks.length cp hN hB hp
 clear hp hB hK hl
 simp only [JF,JA]
 go_enter Tryz.func64,Tryz.ntmps64
 (go_wp2_with fail;with_reducible refine (ye.unk HS pl).mono ?_;(try clear cc);clear HS;rintro e wn ⟨rfl,HS⟩;have cc:=ye.cells HS)
 exact pe
open Go.RowKit Lx Px
theorem file_step {W0:World} {N b:Nat} (hN:N=W0.heap.size) (digits:Int→List UInt8) (rec:PrJ→Nat→Tree→List UInt8) (d:Nat) (hd:d<1152921504606846976) (t:Tree) (hr:RH W0 N b rec .file d t) (ho:okJ .file t):JC W0 N b (ym digits rec) .file d t:=by
 intro kd tx nm ps ks ao cp e hK bs w hB hp hl
 subst e
 by_cases h1:kd=1
 ·subst h1
  simp only [ym,Tree.kind,Tree.kids,if_true] at hl ⊢
  have hI:∀ s∈ks,JC W0 N b rec .decl d s:=fun s m=>hr .decl d s (qJ m _ _) trivial (.inl rfl) (.inr (.inl m))
  have HI:=zm (iw_of (fun _ _=>rfl) hI)
  have hk:=KC.of hK
  have hm:=hK.few
  unfold maxLen at hm
  have hNw:N≤w.heap.size:=by rw [hN];exact hB.size
  have hbw:=hp.lt
  have hS:=ye.start (bs:=bs) 1 tx nm ps ao ks.length cp hN hB hp
  have H0:=zm (zk hS).1
  have HK:=zm hk
  have HB:=zm hB
  obtain ⟨g,hg⟩:∃ g:Tree→List UInt8,g=fun t=>rec .decl d t++[10]:=⟨_,rfl⟩
  have HGT:=zm (fun t=>by rw [hg]:∀ t,g t=rec .decl d t++[10])
  rw [←hg] at hl ⊢
  have HL:=zm hl
  obtain ⟨n,hn⟩:∃ n,n=ks.length:=⟨_,rfl⟩
  have HN:Hid (ks.length=n):=zm hn.symm
  have HNN:=zm hN
  simp only [JF,JA]
  rw [←hn] at hm ⊢
  rw [←hn] at H0
  obtain ⟨l,hll⟩:∃ l,l=ks:=⟨_,rfl⟩
  rw [←hll] at HI HK HL HN ⊢
  clear hp hr hI hk hB hl hn hN hg hS hK hll ho
  go_enter Tryz.func12,Tryz.ntmps12
  go_wp2
  go_loopw [14] (fun i wr=>∃ (j:Nat),j≤n∧i=.int .i64 j∧Hid (Wr N b bs ((l.take j).flatMap g) d w wr)) (fun i _=>n-(intOf i).toNat)
  case atStart=>exact ⟨0,Nat.zero_le _,rfl,by simpa only [List.take_zero,List.flatMap_nil] using H0⟩
  case round=>
   obtain ⟨j,hj,rfl,hW⟩:=hrel
   have hws:=(zk hW).size
   by_cases hlt:j<n
   ·have hji:(j:Int)<(n:Int):=om
    have hjL:j<l.length:=by have:=zk HN;omega
    obtain ⟨kd,tx2,nm2,ps2,ks2,ek⟩:∃ a b c d e,l[j]?=some (Px.Tree.mk a b c d e):=by
     rw [List.getElem?_eq_getElem hjL];cases l[j] with | mk a b c d e=>exact ⟨a,b,c,d,e,rfl⟩
    obtain ⟨gb,off,ao2,cp2,rfl,q3,Q,qc⟩:=zk HK j _ _ _ _ _ ek
    have hcell:∀ i,i<7→wr.cell? ⟨gb,off+j*7+i,none⟩=(fM kd tx2 nm2 ps2 (.slice ao2 ks2.length cp2))[i]?:=fun i hi=>by
     rw [Nat.add_assoc]
     have hb:=(zk HB).trans (zk hW).2.1
     rw [World.cell?_of_block (w:=W0) (a:=⟨gb,off+(j*7+i),none⟩) (hb.block gb (by rw [zk HNN];exact q3))]
     exact qc i hi
    have a0:=hcell 0 om
    have a1:=hcell 1 om
    have a2:=hcell 2 om
    have a3:=hcell 3 om
    have a4:=hcell 4 om
    have a5:=hcell 5 om
    have a6:=hcell 6 om
    simp only [fM,List.getElem?_cons_zero,List.getElem?_cons_succ,Nat.add_zero] at a0 a1 a2 a3 a4 a5 a6
    have hmem:Tree.mk kd tx2 nm2 ps2 ks2∈l:=List.mem_of_getElem? ek
    have hts:=oI (f:=g) ek
    have hle:=uK (f:=g) l (j+1)
    have HTS:=zm hts
    rw [hts] at hle
    rw [zk HGT] at hle hts
    simp only [List.length_append,List.length_cons,List.length_nil] at hle
    have HTS2:=zm hts
    have hA:Wr N b bs ((l.take j).flatMap g) d w (wr.alloc (nO kd tx2 nm2 ps2 ao2 ks2.length cp2)):=(zk hW).quiet (zr (zo _ _) _) hNw
    have HA:=zm hA
    have hne:wr.heap.size≠b:=om
    have HX:=zm (zk HI kd tx2 nm2 ps2 ks2 ao2 cp2 _ _ hmem Q ((zk HB).trans hA.2.1) hA.1 (by have h2:=zk HL;simp only [List.length_append] at h2 ⊢;omega))
    simp only [JF] at HX
    obtain ⟨ft,hft⟩:∃ ft,ft=rec .decl d (.mk kd tx2 nm2 ps2 ks2):=⟨_,rfl⟩
    rw [←hft] at HX HTS2 hle
    have HLE:=zm hle
    clear ek Q qc hcell hjL hle hts hA hmem hft HTS
    have HTS:=HTS2
    clear HTS2
    by_cases h0:j=0
    ·subst h0
     simp only [Nat.zero_mul,Nat.add_zero] at a0 a1 a2 a3 a4 a5 a6
     go_wp2_with fail
     with_reducible refine (zk HX).mono ?_
     rintro e w3 ⟨rfl,h3⟩
     have h4:=(zk HA).trans h3
     have H4:=zm h4
     have HY:=zm (wbk N b _ 10 10 rfl d w3 h4.1 (by have h2:=zk HL;simp only [List.length_append,List.length_cons,List.length_nil] at h2 ⊢;have:=zk HLE;omega) (by have:=h4.size;omega))
     clear h3 h4
     go_wp2_with fail
     with_reducible refine (zk HY).mono ?_
     rintro e w5 ⟨⟨v,rfl⟩,h5⟩
     have H5:=zm ((zk H4).trans h5)
     clear h5
     go_wp2
     go_roundw
     case rel=>exact ⟨1,om,by go_num,zm (by have:=zk H5;rw [List.append_assoc] at this;rwa [zk HTS])⟩
     case measure=>simp [intOf];omega
    ·skip
     go_wp2_with fail
     with_reducible refine (zk HX).mono ?_
     rintro e w3 ⟨rfl,h3⟩
     have h4:=(zk HA).trans h3
     have H4:=zm h4
     have HY:=zm (wbk N b _ 10 10 rfl d w3 h4.1 (by have h2:=zk HL;simp only [List.length_append,List.length_cons,List.length_nil] at h2 ⊢;have:=zk HLE;omega) (by have:=h4.size;omega))
     clear h3 h4
     go_wp2_with fail
     with_reducible refine (zk HY).mono ?_
     rintro e w5 ⟨⟨v,rfl⟩,h5⟩
     have H5:=zm ((zk H4).trans h5)
     clear h5
     go_wp2
     go_roundw
     case rel=>exact ⟨j+1,om,by go_num,zm (by have:=zk H5;rw [List.append_assoc] at this;rwa [zk HTS])⟩
     case measure=>simp [intOf];omega
   ·obtain rfl:j=n:=om
    have hji:¬(j:Int)<(j:Int):=om
    have hW2:=zk hW
    rw [List.take_of_length_le (by have:=zk HN;omega)] at hW2
    have HW2:=zm hW2
    clear hW2
    go_wp2
    go_end0
    exact ⟨rfl,zk HW2⟩
 ·have HR:=zm hr
  simp only [ym,Tree.kind,Tree.kids,h1,if_false] at hl ⊢
  have HL:=zm hl
  have HS:=ye.start (bs:=bs) kd tx nm ps ao ks.length cp hN hB hp
  clear hp hB hK hl hr hN
  simp only [JF,JA]
  go_enter Tryz.func12,Tryz.ntmps12
  (go_wp2_with fail;with_reducible refine (ye.unk HS pl).mono ?_;(try clear cc);clear HS;rintro e wn ⟨rfl,HS⟩;have cc:=ye.cells HS)
  exact pe
open Go.RowKit Lx Px
theorem text_mk2 (k:Int) (x:List UInt8) (n p:Int) (l:List Tree):(Tree.mk k x n p l).text=x:=rfl
theorem kind_mk2 (k:Int) (x:List UInt8) (n p:Int) (l:List Tree):(Tree.mk k x n p l).kind=k:=rfl
theorem new_drew (w:World) (o:Obj):(w.alloc o).drew.heap[w.heap.size]?=some o:=yW w o rfl
theorem ye.sx {W0:World} {N b:Nat} {bs X:List UInt8} {d:Nat} {w wr:World} {g:Nat} {kd:Int} {tx:List UInt8} {nm ps:Int} {ao:Option Addr} {n cp:Nat} {s:List UInt8} (h:Hid (ye W0 N b bs X d w wr g kd tx nm ps ao n cp)) (hl:bs.length+(X.length+s.length)≤1099511627776) :
 Calls Tryz.prog 34 #[.pointer (some ⟨b,0,none⟩),.string ⟨s.toArray⟩] wr fun e w'=>(∃ v,e=.returned v)∧Hid (ye W0 N b bs (X++s) d w w' g kd tx nm ps ao n cp)∧∀ g' cs t,wr.heap[g']?=some (.cells cs t)→g'≠b→t≠5→w'.heap[g']?=some (.cells cs t):=
 (ws N b (bs++X) s d wr (zk h).1.1 zi (zk h).big).mono fun e w' q=>⟨q.1,(zk h).to q.2,fun g' cs t h1 h2 h3=>q.2.blk h1 h2 h3⟩
theorem qQ {W0:World} {N b:Nat} (hN:N=W0.heap.size) (digits:Int→List UInt8) (rec:PrJ→Nat→Tree→List UInt8) (d:Nat) (hd:d<1152921504606846976) (t:Tree) (hr:RH W0 N b rec .receiving d t) (ho:okJ .receiving t):JC W0 N b (ym digits rec) .receiving d t:=by
 intro kd tx nm ps ks ao cp e hK bs w hB hp hl
 subst e
 have HR:=zm hr
 clear hr
 have hkk:(Tree.mk kd tx nm ps ks).kind≠0:=ho
 obtain ⟨kd0,tx0,nm0,ps0,ks0,e0⟩:∃ a b c d e,yM (.mk kd tx nm ps ks) 0=Tree.mk a b c d e:=by cases yM (.mk kd tx nm ps ks) 0 with | mk a b c d e=>exact ⟨a,b,c,d,e,rfl⟩
 have hk0:(yM (.mk kd tx nm ps ks) 0).kind=kd0:=by rw [e0];rfl
 have htx0:(yM (.mk kd tx nm ps ks) 0).text=tx0:=by rw [e0];rfl
 have E0:=zm e0
 clear e0
 by_cases hk7:kd0=7
 ·subst hk7
  simp only [ym,kind_mk2,text_mk2,Tree.kids,Tree.num,Int.reduceEq,if_true,if_false,or_self,or_false,false_or,or_true,true_or,false_and,true_and,and_true,and_false,reduceIte,List.append_nil,List.nil_append,ne_eq,not_true_eq_false,not_false_eq_true,hk0,htx0] at hl ⊢
  have HL:=zm hl
  have HV:Hid (PV W0 _ kd tx nm ps ao ks.length cp):=zm ⟨ks,rfl,rfl,hK⟩
  have HS:=ye.start (bs:=bs) kd tx nm ps ao ks.length cp hN hB hp
  have ht:tx0.length≤1099511627776:=pl
  have hc1:¬9223372036854775807<tx0.length+4:=om
  clear hk0 htx0 hp hB hK hl hN
  try clear h0
  try clear h1
  try clear h2
  try clear hz
  simp only [JF,JA]
  go_enter Tryz.func125,Tryz.ntmps125
  (go_wp2_with fail;with_reducible refine (ye.tabs HS pl).mono ?_;(try clear cc);clear HS;rintro e wn ⟨rfl,HS⟩;have cc:=ye.cells HS)
  (go_wp2_with fail;(try simp only [ByteArray.mk_append_mk]);with_reducible refine (ye.s HS pl).mono ?_;(try clear cc);clear HS;rintro e wn ⟨⟨v,rfl⟩,HS⟩;have cc:=ye.cells HS)
  (go_wp2_with fail;with_reducible refine (ye.part 0 HS HV dc).mono ?_;(try clear cc);clear HS;rintro e wn ⟨⟨kd2,tx2,nm2,ps2,ao2,n2,cp2,rfl,HP⟩,HS⟩;have cc:=ye.cells HS)
  have hq2:kd2=7∧tx2=tx0:=by obtain ⟨_,e,_⟩:=zk HP;rw [zk E0] at e;simp only [Tree.mk.injEq] at e;exact ⟨e.1.symm,e.2.1.symm⟩
  obtain ⟨rfl,rfl⟩:=hq2
  have ha:=zr (zo wn none) (nO 7 tx2 nm2 ps2 ao2 n2 cp2)
  have hbn:wn.heap.size≠b:=by have:=(zk HS).1.1.lt;omega
  replace HS:=(zk HS).qu ha
  clear ha
  (try clear cc)
  have cc:=ye.cells HS
  go_wp2_with fail
  go_region_held2 (fun w'=>w'.cell? ⟨wn.heap.size,1,none⟩=some (.string ⟨tx2.toArray⟩)) (go_keep) (first | (go_at_call 34;(try simp only [ByteArray.mk_append_mk]);with_reducible refine (ye.sx (ye.dr HS) pl).mono ?_;(try clear cc);clear HS;rintro e wn2 ⟨⟨v,rfl⟩,HS,hx⟩;have q1:=(gV (hx wn.heap.size _ 25 (new_drew wn (nO 7 tx2 nm2 ps2 ao2 n2 cp2)) hbn dc)).2.1;clear hx;have cc:=ye.cells HS))
  (go_wp2_with fail;(try simp only [ByteArray.mk_append_mk]);with_reducible refine (ye.s HS pl).mono ?_;(try clear cc);clear HS;rintro e wn ⟨⟨v,rfl⟩,HS⟩;have cc:=ye.cells HS)
  (go_wp2_with fail;with_reducible refine (ye.part 1 HS HV dc).mono ?_;(try clear cc);clear HS;rintro e wn ⟨⟨kd2,tx2,nm2,ps2,ao2,n2,cp2,rfl,HP⟩,HS⟩;have cc:=ye.cells HS)
  (have HJ:=((zk (RHp HR .expr hkk 1 trivial)).pv HP);simp only [JF,JA] at HJ;go_wp2_with fail;with_reducible refine (ye.call HS HJ pl).mono ?_;(try clear cc);clear HS HJ;rintro e wn ⟨rfl,HS⟩;have cc:=ye.cells HS)
  (go_wp2_with fail;with_reducible refine (ye.part 2 HS HV dc).mono ?_;(try clear cc);clear HS;rintro e wn ⟨⟨kd2,tx2,nm2,ps2,ao2,n2,cp2,rfl,HP⟩,HS⟩;have cc:=ye.cells HS)
  (have HJ:=((zk (RHp HR .clauseStmts hkk 2 trivial)).pv HP);simp only [JF,JA] at HJ;go_wp2_with fail;with_reducible refine (ye.call HS HJ pl).mono ?_;(try clear cc);clear HS HJ;rintro e wn ⟨rfl,HS⟩;have cc:=ye.cells HS)
  exact pe
 ·skip
  simp only [ym,kind_mk2,text_mk2,Tree.kids,Tree.num,Int.reduceEq,if_true,if_false,or_self,or_false,false_or,or_true,true_or,false_and,true_and,and_true,and_false,reduceIte,List.append_nil,List.nil_append,ne_eq,not_true_eq_false,not_false_eq_true,hk0,htx0,hk7] at hl ⊢
  have HL:=zm hl
  have HV:Hid (PV W0 _ kd tx nm ps ao ks.length cp):=zm ⟨ks,rfl,rfl,hK⟩
  have HS:=ye.start (bs:=bs) kd tx nm ps ao ks.length cp hN hB hp
  clear hk0 htx0 hp hB hK hl hN
  try clear h0
  try clear h1
  try clear h2
  try clear hz
  simp only [JF,JA]
  go_enter Tryz.func125,Tryz.ntmps125
  (go_wp2_with fail;with_reducible refine (ye.tabs HS pl).mono ?_;(try clear cc);clear HS;rintro e wn ⟨rfl,HS⟩;have cc:=ye.cells HS)
  (go_wp2_with fail;(try simp only [ByteArray.mk_append_mk]);with_reducible refine (ye.s HS pl).mono ?_;(try clear cc);clear HS;rintro e wn ⟨⟨v,rfl⟩,HS⟩;have cc:=ye.cells HS)
  (go_wp2_with fail;with_reducible refine (ye.part 0 HS HV dc).mono ?_;(try clear cc);clear HS;rintro e wn ⟨⟨kd2,tx2,nm2,ps2,ao2,n2,cp2,rfl,HP⟩,HS⟩;have cc:=ye.cells HS)
  have hq2:kd2=kd0∧tx2=tx0:=by obtain ⟨_,e,_⟩:=zk HP;rw [zk E0] at e;simp only [Tree.mk.injEq] at e;exact ⟨e.1.symm,e.2.1.symm⟩
  obtain ⟨rfl,rfl⟩:=hq2
  have ha:=zr (zo wn none) (nO kd2 tx2 nm2 ps2 ao2 n2 cp2)
  replace HS:=(zk HS).qu ha
  clear ha
  (try clear cc)
  have cc:=ye.cells HS
  (go_wp2_with fail;(try simp only [ByteArray.mk_append_mk]);with_reducible refine (ye.s HS pl).mono ?_;(try clear cc);clear HS;rintro e wn ⟨⟨v,rfl⟩,HS⟩;have cc:=ye.cells HS)
  (go_wp2_with fail;with_reducible refine (ye.part 0 HS HV dc).mono ?_;(try clear cc);clear HS;rintro e wn ⟨⟨kd2,tx2,nm2,ps2,ao2,n2,cp2,rfl,HP⟩,HS⟩;have cc:=ye.cells HS)
  (have HJ:=((zk (RHp HR .expr hkk 0 trivial)).pv HP);simp only [JF,JA] at HJ;go_wp2_with fail;with_reducible refine (ye.call HS HJ pl).mono ?_;(try clear cc);clear HS HJ;rintro e wn ⟨rfl,HS⟩;have cc:=ye.cells HS)
  (go_wp2_with fail;with_reducible refine (ye.part 1 HS HV dc).mono ?_;(try clear cc);clear HS;rintro e wn ⟨⟨kd2,tx2,nm2,ps2,ao2,n2,cp2,rfl,HP⟩,HS⟩;have cc:=ye.cells HS)
  (have HJ:=((zk (RHp HR .clauseStmts hkk 1 trivial)).pv HP);simp only [JF,JA] at HJ;go_wp2_with fail;with_reducible refine (ye.call HS HJ pl).mono ?_;(try clear cc);clear HS HJ;rintro e wn ⟨rfl,HS⟩;have cc:=ye.cells HS)
  exact pe
end Go.Proofs.YtgbjpnnockoomaaGreatDoor.Pp
