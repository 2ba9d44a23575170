import Derived.Test.YtgbjpnnockoomaaGreatDoorPbk
set_option linter.unusedVariables false
set_option linter.unusedSimpArgs false
set_option maxHeartbeats 8000000
set_option maxRecDepth 100000
namespace Go.Proofs.YtgbjpnnockoomaaGreatDoor.Pp
open Go.RowKit Lx Px
theorem decl_step {W0:World} {N b:Nat} (hN:N=W0.heap.size) (digits:Int→List UInt8) (rec:PrJ→Nat→Tree→List UInt8) (d:Nat) (hd:d<1152921504606846976) (t:Tree) (hr:RH W0 N b rec .decl d t) (ho:okJ .decl t):JC W0 N b (ym digits rec) .decl d t:=by
 intro kd tx nm ps ks ao cp e hK bs w hB hp hl
 subst e
 have HR:=zm hr
 clear hr
 by_cases h2:kd=2
 ·subst h2
  have hkk:(Tree.mk 2 tx nm ps ks).kind≠0:=by simp [Tree.kind]
  simp only [ym,sS,sT,Int.reduceEq,reduceIte] at hl ⊢
  have HL:=zm hl
  have HV:Hid (PV W0 _ 2 tx nm ps ao ks.length cp):=zm ⟨ks,rfl,rfl,hK⟩
  have HS:=ye.start (bs:=bs) 2 tx nm ps ao ks.length cp hN hB hp
  have ht:tx.length≤1099511627776:=pl
  have hc5:¬9223372036854775807<5+tx.length:=om
  have hc6:¬9223372036854775807<5+tx.length+10:=om
  clear hp hB hK hl
  simp only [JF,JA]
  go_enter Tryz.func23,Tryz.ntmps23
  (go_wp2;go_region_held2 (fun w'=>w'.cell? ⟨w.heap.size,1,none⟩=some (.string ⟨tx.toArray⟩)) (go_keep) (first | (go_at_call 34;(try simp only [ByteArray.mk_append_mk]);with_reducible refine (ye.s (ye.dr HS) pl).mono ?_;(try clear cc);clear HS;rintro e wn ⟨⟨v,rfl⟩,HS⟩;have cc:=ye.cells HS)))
  (have hpj:di .field:=fun _ _=>rfl;have hjf:JF .field=36:=rfl;have hen:Ent 36:=dP 36 dc;have HU:=(RHk1 HR .field (l:=ks) (fun _=>trivial) (fun _ h=>h));have HQ:=(PV.rv HV);go_wp2_with fail;with_reducible refine (ye.lines .field HS HQ hpj hjf hen HU hd pl).mono ?_;clear hpj hjf hen HU HQ;(try clear cc);clear HS;rintro e wn ⟨rfl,HS⟩;have cc:=ye.cells HS)
  (go_wp2_with fail;with_reducible refine (ye.byte 125 HS dc pl).mono ?_;(try clear cc);clear HS;rintro e wn ⟨⟨v,rfl⟩,HS⟩;have cc:=ye.cells HS)
  exact pe
 by_cases h3:kd=3
 ·subst h3
  have hkk:(Tree.mk 3 tx nm ps ks).kind≠0:=by simp [Tree.kind]
  simp only [ym,sS,sT,Int.reduceEq,reduceIte] at hl ⊢
  have HL:=zm hl
  have HV:Hid (PV W0 _ 3 tx nm ps ao ks.length cp):=zm ⟨ks,rfl,rfl,hK⟩
  have HS:=ye.start (bs:=bs) 3 tx nm ps ao ks.length cp hN hB hp
  clear hp hB hK hl
  simp only [JF,JA]
  go_enter Tryz.func23,Tryz.ntmps23
  (go_wp2_with fail;(try simp only [ByteArray.mk_append_mk]);with_reducible refine (ye.s HS pl).mono ?_;(try clear cc);clear HS;rintro e wn ⟨⟨v,rfl⟩,HS⟩;have cc:=ye.cells HS)
  (have HJ:=((zk (RHs HR .typed dc zM)).pv HV);simp only [JF,JA] at HJ;go_wp2_with fail;with_reducible refine (ye.call HS HJ pl).mono ?_;(try clear cc);clear HS HJ;rintro e wn ⟨rfl,HS⟩;have cc:=ye.cells HS)
  exact pe
 by_cases h4:kd=4
 ·subst h4
  have hkk:(Tree.mk 4 tx nm ps ks).kind≠0:=by simp [Tree.kind]
  simp only [ym,sS,sT,Int.reduceEq,reduceIte] at hl ⊢
  have HL:=zm hl
  have HV:Hid (PV W0 _ 4 tx nm ps ao ks.length cp):=zm ⟨ks,rfl,rfl,hK⟩
  have HS:=ye.start (bs:=bs) 4 tx nm ps ao ks.length cp hN hB hp
  have ht:tx.length≤1099511627776:=pl
  have hc5:¬9223372036854775807<5+tx.length:=om
  clear hp hB hK hl
  simp only [JF,JA]
  go_enter Tryz.func23,Tryz.ntmps23
  (go_wp2;go_region_held2 (fun w'=>w'.cell? ⟨w.heap.size,1,none⟩=some (.string ⟨tx.toArray⟩)) (go_keep) (first | (go_at_call 34;(try simp only [ByteArray.mk_append_mk]);with_reducible refine (ye.s (ye.dr HS) pl).mono ?_;(try clear cc);clear HS;rintro e wn ⟨⟨v,rfl⟩,HS⟩;have cc:=ye.cells HS)))
  (have HJ:=((zk (RHs HR .function dc zM)).pv HV);simp only [JF,JA] at HJ;go_wp2_with fail;with_reducible refine (ye.call HS HJ pl).mono ?_;(try clear cc);clear HS HJ;rintro e wn ⟨rfl,HS⟩;have cc:=ye.cells HS)
  exact pe
 simp only [ym,sS,sT,Int.reduceEq,reduceIte,h2,h3,h4] at hl ⊢
 have HL:=zm hl
 have HV:Hid (PV W0 _ kd tx nm ps ao ks.length cp):=zm ⟨ks,rfl,rfl,hK⟩
 have HS:=ye.start (bs:=bs) kd tx nm ps ao ks.length cp hN hB hp
 clear hp hB hK hl
 simp only [JF,JA]
 go_enter Tryz.func23,Tryz.ntmps23
 (go_wp2_with fail;with_reducible refine (ye.unk HS pl).mono ?_;(try clear cc);clear HS;rintro e wn ⟨rfl,HS⟩;have cc:=ye.cells HS)
 exact pe
theorem wtype_step {W0:World} {N b:Nat} (hN:N=W0.heap.size) (digits:Int→List UInt8) (rec:PrJ→Nat→Tree→List UInt8) (d:Nat) (hd:d<1152921504606846976) (t:Tree) (hr:RH W0 N b rec .wtype d t) (ho:okJ .wtype t):JC W0 N b (ym digits rec) .wtype d t:=by
 intro kd tx nm ps ks ao cp e hK bs w hB hp hl
 subst e
 have HR:=zm hr
 clear hr
 by_cases h9:kd=9
 ·subst h9
  have hkk:(Tree.mk 9 tx nm ps ks).kind≠0:=by simp [Tree.kind]
  simp only [ym,sS,sT,Int.reduceEq,reduceIte] at hl ⊢
  have HL:=zm hl
  have HV:Hid (PV W0 _ 9 tx nm ps ao ks.length cp):=zm ⟨ks,rfl,rfl,hK⟩
  have HS:=ye.start (bs:=bs) 9 tx nm ps ao ks.length cp hN hB hp
  clear hp hB hK hl
  simp only [JF,JA]
  go_enter Tryz.func60,Tryz.ntmps60
  (go_wp2_with fail;(try simp only [ByteArray.mk_append_mk]);with_reducible refine (ye.s HS pl).mono ?_;(try clear cc);clear HS;rintro e wn ⟨⟨v,rfl⟩,HS⟩;have cc:=ye.cells HS)
  exact pe
 by_cases h10:kd=10
 ·subst h10
  have hkk:(Tree.mk 10 tx nm ps ks).kind≠0:=by simp [Tree.kind]
  simp only [ym,sS,sT,Int.reduceEq,reduceIte] at hl ⊢
  have HL:=zm hl
  have HV:Hid (PV W0 _ 10 tx nm ps ao ks.length cp):=zm ⟨ks,rfl,rfl,hK⟩
  have HS:=ye.start (bs:=bs) 10 tx nm ps ao ks.length cp hN hB hp
  clear hp hB hK hl
  simp only [JF,JA]
  go_enter Tryz.func60,Tryz.ntmps60
  (go_wp2_with fail;(try simp only [ByteArray.mk_append_mk]);with_reducible refine (ye.s HS pl).mono ?_;(try clear cc);clear HS;rintro e wn ⟨⟨v,rfl⟩,HS⟩;have cc:=ye.cells HS)
  exact pe
 by_cases h11:kd=11
 ·subst h11
  have hkk:(Tree.mk 11 tx nm ps ks).kind≠0:=by simp [Tree.kind]
  simp only [ym,sS,sT,Int.reduceEq,reduceIte] at hl ⊢
  have HL:=zm hl
  have HV:Hid (PV W0 _ 11 tx nm ps ao ks.length cp):=zm ⟨ks,rfl,rfl,hK⟩
  have HS:=ye.start (bs:=bs) 11 tx nm ps ao ks.length cp hN hB hp
  clear hp hB hK hl
  simp only [JF,JA]
  go_enter Tryz.func60,Tryz.ntmps60
  (go_wp2_with fail;(try simp only [ByteArray.mk_append_mk]);with_reducible refine (ye.s HS pl).mono ?_;(try clear cc);clear HS;rintro e wn ⟨⟨v,rfl⟩,HS⟩;have cc:=ye.cells HS)
  exact pe
 by_cases h12:kd=12
 ·subst h12
  have hkk:(Tree.mk 12 tx nm ps ks).kind≠0:=by simp [Tree.kind]
  simp only [ym,sS,sT,Int.reduceEq,reduceIte] at hl ⊢
  have HL:=zm hl
  have HV:Hid (PV W0 _ 12 tx nm ps ao ks.length cp):=zm ⟨ks,rfl,rfl,hK⟩
  have HS:=ye.start (bs:=bs) 12 tx nm ps ao ks.length cp hN hB hp
  have ht:tx.length≤1099511627776:=pl
  have hc5:¬9223372036854775807<1+tx.length:=om
  clear hp hB hK hl
  simp only [JF,JA]
  go_enter Tryz.func60,Tryz.ntmps60
  (go_wp2;go_region_held2 (fun w'=>w'.cell? ⟨w.heap.size,1,none⟩=some (.string ⟨tx.toArray⟩)) (go_keep) (first | (go_at_call 34;(try simp only [ByteArray.mk_append_mk]);with_reducible refine (ye.s (ye.dr HS) pl).mono ?_;(try clear cc);clear HS;rintro e wn ⟨⟨v,rfl⟩,HS⟩;have cc:=ye.cells HS)))
  exact pe
 by_cases h13:kd=13
 ·subst h13
  have hkk:(Tree.mk 13 tx nm ps ks).kind≠0:=by simp [Tree.kind]
  simp only [ym,sS,sT,Int.reduceEq,reduceIte] at hl ⊢
  have HL:=zm hl
  have HV:Hid (PV W0 _ 13 tx nm ps ao ks.length cp):=zm ⟨ks,rfl,rfl,hK⟩
  have HS:=ye.start (bs:=bs) 13 tx nm ps ao ks.length cp hN hB hp
  clear hp hB hK hl
  simp only [JF,JA]
  go_enter Tryz.func60,Tryz.ntmps60
  (go_wp2_with fail;(try simp only [ByteArray.mk_append_mk]);with_reducible refine (ye.s HS pl).mono ?_;(try clear cc);clear HS;rintro e wn ⟨⟨v,rfl⟩,HS⟩;have cc:=ye.cells HS)
  (go_wp2_with fail;with_reducible refine (ye.part 0 HS HV dc).mono ?_;(try clear cc);clear HS;rintro e wn ⟨⟨kd2,tx2,nm2,ps2,ao2,n2,cp2,rfl,HP⟩,HS⟩;have cc:=ye.cells HS)
  (have HJ:=((zk (RHp HR .wtype hkk 0 trivial)).pv HP);simp only [JF,JA] at HJ;go_wp2_with fail;with_reducible refine (ye.call HS HJ pl).mono ?_;(try clear cc);clear HS HJ;rintro e wn ⟨rfl,HS⟩;have cc:=ye.cells HS)
  exact pe
 by_cases h14:kd=14
 ·subst h14
  have hkk:(Tree.mk 14 tx nm ps ks).kind≠0:=by simp [Tree.kind]
  simp only [ym,sS,sT,Int.reduceEq,reduceIte] at hl ⊢
  have HL:=zm hl
  have HV:Hid (PV W0 _ 14 tx nm ps ao ks.length cp):=zm ⟨ks,rfl,rfl,hK⟩
  have HS:=ye.start (bs:=bs) 14 tx nm ps ao ks.length cp hN hB hp
  clear hp hB hK hl
  simp only [JF,JA]
  go_enter Tryz.func60,Tryz.ntmps60
  (go_wp2_with fail;(try simp only [ByteArray.mk_append_mk]);with_reducible refine (ye.s HS pl).mono ?_;(try clear cc);clear HS;rintro e wn ⟨⟨v,rfl⟩,HS⟩;have cc:=ye.cells HS)
  (go_wp2_with fail;with_reducible refine (ye.part 0 HS HV dc).mono ?_;(try clear cc);clear HS;rintro e wn ⟨⟨kd2,tx2,nm2,ps2,ao2,n2,cp2,rfl,HP⟩,HS⟩;have cc:=ye.cells HS)
  (have HJ:=((zk (RHp HR .wtype hkk 0 trivial)).pv HP);simp only [JF,JA] at HJ;go_wp2_with fail;with_reducible refine (ye.call HS HJ pl).mono ?_;(try clear cc);clear HS HJ;rintro e wn ⟨rfl,HS⟩;have cc:=ye.cells HS)
  exact pe
 by_cases h15:kd=15
 ·subst h15
  have hkk:(Tree.mk 15 tx nm ps ks).kind≠0:=by simp [Tree.kind]
  simp only [ym,sS,sT,Int.reduceEq,reduceIte] at hl ⊢
  have HL:=zm hl
  have HV:Hid (PV W0 _ 15 tx nm ps ao ks.length cp):=zm ⟨ks,rfl,rfl,hK⟩
  have HS:=ye.start (bs:=bs) 15 tx nm ps ao ks.length cp hN hB hp
  clear hp hB hK hl
  simp only [JF,JA]
  go_enter Tryz.func60,Tryz.ntmps60
  (go_wp2_with fail;(try simp only [ByteArray.mk_append_mk]);with_reducible refine (ye.s HS pl).mono ?_;(try clear cc);clear HS;rintro e wn ⟨⟨v,rfl⟩,HS⟩;have cc:=ye.cells HS)
  (go_wp2_with fail;with_reducible refine (ye.until_ HS HV).mono ?_;(try clear cc);clear HS;rintro e wn ⟨⟨ar,nr,cr,rfl,HR2⟩,HS⟩;have cc:=ye.cells HS)
  (have hpj:di .wtype:=fun _ _=>rfl;have hjf:JF .wtype=60:=rfl;have hen:Ent 60:=dP 60 dc;have HU:=(RHk HR .wtype (l:=ks.take (ks.length-1)) (fun _=>trivial) (fun _ h=>List.mem_of_mem_take h));have HQ:=HR2;go_wp2_with fail;with_reducible refine (ye.list .wtype HS HQ hpj hjf hen HU pl).mono ?_;clear hpj hjf hen HU HQ;(try clear cc);clear HS;rintro e wn ⟨rfl,HS⟩;have cc:=ye.cells HS)
  (go_wp2_with fail;with_reducible refine (ye.byte 41 HS dc pl).mono ?_;(try clear cc);clear HS;rintro e wn ⟨⟨v,rfl⟩,HS⟩;have cc:=ye.cells HS)
  (go_wp2_with fail;with_reducible refine (ye.last HS HV).mono ?_;(try clear cc);clear HS;rintro e wn ⟨⟨kd2,tx2,nm2,ps2,ao2,n2,cp2,rfl,HP⟩,HS⟩;have cc:=ye.cells HS)
  (have hpj:di .wtype:=fun _ _=>rfl;have hjf:JF .wtype=60:=rfl;have hen:Ent 60:=dP 60 dc;have HU:=(RHp HR .wtype hkk (ks.length-1) trivial);go_wp2_with fail;with_reducible refine (ye.unl .wtype HS HP hpj hjf hen HU pl).mono ?_;clear hpj hjf hen HU;(try clear cc);clear HS;rintro e wn ⟨rfl,HS⟩;have cc:=ye.cells HS)
  exact pe
 simp only [ym,sS,sT,Int.reduceEq,reduceIte,h9,h10,h11,h12,h13,h14,h15] at hl ⊢
 have HL:=zm hl
 have HV:Hid (PV W0 _ kd tx nm ps ao ks.length cp):=zm ⟨ks,rfl,rfl,hK⟩
 have HS:=ye.start (bs:=bs) kd tx nm ps ao ks.length cp hN hB hp
 clear hp hB hK hl
 simp only [JF,JA]
 go_enter Tryz.func60,Tryz.ntmps60
 (go_wp2_with fail;with_reducible refine (ye.unk HS pl).mono ?_;(try clear cc);clear HS;rintro e wn ⟨rfl,HS⟩;have cc:=ye.cells HS)
 exact pe
end Go.Proofs.YtgbjpnnockoomaaGreatDoor.Pp
