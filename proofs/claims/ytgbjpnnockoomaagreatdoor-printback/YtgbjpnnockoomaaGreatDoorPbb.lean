import Derived.Test.YtgbjpnnockoomaaGreatDoorPbk
set_option linter.unusedVariables false
set_option linter.unusedSimpArgs false
set_option maxHeartbeats 8000000
set_option maxRecDepth 100000
namespace Go.Proofs.YtgbjpnnockoomaaGreatDoor.Pp
open Go.RowKit Lx Px
theorem vI {W0:World} {N b:Nat} (hN:N=W0.heap.size) (digits:Int→List UInt8) (rec:PrJ→Nat→Tree→List UInt8) (d:Nat) (hd:d<1152921504606846976) (t:Tree) (hr:RH W0 N b rec .primary d t) (ho:okJ .primary t):JC W0 N b (ym digits rec) .primary d t:=by
 intro kd tx nm ps ks ao cp e hK bs w hB hp hl
 subst e
 have HR:=zm hr
 clear hr
 by_cases h43:kd=43
 ·subst h43
  have hkk:(Tree.mk 43 tx nm ps ks).kind≠0:=by simp [Tree.kind]
  simp only [ym,sS,sT,Int.reduceEq,reduceIte] at hl ⊢
  have HL:=zm hl
  have HV:Hid (PV W0 _ 43 tx nm ps ao ks.length cp):=zm ⟨ks,rfl,rfl,hK⟩
  have HS:=ye.start (bs:=bs) 43 tx nm ps ao ks.length cp hN hB hp
  clear hp hB hK hl
  simp only [JF,JA]
  go_enter Tryz.func106,Tryz.ntmps106
  (go_wp2_with fail;with_reducible refine (ye.part 0 HS HV dc).mono ?_;(try clear cc);clear HS;rintro e wn ⟨⟨kd2,tx2,nm2,ps2,ao2,n2,cp2,rfl,HP⟩,HS⟩;have cc:=ye.cells HS)
  (have HJ:=((zk (RHp HR .expr hkk 0 trivial)).pv HP);simp only [JF,JA] at HJ;go_wp2_with fail;with_reducible refine (ye.call HS HJ pl).mono ?_;(try clear cc);clear HS HJ;rintro e wn ⟨rfl,HS⟩;have cc:=ye.cells HS)
  (go_wp2_with fail;with_reducible refine (ye.byte 40 HS dc pl).mono ?_;(try clear cc);clear HS;rintro e wn ⟨⟨v,rfl⟩,HS⟩;have cc:=ye.cells HS)
  (go_wp2_with fail;with_reducible refine (ye.from_ HS HV).mono ?_;(try clear cc);clear HS;rintro e wn ⟨⟨ar,nr,cr,rfl,HR2⟩,HS⟩;have cc:=ye.cells HS)
  (have hpj:di .expr:=fun _ _=>rfl;have hjf:JF .expr=91:=rfl;have hen:Ent 91:=dP 91 dc;have HU:=(RHk HR .expr (l:=ks.drop 1) (fun _=>trivial) (fun _ h=>List.mem_of_mem_drop h));have HQ:=HR2;go_wp2_with fail;with_reducible refine (ye.list .expr HS HQ hpj hjf hen HU pl).mono ?_;clear hpj hjf hen HU HQ;(try clear cc);clear HS;rintro e wn ⟨rfl,HS⟩;have cc:=ye.cells HS)
  (go_wp2_with fail;with_reducible refine (ye.byte 41 HS dc pl).mono ?_;(try clear cc);clear HS;rintro e wn ⟨⟨v,rfl⟩,HS⟩;have cc:=ye.cells HS)
  exact pe
 by_cases h45:kd=45
 ·subst h45
  have hkk:(Tree.mk 45 tx nm ps ks).kind≠0:=by simp [Tree.kind]
  simp only [ym,sS,sT,Int.reduceEq,reduceIte] at hl ⊢
  have HL:=zm hl
  have HV:Hid (PV W0 _ 45 tx nm ps ao ks.length cp):=zm ⟨ks,rfl,rfl,hK⟩
  have HS:=ye.start (bs:=bs) 45 tx nm ps ao ks.length cp hN hB hp
  clear hp hB hK hl
  simp only [JF,JA]
  go_enter Tryz.func106,Tryz.ntmps106
  (go_wp2_with fail;with_reducible refine (ye.part 0 HS HV dc).mono ?_;(try clear cc);clear HS;rintro e wn ⟨⟨kd2,tx2,nm2,ps2,ao2,n2,cp2,rfl,HP⟩,HS⟩;have cc:=ye.cells HS)
  (have HJ:=((zk (RHp HR .expr hkk 0 trivial)).pv HP);simp only [JF,JA] at HJ;go_wp2_with fail;with_reducible refine (ye.call HS HJ pl).mono ?_;(try clear cc);clear HS HJ;rintro e wn ⟨rfl,HS⟩;have cc:=ye.cells HS)
  (go_wp2_with fail;with_reducible refine (ye.byte 91 HS dc pl).mono ?_;(try clear cc);clear HS;rintro e wn ⟨⟨v,rfl⟩,HS⟩;have cc:=ye.cells HS)
  (go_wp2_with fail;with_reducible refine (ye.part 1 HS HV dc).mono ?_;(try clear cc);clear HS;rintro e wn ⟨⟨kd2,tx2,nm2,ps2,ao2,n2,cp2,rfl,HP⟩,HS⟩;have cc:=ye.cells HS)
  (have HJ:=((zk (RHp HR .expr hkk 1 trivial)).pv HP);simp only [JF,JA] at HJ;go_wp2_with fail;with_reducible refine (ye.call HS HJ pl).mono ?_;(try clear cc);clear HS HJ;rintro e wn ⟨rfl,HS⟩;have cc:=ye.cells HS)
  (go_wp2_with fail;with_reducible refine (ye.byte 93 HS dc pl).mono ?_;(try clear cc);clear HS;rintro e wn ⟨⟨v,rfl⟩,HS⟩;have cc:=ye.cells HS)
  exact pe
 by_cases h46:kd=46
 ·subst h46
  have hkk:(Tree.mk 46 tx nm ps ks).kind≠0:=by simp [Tree.kind]
  simp only [ym,sS,sT,Int.reduceEq,reduceIte] at hl ⊢
  have HL:=zm hl
  have HV:Hid (PV W0 _ 46 tx nm ps ao ks.length cp):=zm ⟨ks,rfl,rfl,hK⟩
  have HS:=ye.start (bs:=bs) 46 tx nm ps ao ks.length cp hN hB hp
  clear hp hB hK hl
  simp only [JF,JA]
  go_enter Tryz.func106,Tryz.ntmps106
  (go_wp2_with fail;with_reducible refine (ye.part 0 HS HV dc).mono ?_;(try clear cc);clear HS;rintro e wn ⟨⟨kd2,tx2,nm2,ps2,ao2,n2,cp2,rfl,HP⟩,HS⟩;have cc:=ye.cells HS)
  (have HJ:=((zk (RHp HR .expr hkk 0 trivial)).pv HP);simp only [JF,JA] at HJ;go_wp2_with fail;with_reducible refine (ye.call HS HJ pl).mono ?_;(try clear cc);clear HS HJ;rintro e wn ⟨rfl,HS⟩;have cc:=ye.cells HS)
  (go_wp2_with fail;with_reducible refine (ye.byte 91 HS dc pl).mono ?_;(try clear cc);clear HS;rintro e wn ⟨⟨v,rfl⟩,HS⟩;have cc:=ye.cells HS)
  (go_wp2_with fail;with_reducible refine (ye.part 1 HS HV dc).mono ?_;(try clear cc);clear HS;rintro e wn ⟨⟨kd2,tx2,nm2,ps2,ao2,n2,cp2,rfl,HP⟩,HS⟩;have cc:=ye.cells HS)
  (have hpj:di .expr:=fun _ _=>rfl;have hjf:JF .expr=91:=rfl;have hen:Ent 91:=dP 91 dc;have HU:=(RHp HR .expr hkk 1 trivial);go_wp2_with fail;with_reducible refine (ye.unl .expr HS HP hpj hjf hen HU pl).mono ?_;clear hpj hjf hen HU;(try clear cc);clear HS;rintro e wn ⟨rfl,HS⟩;have cc:=ye.cells HS)
  (go_wp2_with fail;with_reducible refine (ye.byte 58 HS dc pl).mono ?_;(try clear cc);clear HS;rintro e wn ⟨⟨v,rfl⟩,HS⟩;have cc:=ye.cells HS)
  (go_wp2_with fail;with_reducible refine (ye.part 2 HS HV dc).mono ?_;(try clear cc);clear HS;rintro e wn ⟨⟨kd2,tx2,nm2,ps2,ao2,n2,cp2,rfl,HP⟩,HS⟩;have cc:=ye.cells HS)
  (have hpj:di .expr:=fun _ _=>rfl;have hjf:JF .expr=91:=rfl;have hen:Ent 91:=dP 91 dc;have HU:=(RHp HR .expr hkk 2 trivial);go_wp2_with fail;with_reducible refine (ye.unl .expr HS HP hpj hjf hen HU pl).mono ?_;clear hpj hjf hen HU;(try clear cc);clear HS;rintro e wn ⟨rfl,HS⟩;have cc:=ye.cells HS)
  (go_wp2_with fail;with_reducible refine (ye.byte 93 HS dc pl).mono ?_;(try clear cc);clear HS;rintro e wn ⟨⟨v,rfl⟩,HS⟩;have cc:=ye.cells HS)
  exact pe
 by_cases h47:kd=47
 ·subst h47
  have hkk:(Tree.mk 47 tx nm ps ks).kind≠0:=by simp [Tree.kind]
  simp only [ym,sS,sT,Int.reduceEq,reduceIte] at hl ⊢
  have HL:=zm hl
  have HV:Hid (PV W0 _ 47 tx nm ps ao ks.length cp):=zm ⟨ks,rfl,rfl,hK⟩
  have HS:=ye.start (bs:=bs) 47 tx nm ps ao ks.length cp hN hB hp
  have ht:tx.length≤1099511627776:=pl
  have hc5:¬9223372036854775807<1+tx.length:=om
  clear hp hB hK hl
  simp only [JF,JA]
  go_enter Tryz.func106,Tryz.ntmps106
  (go_wp2_with fail;with_reducible refine (ye.part 0 HS HV dc).mono ?_;(try clear cc);clear HS;rintro e wn ⟨⟨kd2,tx2,nm2,ps2,ao2,n2,cp2,rfl,HP⟩,HS⟩;have cc:=ye.cells HS)
  (have HJ:=((zk (RHp HR .expr hkk 0 trivial)).pv HP);simp only [JF,JA] at HJ;go_wp2_with fail;with_reducible refine (ye.call HS HJ pl).mono ?_;(try clear cc);clear HS HJ;rintro e wn ⟨rfl,HS⟩;have cc:=ye.cells HS)
  (go_wp2;go_region_held2 (fun w'=>w'.cell? ⟨w.heap.size,1,none⟩=some (.string ⟨tx.toArray⟩)) (go_keep) (first | (go_at_call 34;(try simp only [ByteArray.mk_append_mk]);with_reducible refine (ye.s (ye.dr HS) pl).mono ?_;(try clear cc);clear HS;rintro e wn ⟨⟨v,rfl⟩,HS⟩;have cc:=ye.cells HS)))
  exact pe
 simp only [ym,sS,sT,Int.reduceEq,reduceIte,h43,h45,h46,h47] at hl ⊢
 have HL:=zm hl
 have HV:Hid (PV W0 _ kd tx nm ps ao ks.length cp):=zm ⟨ks,rfl,rfl,hK⟩
 have HS:=ye.start (bs:=bs) kd tx nm ps ao ks.length cp hN hB hp
 clear hp hB hK hl
 simp only [JF,JA]
 go_enter Tryz.func106,Tryz.ntmps106
 (go_wp2_with fail;with_reducible refine (ye.unk HS pl).mono ?_;(try clear cc);clear HS;rintro e wn ⟨rfl,HS⟩;have cc:=ye.cells HS)
 exact pe
theorem uQ {W0:World} {N b:Nat} (hN:N=W0.heap.size) (digits:Int→List UInt8) (rec:PrJ→Nat→Tree→List UInt8) (d:Nat) (hd:d<1152921504606846976) (t:Tree) (hr:RH W0 N b rec .initial d t) (ho:okJ .initial t):JC W0 N b (ym digits rec) .initial d t:=by
 intro kd tx nm ps ks ao cp e hK bs w hB hp hl
 subst e
 have HR:=zm hr
 clear hr
 by_cases h5:kd=5
 ·subst h5
  have hkk:(Tree.mk 5 tx nm ps ks).kind≠0:=by simp [Tree.kind]
  simp only [ym,sS,sT,Int.reduceEq,reduceIte] at hl ⊢
  have HL:=zm hl
  have HV:Hid (PV W0 _ 5 tx nm ps ao ks.length cp):=zm ⟨ks,rfl,rfl,hK⟩
  have HS:=ye.start (bs:=bs) 5 tx nm ps ao ks.length cp hN hB hp
  have ht:tx.length≤1099511627776:=pl
  have hc5:¬9223372036854775807<tx.length+2:=om
  clear hp hB hK hl
  simp only [JF,JA]
  go_enter Tryz.func104,Tryz.ntmps104
  (go_wp2;go_region_held2 (fun w'=>w'.cell? ⟨w.heap.size,1,none⟩=some (.string ⟨tx.toArray⟩)) (go_keep) (first | (go_at_call 34;(try simp only [ByteArray.mk_append_mk]);with_reducible refine (ye.s (ye.dr HS) pl).mono ?_;(try clear cc);clear HS;rintro e wn ⟨⟨v,rfl⟩,HS⟩;have cc:=ye.cells HS)))
  (go_wp2_with fail;with_reducible refine (ye.part 0 HS HV dc).mono ?_;(try clear cc);clear HS;rintro e wn ⟨⟨kd2,tx2,nm2,ps2,ao2,n2,cp2,rfl,HP⟩,HS⟩;have cc:=ye.cells HS)
  (have HJ:=((zk (RHp HR .expr hkk 0 trivial)).pv HP);simp only [JF,JA] at HJ;go_wp2_with fail;with_reducible refine (ye.call HS HJ pl).mono ?_;(try clear cc);clear HS HJ;rintro e wn ⟨rfl,HS⟩;have cc:=ye.cells HS)
  exact pe
 simp only [ym,sS,sT,Int.reduceEq,reduceIte,h5] at hl ⊢
 have HL:=zm hl
 have HV:Hid (PV W0 _ kd tx nm ps ao ks.length cp):=zm ⟨ks,rfl,rfl,hK⟩
 have HS:=ye.start (bs:=bs) kd tx nm ps ao ks.length cp hN hB hp
 clear hp hB hK hl
 simp only [JF,JA]
 go_enter Tryz.func104,Tryz.ntmps104
 (go_wp2_with fail;with_reducible refine (ye.unk HS pl).mono ?_;(try clear cc);clear HS;rintro e wn ⟨rfl,HS⟩;have cc:=ye.cells HS)
 exact pe
theorem vH {W0:World} {N b:Nat} (hN:N=W0.heap.size) (digits:Int→List UInt8) (rec:PrJ→Nat→Tree→List UInt8) (d:Nat) (hd:d<1152921504606846976) (t:Tree) (hr:RH W0 N b rec .pointed d t) (ho:okJ .pointed t):JC W0 N b (ym digits rec) .pointed d t:=by
 intro kd tx nm ps ks ao cp e hK bs w hB hp hl
 subst e
 have HR:=zm hr
 clear hr
 by_cases h12:kd=12
 ·subst h12
  have hkk:(Tree.mk 12 tx nm ps ks).kind≠0:=by simp [Tree.kind]
  simp only [ym,sS,sT,Int.reduceEq,reduceIte] at hl ⊢
  have HL:=zm hl
  have HV:Hid (PV W0 _ 12 tx nm ps ao ks.length cp):=zm ⟨ks,rfl,rfl,hK⟩
  have HS:=ye.start (bs:=bs) 12 tx nm ps ao ks.length cp hN hB hp
  clear hp hB hK hl
  simp only [JF,JA]
  go_enter Tryz.func122,Tryz.ntmps122
  (go_wp2;go_region_held2 (fun w'=>w'.cell? ⟨w.heap.size,1,none⟩=some (.string ⟨tx.toArray⟩)) (go_keep) (first | (go_at_call 34;(try simp only [ByteArray.mk_append_mk]);with_reducible refine (ye.s (ye.dr HS) pl).mono ?_;(try clear cc);clear HS;rintro e wn ⟨⟨v,rfl⟩,HS⟩;have cc:=ye.cells HS)))
  exact pe
 simp only [ym,sS,sT,Int.reduceEq,reduceIte,h12] at hl ⊢
 have HL:=zm hl
 have HV:Hid (PV W0 _ kd tx nm ps ao ks.length cp):=zm ⟨ks,rfl,rfl,hK⟩
 have HS:=ye.start (bs:=bs) kd tx nm ps ao ks.length cp hN hB hp
 clear hp hB hK hl
 simp only [JF,JA]
 go_enter Tryz.func122,Tryz.ntmps122
 (go_wp2_with fail;with_reducible refine (ye.unk HS pl).mono ?_;(try clear cc);clear HS;rintro e wn ⟨rfl,HS⟩;have cc:=ye.cells HS)
 exact pe
end Go.Proofs.YtgbjpnnockoomaaGreatDoor.Pp
