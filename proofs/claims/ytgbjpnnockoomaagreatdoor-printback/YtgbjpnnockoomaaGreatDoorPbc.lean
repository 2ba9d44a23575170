import Derived.Test.YtgbjpnnockoomaaGreatDoorPbk
set_option linter.unusedVariables false
set_option linter.unusedSimpArgs false
set_option maxHeartbeats 8000000
set_option maxRecDepth 100000
namespace Go.Proofs.YtgbjpnnockoomaaGreatDoor.Pp
open Go.RowKit Lx Px
theorem simple_step {W0:World} {N b:Nat} (hN:N=W0.heap.size) (digits:Int→List UInt8) (rec:PrJ→Nat→Tree→List UInt8) (d:Nat) (hd:d<1152921504606846976) (t:Tree) (hr:RH W0 N b rec .simple d t) (ho:okJ .simple t):JC W0 N b (ym digits rec) .simple d t:=by
 intro kd tx nm ps ks ao cp e hK bs w hB hp hl
 subst e
 have HR:=zm hr
 clear hr
 by_cases h17:kd=17
 ·subst h17
  have hkk:(Tree.mk 17 tx nm ps ks).kind≠0:=by simp [Tree.kind]
  simp only [ym,sS,sT,Int.reduceEq,reduceIte] at hl ⊢
  have HL:=zm hl
  have HV:Hid (PV W0 _ 17 tx nm ps ao ks.length cp):=zm ⟨ks,rfl,rfl,hK⟩
  have HS:=ye.start (bs:=bs) 17 tx nm ps ao ks.length cp hN hB hp
  have ht:tx.length≤1099511627776:=pl
  have hc5:¬9223372036854775807<tx.length+4:=om
  clear hp hB hK hl
  simp only [JF,JA]
  go_enter Tryz.func97,Tryz.ntmps97
  (go_wp2;go_region_held2 (fun w'=>w'.cell? ⟨w.heap.size,1,none⟩=some (.string ⟨tx.toArray⟩)) (go_keep) (first | (go_at_call 34;(try simp only [ByteArray.mk_append_mk]);with_reducible refine (ye.s (ye.dr HS) pl).mono ?_;(try clear cc);clear HS;rintro e wn ⟨⟨v,rfl⟩,HS⟩;have cc:=ye.cells HS)))
  (go_wp2_with fail;with_reducible refine (ye.part 0 HS HV dc).mono ?_;(try clear cc);clear HS;rintro e wn ⟨⟨kd2,tx2,nm2,ps2,ao2,n2,cp2,rfl,HP⟩,HS⟩;have cc:=ye.cells HS)
  (have HJ:=((zk (RHp HR .expr hkk 0 trivial)).pv HP);simp only [JF,JA] at HJ;go_wp2_with fail;with_reducible refine (ye.call HS HJ pl).mono ?_;(try clear cc);clear HS HJ;rintro e wn ⟨rfl,HS⟩;have cc:=ye.cells HS)
  exact pe
 by_cases h19:kd=19
 ·subst h19
  have hkk:(Tree.mk 19 tx nm ps ks).kind≠0:=by simp [Tree.kind]
  simp only [ym,sS,sT,Int.reduceEq,reduceIte] at hl ⊢
  have HL:=zm hl
  have HV:Hid (PV W0 _ 19 tx nm ps ao ks.length cp):=zm ⟨ks,rfl,rfl,hK⟩
  have HS:=ye.start (bs:=bs) 19 tx nm ps ao ks.length cp hN hB hp
  clear hp hB hK hl
  simp only [JF,JA]
  go_enter Tryz.func97,Tryz.ntmps97
  (have HJ:=((zk (RHr HR (.both tx) (by simp [rnk]) zM)).pv HV);simp only [JF,JA] at HJ;go_wp2_with fail;with_reducible refine (ye.call HS HJ pl).mono ?_;(try clear cc);clear HS HJ;rintro e wn ⟨rfl,HS⟩;have cc:=ye.cells HS)
  exact pe
 by_cases h20:kd=20
 ·subst h20
  have hkk:(Tree.mk 20 tx nm ps ks).kind≠0:=by simp [Tree.kind]
  simp only [ym,sS,sT,Int.reduceEq,reduceIte] at hl ⊢
  have HL:=zm hl
  have HV:Hid (PV W0 _ 20 tx nm ps ao ks.length cp):=zm ⟨ks,rfl,rfl,hK⟩
  have HS:=ye.start (bs:=bs) 20 tx nm ps ao ks.length cp hN hB hp
  clear hp hB hK hl
  simp only [JF,JA]
  go_enter Tryz.func97,Tryz.ntmps97
  (go_wp2_with fail;with_reducible refine (ye.part 0 HS HV dc).mono ?_;(try clear cc);clear HS;rintro e wn ⟨⟨kd2,tx2,nm2,ps2,ao2,n2,cp2,rfl,HP⟩,HS⟩;have cc:=ye.cells HS)
  (have HJ:=((zk (RHp HR .expr hkk 0 trivial)).pv HP);simp only [JF,JA] at HJ;go_wp2_with fail;with_reducible refine (ye.call HS HJ pl).mono ?_;(try clear cc);clear HS HJ;rintro e wn ⟨rfl,HS⟩;have cc:=ye.cells HS)
  (go_wp2;go_region_held2 (fun w'=>w'.cell? ⟨w.heap.size,1,none⟩=some (.string ⟨tx.toArray⟩)) (go_keep) (first | (go_at_call 34;(try simp only [ByteArray.mk_append_mk]);with_reducible refine (ye.s (ye.dr HS) pl).mono ?_;(try clear cc);clear HS;rintro e wn ⟨⟨v,rfl⟩,HS⟩;have cc:=ye.cells HS)))
  exact pe
 by_cases h33:kd=33
 ·subst h33
  have hkk:(Tree.mk 33 tx nm ps ks).kind≠0:=by simp [Tree.kind]
  simp only [ym,sS,sT,Int.reduceEq,reduceIte] at hl ⊢
  have HL:=zm hl
  have HV:Hid (PV W0 _ 33 tx nm ps ao ks.length cp):=zm ⟨ks,rfl,rfl,hK⟩
  have HS:=ye.start (bs:=bs) 33 tx nm ps ao ks.length cp hN hB hp
  clear hp hB hK hl
  simp only [JF,JA]
  go_enter Tryz.func97,Tryz.ntmps97
  (have HJ:=((zk (RHr HR (.both [60,45]) (by simp [rnk]) zM)).pv HV);simp only [JF,JA] at HJ;go_wp2_with fail;with_reducible refine (ye.call HS HJ pl).mono ?_;(try clear cc);clear HS HJ;rintro e wn ⟨rfl,HS⟩;have cc:=ye.cells HS)
  exact pe
 by_cases h34:kd=34
 ·subst h34
  have hkk:(Tree.mk 34 tx nm ps ks).kind≠0:=by simp [Tree.kind]
  simp only [ym,sS,sT,Int.reduceEq,reduceIte] at hl ⊢
  have HL:=zm hl
  have HV:Hid (PV W0 _ 34 tx nm ps ao ks.length cp):=zm ⟨ks,rfl,rfl,hK⟩
  have HS:=ye.start (bs:=bs) 34 tx nm ps ao ks.length cp hN hB hp
  clear hp hB hK hl
  simp only [JF,JA]
  go_enter Tryz.func97,Tryz.ntmps97
  (go_wp2_with fail;with_reducible refine (ye.part 0 HS HV dc).mono ?_;(try clear cc);clear HS;rintro e wn ⟨⟨kd2,tx2,nm2,ps2,ao2,n2,cp2,rfl,HP⟩,HS⟩;have cc:=ye.cells HS)
  (have HJ:=((zk (RHp HR .exprStmt hkk 0 trivial)).pv HP);simp only [JF,JA] at HJ;go_wp2_with fail;with_reducible refine (ye.call HS HJ pl).mono ?_;(try clear cc);clear HS HJ;rintro e wn ⟨rfl,HS⟩;have cc:=ye.cells HS)
  exact pe
 simp only [ym,sS,sT,Int.reduceEq,reduceIte,h17,h19,h20,h33,h34] at hl ⊢
 have HL:=zm hl
 have HV:Hid (PV W0 _ kd tx nm ps ao ks.length cp):=zm ⟨ks,rfl,rfl,hK⟩
 have HS:=ye.start (bs:=bs) kd tx nm ps ao ks.length cp hN hB hp
 clear hp hB hK hl
 simp only [JF,JA]
 go_enter Tryz.func97,Tryz.ntmps97
 (go_wp2_with fail;with_reducible refine (ye.unk HS pl).mono ?_;(try clear cc);clear HS;rintro e wn ⟨rfl,HS⟩;have cc:=ye.cells HS)
 exact pe
theorem ifStmt_step {W0:World} {N b:Nat} (hN:N=W0.heap.size) (digits:Int→List UInt8) (rec:PrJ→Nat→Tree→List UInt8) (d:Nat) (hd:d<1152921504606846976) (t:Tree) (hr:RH W0 N b rec .ifStmt d t) (ho:okJ .ifStmt t):JC W0 N b (ym digits rec) .ifStmt d t:=by
 intro kd tx nm ps ks ao cp e hK bs w hB hp hl
 subst e
 have HR:=zm hr
 clear hr
 have hkk:(Tree.mk kd tx nm ps ks).kind≠0:=ho
 simp only [ym,sS,sT,Int.reduceEq,reduceIte] at hl ⊢
 have HL:=zm hl
 have HV:Hid (PV W0 _ kd tx nm ps ao ks.length cp):=zm ⟨ks,rfl,rfl,hK⟩
 have HS:=ye.start (bs:=bs) kd tx nm ps ao ks.length cp hN hB hp
 clear hp hB hK hl
 simp only [JF,JA]
 go_enter Tryz.func92,Tryz.ntmps92
 (go_wp2_with fail;(try simp only [ByteArray.mk_append_mk]);with_reducible refine (ye.s HS pl).mono ?_;(try clear cc);clear HS;rintro e wn ⟨⟨v,rfl⟩,HS⟩;have cc:=ye.cells HS)
 (go_wp2_with fail;with_reducible refine (ye.part 0 HS HV dc).mono ?_;(try clear cc);clear HS;rintro e wn ⟨⟨kd2,tx2,nm2,ps2,ao2,n2,cp2,rfl,HP⟩,HS⟩;have cc:=ye.cells HS)
 (have HJ:=((zk (RHp HR .expr hkk 0 trivial)).pv HP);simp only [JF,JA] at HJ;go_wp2_with fail;with_reducible refine (ye.call HS HJ pl).mono ?_;(try clear cc);clear HS HJ;rintro e wn ⟨rfl,HS⟩;have cc:=ye.cells HS)
 (go_wp2_with fail;with_reducible refine (ye.byte 32 HS dc pl).mono ?_;(try clear cc);clear HS;rintro e wn ⟨⟨v,rfl⟩,HS⟩;have cc:=ye.cells HS)
 (go_wp2_with fail;with_reducible refine (ye.part 1 HS HV dc).mono ?_;(try clear cc);clear HS;rintro e wn ⟨⟨kd2,tx2,nm2,ps2,ao2,n2,cp2,rfl,HP⟩,HS⟩;have cc:=ye.cells HS)
 (have HJ:=((zk (RHp HR .block hkk 1 trivial)).pv HP);simp only [JF,JA] at HJ;go_wp2_with fail;with_reducible refine (ye.call HS HJ pl).mono ?_;(try clear cc);clear HS HJ;rintro e wn ⟨rfl,HS⟩;have cc:=ye.cells HS)
 (go_wp2_with fail;with_reducible refine (ye.part 2 HS HV dc).mono ?_;(try clear cc);clear HS;rintro e wn ⟨⟨kd2,tx2,nm2,ps2,ao2,n2,cp2,rfl,HP⟩,HS⟩;have cc:=ye.cells HS)
 (have hpj:di .stmt:=fun _ _=>rfl;have hjf:JF .stmt=86:=rfl;have hen:Ent 86:=dP 86 dc;have HU:=(RHp HR .stmt hkk 2 trivial);go_wp2_with fail;with_reducible refine (ye.unl .stmt HS HP hpj hjf hen HU pl).mono ?_;clear hpj hjf hen HU;(try clear cc);clear HS;rintro e wn ⟨rfl,HS⟩;have cc:=ye.cells HS)
 exact pe
theorem rP {W0:World} {N b:Nat} (hN:N=W0.heap.size) (digits:Int→List UInt8) (rec:PrJ→Nat→Tree→List UInt8) (d:Nat) (hd:d<1152921504606846976) (t:Tree) (hr:RH W0 N b rec .forParts d t) (ho:okJ .forParts t):JC W0 N b (ym digits rec) .forParts d t:=by
 intro kd tx nm ps ks ao cp e hK bs w hB hp hl
 subst e
 have HR:=zm hr
 clear hr
 have hkk:(Tree.mk kd tx nm ps ks).kind≠0:=ho
 simp only [ym,sS,sT,Int.reduceEq,reduceIte] at hl ⊢
 have HL:=zm hl
 have HV:Hid (PV W0 _ kd tx nm ps ao ks.length cp):=zm ⟨ks,rfl,rfl,hK⟩
 have HS:=ye.start (bs:=bs) kd tx nm ps ao ks.length cp hN hB hp
 clear hp hB hK hl
 simp only [JF,JA]
 go_enter Tryz.func107,Tryz.ntmps107
 (go_wp2_with fail;with_reducible refine (ye.byte 32 HS dc pl).mono ?_;(try clear cc);clear HS;rintro e wn ⟨⟨v,rfl⟩,HS⟩;have cc:=ye.cells HS)
 (go_wp2_with fail;with_reducible refine (ye.part 0 HS HV dc).mono ?_;(try clear cc);clear HS;rintro e wn ⟨⟨kd2,tx2,nm2,ps2,ao2,n2,cp2,rfl,HP⟩,HS⟩;have cc:=ye.cells HS)
 (have hpj:di .stmt:=fun _ _=>rfl;have hjf:JF .stmt=86:=rfl;have hen:Ent 86:=dP 86 dc;have HU:=(RHp HR .stmt hkk 0 trivial);go_wp2_with fail;with_reducible refine (ye.unl .stmt HS HP hpj hjf hen HU pl).mono ?_;clear hpj hjf hen HU;(try clear cc);clear HS;rintro e wn ⟨rfl,HS⟩;have cc:=ye.cells HS)
 (go_wp2_with fail;(try simp only [ByteArray.mk_append_mk]);with_reducible refine (ye.s HS pl).mono ?_;(try clear cc);clear HS;rintro e wn ⟨⟨v,rfl⟩,HS⟩;have cc:=ye.cells HS)
 (go_wp2_with fail;with_reducible refine (ye.part 1 HS HV dc).mono ?_;(try clear cc);clear HS;rintro e wn ⟨⟨kd2,tx2,nm2,ps2,ao2,n2,cp2,rfl,HP⟩,HS⟩;have cc:=ye.cells HS)
 (have hpj:di .expr:=fun _ _=>rfl;have hjf:JF .expr=91:=rfl;have hen:Ent 91:=dP 91 dc;have HU:=(RHp HR .expr hkk 1 trivial);go_wp2_with fail;with_reducible refine (ye.unl .expr HS HP hpj hjf hen HU pl).mono ?_;clear hpj hjf hen HU;(try clear cc);clear HS;rintro e wn ⟨rfl,HS⟩;have cc:=ye.cells HS)
 (go_wp2_with fail;with_reducible refine (ye.byte 59 HS dc pl).mono ?_;(try clear cc);clear HS;rintro e wn ⟨⟨v,rfl⟩,HS⟩;have cc:=ye.cells HS)
 (go_wp2_with fail;with_reducible refine (ye.part 2 HS HV dc).mono ?_;(try clear cc);clear HS;rintro e wn ⟨⟨kd2,tx2,nm2,ps2,ao2,n2,cp2,rfl,HP⟩,HS⟩;have cc:=ye.cells HS)
 (have hpj:di .stmt:=fun _ _=>rfl;have hjf:JF .stmt=86:=rfl;have hen:Ent 86:=dP 86 dc;have HU:=(RHp HR .stmt hkk 2 trivial);go_wp2_with fail;with_reducible refine (ye.unl .stmt HS HP hpj hjf hen HU pl).mono ?_;clear hpj hjf hen HU;(try clear cc);clear HS;rintro e wn ⟨rfl,HS⟩;have cc:=ye.cells HS)
 exact pe
theorem pG {W0:World} {N b:Nat} (hN:N=W0.heap.size) (digits:Int→List UInt8) (rec:PrJ→Nat→Tree→List UInt8) (d:Nat) (hd:d<1152921504606846976) (t:Tree) (hr:RH W0 N b rec .switchStmt d t) (ho:okJ .switchStmt t):JC W0 N b (ym digits rec) .switchStmt d t:=by
 intro kd tx nm ps ks ao cp e hK bs w hB hp hl
 subst e
 have HR:=zm hr
 clear hr
 have hkk:(Tree.mk kd tx nm ps ks).kind≠0:=ho
 simp only [ym,sS,sT,Int.reduceEq,reduceIte] at hl ⊢
 have HL:=zm hl
 have HV:Hid (PV W0 _ kd tx nm ps ao ks.length cp):=zm ⟨ks,rfl,rfl,hK⟩
 have HS:=ye.start (bs:=bs) kd tx nm ps ao ks.length cp hN hB hp
 clear hp hB hK hl
 simp only [JF,JA]
 go_enter Tryz.func94,Tryz.ntmps94
 (go_wp2_with fail;(try simp only [ByteArray.mk_append_mk]);with_reducible refine (ye.s HS pl).mono ?_;(try clear cc);clear HS;rintro e wn ⟨⟨v,rfl⟩,HS⟩;have cc:=ye.cells HS)
 (go_wp2_with fail;with_reducible refine (ye.part 0 HS HV dc).mono ?_;(try clear cc);clear HS;rintro e wn ⟨⟨kd2,tx2,nm2,ps2,ao2,n2,cp2,rfl,HP⟩,HS⟩;have cc:=ye.cells HS)
 (have hpj:di .expr:=fun _ _=>rfl;have hjf:JF .expr=91:=rfl;have hen:Ent 91:=dP 91 dc;have HU:=(RHp HR .expr hkk 0 trivial);go_wp2_with fail;with_reducible refine (ye.unl .expr HS HP hpj hjf hen HU pl).mono ?_;clear hpj hjf hen HU;(try clear cc);clear HS;rintro e wn ⟨rfl,HS⟩;have cc:=ye.cells HS)
 (go_wp2_with fail;with_reducible refine (ye.from_ HS HV).mono ?_;(try clear cc);clear HS;rintro e wn ⟨⟨ar,nr,cr,rfl,HR2⟩,HS⟩;have cc:=ye.cells HS)
 (have hpj:di .clause:=fun _ _=>rfl;have hjf:JF .clause=109:=rfl;have hen:Ent 109:=dP 109 dc;have HU:=(RHk HR .clause (l:=ks.drop 1) (fun _=>trivial) (fun _ h=>List.mem_of_mem_drop h));have HQ:=HR2;go_wp2_with fail;with_reducible refine (ye.clauses .clause HS HQ hpj hjf hen HU pl).mono ?_;clear hpj hjf hen HU HQ;(try clear cc);clear HS;rintro e wn ⟨rfl,HS⟩;have cc:=ye.cells HS)
 exact pe
theorem pF {W0:World} {N b:Nat} (hN:N=W0.heap.size) (digits:Int→List UInt8) (rec:PrJ→Nat→Tree→List UInt8) (d:Nat) (hd:d<1152921504606846976) (t:Tree) (hr:RH W0 N b rec .selectStmt d t) (ho:okJ .selectStmt t):JC W0 N b (ym digits rec) .selectStmt d t:=by
 intro kd tx nm ps ks ao cp e hK bs w hB hp hl
 subst e
 have HR:=zm hr
 clear hr
 have hkk:(Tree.mk kd tx nm ps ks).kind≠0:=ho
 simp only [ym,sS,sT,Int.reduceEq,reduceIte] at hl ⊢
 have HL:=zm hl
 have HV:Hid (PV W0 _ kd tx nm ps ao ks.length cp):=zm ⟨ks,rfl,rfl,hK⟩
 have HS:=ye.start (bs:=bs) kd tx nm ps ao ks.length cp hN hB hp
 clear hp hB hK hl
 simp only [JF,JA]
 go_enter Tryz.func95,Tryz.ntmps95
 (go_wp2_with fail;(try simp only [ByteArray.mk_append_mk]);with_reducible refine (ye.s HS pl).mono ?_;(try clear cc);clear HS;rintro e wn ⟨⟨v,rfl⟩,HS⟩;have cc:=ye.cells HS)
 (have hpj:di .comm:=fun _ _=>rfl;have hjf:JF .comm=110:=rfl;have hen:Ent 110:=dP 110 dc;have HU:=(RHk HR .comm (l:=ks) (fun _=>trivial) (fun _ h=>h));have HQ:=(PV.rv HV);go_wp2_with fail;with_reducible refine (ye.clauses .comm HS HQ hpj hjf hen HU pl).mono ?_;clear hpj hjf hen HU HQ;(try clear cc);clear HS;rintro e wn ⟨rfl,HS⟩;have cc:=ye.cells HS)
 exact pe
theorem oG {W0:World} {N b:Nat} (hN:N=W0.heap.size) (digits:Int→List UInt8) (rec:PrJ→Nat→Tree→List UInt8) (d:Nat) (hd:d<1152921504606846976) (t:Tree) (hr:RH W0 N b rec .clauseStmts d t) (ho:okJ .clauseStmts t):JC W0 N b (ym digits rec) .clauseStmts d t:=by
 intro kd tx nm ps ks ao cp e hK bs w hB hp hl
 subst e
 have HR:=zm hr
 clear hr
 by_cases h16:kd=16
 ·subst h16
  have hkk:(Tree.mk 16 tx nm ps ks).kind≠0:=by simp [Tree.kind]
  simp only [ym,sS,sT,Int.reduceEq,reduceIte] at hl ⊢
  have HL:=zm hl
  have HV:Hid (PV W0 _ 16 tx nm ps ao ks.length cp):=zm ⟨ks,rfl,rfl,hK⟩
  have HS:=ye.start (bs:=bs) 16 tx nm ps ao ks.length cp hN hB hp
  clear hp hB hK hl
  simp only [JF,JA]
  go_enter Tryz.func124,Tryz.ntmps124
  (go_wp2_with fail;(try simp only [ByteArray.mk_append_mk]);with_reducible refine (ye.s HS pl).mono ?_;(try clear cc);clear HS;rintro e wn ⟨⟨v,rfl⟩,HS⟩;have cc:=ye.cells HS)
  (have hpj:di .stmt:=fun _ _=>rfl;have hjf:JF .stmt=86:=rfl;have hen:Ent 86:=dP 86 dc;have HU:=(RHk1 HR .stmt (l:=ks) (fun _=>trivial) (fun _ h=>h));have HQ:=(PV.rv HV);go_wp2_with fail;with_reducible refine (ye.lines .stmt HS HQ hpj hjf hen HU hd pl).mono ?_;clear hpj hjf hen HU HQ;(try clear cc);clear HS;rintro e wn ⟨rfl,HS⟩;have cc:=ye.cells HS)
  exact pe
 simp only [ym,sS,sT,Int.reduceEq,reduceIte,h16] at hl ⊢
 have HL:=zm hl
 have HV:Hid (PV W0 _ kd tx nm ps ao ks.length cp):=zm ⟨ks,rfl,rfl,hK⟩
 have HS:=ye.start (bs:=bs) kd tx nm ps ao ks.length cp hN hB hp
 clear hp hB hK hl
 simp only [JF,JA]
 go_enter Tryz.func124,Tryz.ntmps124
 (go_wp2_with fail;(try simp only [ByteArray.mk_append_mk]);with_reducible refine (ye.s HS pl).mono ?_;(try clear cc);clear HS;rintro e wn ⟨⟨v,rfl⟩,HS⟩;have cc:=ye.cells HS)
 (go_wp2_with fail;with_reducible refine (ye.unk HS pl).mono ?_;(try clear cc);clear HS;rintro e wn ⟨rfl,HS⟩;have cc:=ye.cells HS)
 exact pe
end Go.Proofs.YtgbjpnnockoomaaGreatDoor.Pp
