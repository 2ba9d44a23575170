import Derived.Test.YtgbjpnnockoomaaGreatDoorPbk
set_option linter.unusedVariables false
set_option linter.unusedSimpArgs false
set_option maxHeartbeats 8000000
set_option maxRecDepth 100000
namespace Go.Proofs.YtgbjpnnockoomaaGreatDoor.Pp
open Go.RowKit Lx Px
theorem ye.itoa {W0:World} {N b:Nat} {bs X:List UInt8} {d:Nat} {w wr:World} {g:Nat} {kd:Int} {tx:List UInt8} {nm ps:Int} {ao:Option Addr} {n cp:Nat} {digits:Int→List UInt8} {v:Int} (hD:Hid (∀ w',Below N W0 w'→N≤w'.heap.size→Calls Tryz.prog 100 #[.int .i64 v] w' fun e w2=>e=.returned (.string ⟨(digits v).toArray⟩)∧w'.grownBy w2 none)) (h:Hid (ye W0 N b bs X d w wr g kd tx nm ps ao n cp)) :
 Calls Tryz.prog 100 #[.int .i64 v] wr fun e w'=>e=.returned (.string ⟨(digits v).toArray⟩)∧Hid (ye W0 N b bs X d w w' g kd tx nm ps ao n cp):=
 (zk hD wr (zk h).bel (zk h).big).mono fun e w' q=>⟨q.1,(zk h).qu q.2⟩
theorem expr_step {W0:World} {N b:Nat} (hN:N=W0.heap.size) (digits:Int→List UInt8) (rec:PrJ→Nat→Tree→List UInt8) (d:Nat) (hd:d<1152921504606846976) (t:Tree) (hr:RH W0 N b rec .expr d t) (ho:okJ .expr t) (hD:∀ v,t.num=v→∀ w',Below N W0 w'→N≤w'.heap.size→Calls Tryz.prog 100 #[.int .i64 v] w' fun e w2=>e=.returned (.string ⟨(digits v).toArray⟩)∧w'.grownBy w2 none) (hQ:∀ tx,JG W0 N b 101 #[.pointer (some ⟨b,0,none⟩),.string ⟨List.toArray tx⟩] (nN tx) d):JC W0 N b (ym digits rec) .expr d t:=by
 intro kd tx nm ps ks ao cp e hK bs w hB hp hl
 subst e
 have HR:=zm hr
 have HQ:=zm (hQ tx)
 have HD:=zm (hD nm rfl)
 clear hr hQ hD
 by_cases h36:kd=36
 ·subst h36
  have hkk:(Tree.mk 36 tx nm ps ks).kind≠0:=by simp [Tree.kind]
  simp only [ym,sS,sT,Int.reduceEq,reduceIte] at hl ⊢
  have HL:=zm hl
  have HV:Hid (PV W0 _ 36 tx nm ps ao ks.length cp):=zm ⟨ks,rfl,rfl,hK⟩
  have HS:=ye.start (bs:=bs) 36 tx nm ps ao ks.length cp hN hB hp
  clear hp hB hK hl
  simp only [JF,JA]
  go_enter Tryz.func91,Tryz.ntmps91
  (go_wp2;go_region_held2 (fun w'=>w'.cell? ⟨w.heap.size,2,none⟩=some (.int .i64 nm)) (go_keep) (first | (go_at_call 100;with_reducible refine (ye.itoa HD (ye.dr HS)).mono ?_;(try clear cc);clear HS;rintro e wn ⟨rfl,HS⟩;have cc:=ye.cells HS) | (go_at_call 34;with_reducible refine (ye.s HS pl).mono ?_;(try clear cc);clear HS;rintro e wn2 ⟨⟨v,rfl⟩,HS⟩;have cc:=ye.cells HS)))
  exact pe
 by_cases h37:kd=37
 ·subst h37
  have hkk:(Tree.mk 37 tx nm ps ks).kind≠0:=by simp [Tree.kind]
  simp only [ym,sS,sT,Int.reduceEq,reduceIte] at hl ⊢
  have HL:=zm hl
  have HV:Hid (PV W0 _ 37 tx nm ps ao ks.length cp):=zm ⟨ks,rfl,rfl,hK⟩
  have HS:=ye.start (bs:=bs) 37 tx nm ps ao ks.length cp hN hB hp
  clear hp hB hK hl
  simp only [JF,JA]
  go_enter Tryz.func91,Tryz.ntmps91
  (go_wp2_with fail;with_reducible refine (ye.call HS HQ pl).mono ?_;(try clear cc);clear HS;rintro e wn ⟨rfl,HS⟩;have cc:=ye.cells HS)
  exact pe
 by_cases h38:kd=38
 ·subst h38
  have hkk:(Tree.mk 38 tx nm ps ks).kind≠0:=by simp [Tree.kind]
  simp only [ym,sS,sT,Int.reduceEq,reduceIte] at hl ⊢
  have HL:=zm hl
  have HV:Hid (PV W0 _ 38 tx nm ps ao ks.length cp):=zm ⟨ks,rfl,rfl,hK⟩
  have HS:=ye.start (bs:=bs) 38 tx nm ps ao ks.length cp hN hB hp
  clear hp hB hK hl
  simp only [JF,JA]
  go_enter Tryz.func91,Tryz.ntmps91
  (go_wp2;go_region_held2 (fun w'=>w'.cell? ⟨w.heap.size,1,none⟩=some (.string ⟨tx.toArray⟩)) (go_keep) (first | (go_at_call 34;(try simp only [ByteArray.mk_append_mk]);with_reducible refine (ye.s (ye.dr HS) pl).mono ?_;(try clear cc);clear HS;rintro e wn ⟨⟨v,rfl⟩,HS⟩;have cc:=ye.cells HS)))
  exact pe
 by_cases h40:kd=40
 ·subst h40
  have hkk:(Tree.mk 40 tx nm ps ks).kind≠0:=by simp [Tree.kind]
  simp only [ym,sS,sT,Int.reduceEq,reduceIte] at hl ⊢
  have HL:=zm hl
  have HV:Hid (PV W0 _ 40 tx nm ps ao ks.length cp):=zm ⟨ks,rfl,rfl,hK⟩
  have HS:=ye.start (bs:=bs) 40 tx nm ps ao ks.length cp hN hB hp
  clear hp hB hK hl
  simp only [JF,JA]
  go_enter Tryz.func91,Tryz.ntmps91
  (go_wp2;go_region_held2 (fun w'=>w'.cell? ⟨w.heap.size,1,none⟩=some (.string ⟨tx.toArray⟩)) (go_keep) (first | (go_at_call 34;(try simp only [ByteArray.mk_append_mk]);with_reducible refine (ye.s (ye.dr HS) pl).mono ?_;(try clear cc);clear HS;rintro e wn ⟨⟨v,rfl⟩,HS⟩;have cc:=ye.cells HS)))
  exact pe
 by_cases h39:kd=39
 ·subst h39
  have hkk:(Tree.mk 39 tx nm ps ks).kind≠0:=by simp [Tree.kind]
  simp only [ym,sS,sT,Int.reduceEq,reduceIte] at hl ⊢
  have HL:=zm hl
  have HV:Hid (PV W0 _ 39 tx nm ps ao ks.length cp):=zm ⟨ks,rfl,rfl,hK⟩
  have HS:=ye.start (bs:=bs) 39 tx nm ps ao ks.length cp hN hB hp
  clear hp hB hK hl
  simp only [JF,JA]
  go_enter Tryz.func91,Tryz.ntmps91
  (go_wp2_with fail;(try simp only [ByteArray.mk_append_mk]);with_reducible refine (ye.s HS pl).mono ?_;(try clear cc);clear HS;rintro e wn ⟨⟨v,rfl⟩,HS⟩;have cc:=ye.cells HS)
  exact pe
 by_cases h41:kd=41
 ·subst h41
  have hkk:(Tree.mk 41 tx nm ps ks).kind≠0:=by simp [Tree.kind]
  simp only [ym,sS,sT,Int.reduceEq,reduceIte] at hl ⊢
  have HL:=zm hl
  have HV:Hid (PV W0 _ 41 tx nm ps ao ks.length cp):=zm ⟨ks,rfl,rfl,hK⟩
  have HS:=ye.start (bs:=bs) 41 tx nm ps ao ks.length cp hN hB hp
  have ht:tx.length≤1099511627776:=pl
  have hc5:¬9223372036854775807<1+tx.length:=om
  clear hp hB hK hl
  simp only [JF,JA]
  go_enter Tryz.func91,Tryz.ntmps91
  (go_wp2;go_region_held2 (fun w'=>w'.cell? ⟨w.heap.size,1,none⟩=some (.string ⟨tx.toArray⟩)) (go_keep) (first | (go_at_call 34;(try simp only [ByteArray.mk_append_mk]);with_reducible refine (ye.s (ye.dr HS) pl).mono ?_;(try clear cc);clear HS;rintro e wn ⟨⟨v,rfl⟩,HS⟩;have cc:=ye.cells HS)))
  (go_wp2_with fail;with_reducible refine (ye.part 0 HS HV dc).mono ?_;(try clear cc);clear HS;rintro e wn ⟨⟨kd2,tx2,nm2,ps2,ao2,n2,cp2,rfl,HP⟩,HS⟩;have cc:=ye.cells HS)
  (have HJ:=((zk (RHp HR .expr hkk 0 trivial)).pv HP);simp only [JF,JA] at HJ;go_wp2_with fail;with_reducible refine (ye.call HS HJ pl).mono ?_;(try clear cc);clear HS HJ;rintro e wn ⟨rfl,HS⟩;have cc:=ye.cells HS)
  (go_wp2_with fail;with_reducible refine (ye.byte 41 HS dc pl).mono ?_;(try clear cc);clear HS;rintro e wn ⟨⟨v,rfl⟩,HS⟩;have cc:=ye.cells HS)
  exact pe
 by_cases h42:kd=42
 ·subst h42
  have hkk:(Tree.mk 42 tx nm ps ks).kind≠0:=by simp [Tree.kind]
  simp only [ym,sS,sT,Int.reduceEq,reduceIte] at hl ⊢
  have HL:=zm hl
  have HV:Hid (PV W0 _ 42 tx nm ps ao ks.length cp):=zm ⟨ks,rfl,rfl,hK⟩
  have HS:=ye.start (bs:=bs) 42 tx nm ps ao ks.length cp hN hB hp
  clear hp hB hK hl
  simp only [JF,JA]
  go_enter Tryz.func91,Tryz.ntmps91
  (go_wp2_with fail;with_reducible refine (ye.byte 40 HS dc pl).mono ?_;(try clear cc);clear HS;rintro e wn ⟨⟨v,rfl⟩,HS⟩;have cc:=ye.cells HS)
  (have HJ:=((zk (RHr HR (.both tx) (by simp [rnk]) zM)).pv HV);simp only [JF,JA] at HJ;go_wp2_with fail;with_reducible refine (ye.call HS HJ pl).mono ?_;(try clear cc);clear HS HJ;rintro e wn ⟨rfl,HS⟩;have cc:=ye.cells HS)
  (go_wp2_with fail;with_reducible refine (ye.byte 41 HS dc pl).mono ?_;(try clear cc);clear HS;rintro e wn ⟨⟨v,rfl⟩,HS⟩;have cc:=ye.cells HS)
  exact pe
 by_cases h44:kd=44
 ·subst h44
  have hkk:(Tree.mk 44 tx nm ps ks).kind≠0:=by simp [Tree.kind]
  simp only [ym,sS,sT,Int.reduceEq,reduceIte] at hl ⊢
  have HL:=zm hl
  have HV:Hid (PV W0 _ 44 tx nm ps ao ks.length cp):=zm ⟨ks,rfl,rfl,hK⟩
  have HS:=ye.start (bs:=bs) 44 tx nm ps ao ks.length cp hN hB hp
  clear hp hB hK hl
  simp only [JF,JA]
  go_enter Tryz.func91,Tryz.ntmps91
  (have HJ:=((zk (RHs HR .builtin dc zM)).pv HV);simp only [JF,JA] at HJ;go_wp2_with fail;with_reducible refine (ye.call HS HJ pl).mono ?_;(try clear cc);clear HS HJ;rintro e wn ⟨rfl,HS⟩;have cc:=ye.cells HS)
  exact pe
 by_cases h48:kd=48
 ·subst h48
  have hkk:(Tree.mk 48 tx nm ps ks).kind≠0:=by simp [Tree.kind]
  simp only [ym,sS,sT,Int.reduceEq,reduceIte] at hl ⊢
  have HL:=zm hl
  have HV:Hid (PV W0 _ 48 tx nm ps ao ks.length cp):=zm ⟨ks,rfl,rfl,hK⟩
  have HS:=ye.start (bs:=bs) 48 tx nm ps ao ks.length cp hN hB hp
  clear hp hB hK hl
  simp only [JF,JA]
  go_enter Tryz.func91,Tryz.ntmps91
  (go_wp2_with fail;(try simp only [ByteArray.mk_append_mk]);with_reducible refine (ye.s HS pl).mono ?_;(try clear cc);clear HS;rintro e wn ⟨⟨v,rfl⟩,HS⟩;have cc:=ye.cells HS)
  (have HJ:=((zk (RHs HR .function dc zM)).pv HV);simp only [JF,JA] at HJ;go_wp2_with fail;with_reducible refine (ye.call HS HJ pl).mono ?_;(try clear cc);clear HS HJ;rintro e wn ⟨rfl,HS⟩;have cc:=ye.cells HS)
  exact pe
 by_cases h49:kd=49
 ·subst h49
  have hkk:(Tree.mk 49 tx nm ps ks).kind≠0:=by simp [Tree.kind]
  simp only [ym,sS,sT,Int.reduceEq,reduceIte] at hl ⊢
  have HL:=zm hl
  have HV:Hid (PV W0 _ 49 tx nm ps ao ks.length cp):=zm ⟨ks,rfl,rfl,hK⟩
  have HS:=ye.start (bs:=bs) 49 tx nm ps ao ks.length cp hN hB hp
  have ht:tx.length≤1099511627776:=pl
  have hc5:¬9223372036854775807<2+tx.length:=om
  have hc6:¬9223372036854775807<2+tx.length+1:=om
  clear hp hB hK hl
  simp only [JF,JA]
  go_enter Tryz.func91,Tryz.ntmps91
  (go_wp2;go_region_held2 (fun w'=>w'.cell? ⟨w.heap.size,1,none⟩=some (.string ⟨tx.toArray⟩)) (go_keep) (first | (go_at_call 34;(try simp only [ByteArray.mk_append_mk]);with_reducible refine (ye.s (ye.dr HS) pl).mono ?_;(try clear cc);clear HS;rintro e wn ⟨⟨v,rfl⟩,HS⟩;have cc:=ye.cells HS)))
  (have hpj:di .initial:=fun _ _=>rfl;have hjf:JF .initial=104:=rfl;have hen:Ent 104:=dP 104 dc;have HU:=(RHk HR .initial (l:=ks) (fun _=>trivial) (fun _ h=>h));have HQ:=(PV.rv HV);go_wp2_with fail;with_reducible refine (ye.list .initial HS HQ hpj hjf hen HU pl).mono ?_;clear hpj hjf hen HU HQ;(try clear cc);clear HS;rintro e wn ⟨rfl,HS⟩;have cc:=ye.cells HS)
  (go_wp2_with fail;(try simp only [ByteArray.mk_append_mk]);with_reducible refine (ye.s HS pl).mono ?_;(try clear cc);clear HS;rintro e wn ⟨⟨v,rfl⟩,HS⟩;have cc:=ye.cells HS)
  exact pe
 by_cases h50:kd=50
 ·subst h50
  have hkk:(Tree.mk 50 tx nm ps ks).kind≠0:=by simp [Tree.kind]
  simp only [ym,sS,sT,Int.reduceEq,reduceIte] at hl ⊢
  have HL:=zm hl
  have HV:Hid (PV W0 _ 50 tx nm ps ao ks.length cp):=zm ⟨ks,rfl,rfl,hK⟩
  have HS:=ye.start (bs:=bs) 50 tx nm ps ao ks.length cp hN hB hp
  clear hp hB hK hl
  simp only [JF,JA]
  go_enter Tryz.func91,Tryz.ntmps91
  (go_wp2_with fail;(try simp only [ByteArray.mk_append_mk]);with_reducible refine (ye.s HS pl).mono ?_;(try clear cc);clear HS;rintro e wn ⟨⟨v,rfl⟩,HS⟩;have cc:=ye.cells HS)
  (go_wp2_with fail;with_reducible refine (ye.part 0 HS HV dc).mono ?_;(try clear cc);clear HS;rintro e wn ⟨⟨kd2,tx2,nm2,ps2,ao2,n2,cp2,rfl,HP⟩,HS⟩;have cc:=ye.cells HS)
  (have HJ:=((zk (RHp HR .wtype hkk 0 trivial)).pv HP);simp only [JF,JA] at HJ;go_wp2_with fail;with_reducible refine (ye.call HS HJ pl).mono ?_;(try clear cc);clear HS HJ;rintro e wn ⟨rfl,HS⟩;have cc:=ye.cells HS)
  (go_wp2_with fail;with_reducible refine (ye.byte 123 HS dc pl).mono ?_;(try clear cc);clear HS;rintro e wn ⟨⟨v,rfl⟩,HS⟩;have cc:=ye.cells HS)
  (go_wp2_with fail;with_reducible refine (ye.from_ HS HV).mono ?_;(try clear cc);clear HS;rintro e wn ⟨⟨ar,nr,cr,rfl,HR2⟩,HS⟩;have cc:=ye.cells HS)
  (have hpj:di .expr:=fun _ _=>rfl;have hjf:JF .expr=91:=rfl;have hen:Ent 91:=dP 91 dc;have HU:=(RHk HR .expr (l:=ks.drop 1) (fun _=>trivial) (fun _ h=>List.mem_of_mem_drop h));have HQ:=HR2;go_wp2_with fail;with_reducible refine (ye.list .expr HS HQ hpj hjf hen HU pl).mono ?_;clear hpj hjf hen HU HQ;(try clear cc);clear HS;rintro e wn ⟨rfl,HS⟩;have cc:=ye.cells HS)
  (go_wp2_with fail;(try simp only [ByteArray.mk_append_mk]);with_reducible refine (ye.s HS pl).mono ?_;(try clear cc);clear HS;rintro e wn ⟨⟨v,rfl⟩,HS⟩;have cc:=ye.cells HS)
  exact pe
 simp only [ym,sS,sT,Int.reduceEq,reduceIte,h36,h37,h38,h40,h39,h41,h42,h44,h48,h49,h50] at hl ⊢
 have HL:=zm hl
 have HV:Hid (PV W0 _ kd tx nm ps ao ks.length cp):=zm ⟨ks,rfl,rfl,hK⟩
 have HS:=ye.start (bs:=bs) kd tx nm ps ao ks.length cp hN hB hp
 clear hp hB hK hl
 simp only [JF,JA]
 go_enter Tryz.func91,Tryz.ntmps91
 (have HJ:=((zk (RHs HR .primary dc zM)).pv HV);simp only [JF,JA] at HJ;go_wp2_with fail;with_reducible refine (ye.call HS HJ pl).mono ?_;(try clear cc);clear HS HJ;rintro e wn ⟨rfl,HS⟩;have cc:=ye.cells HS)
 exact pe
end Go.Proofs.YtgbjpnnockoomaaGreatDoor.Pp
