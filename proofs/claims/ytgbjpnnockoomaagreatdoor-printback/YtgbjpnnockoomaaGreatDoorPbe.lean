import Derived.Test.YtgbjpnnockoomaaGreatDoorPbk
set_option linter.unusedVariables false
set_option linter.unusedSimpArgs false
set_option maxHeartbeats 8000000
set_option maxRecDepth 100000
namespace Go.Proofs.YtgbjpnnockoomaaGreatDoor.Pp
open Go.RowKit Lx Px
theorem jump_step {W0:World} {N b:Nat} (hN:N=W0.heap.size) (digits:Int→List UInt8) (rec:PrJ→Nat→Tree→List UInt8) (s:List UInt8) (d:Nat) (hd:d<1152921504606846976) (t:Tree) (hr:RH W0 N b rec (.jump s) d t) (ho:okJ (.jump s) t):JC W0 N b (ym digits rec) (.jump s) d t:=by
 intro kd tx nm ps ks ao cp e hK bs w hB hp hl
 subst e
 have HR:=zm hr
 clear hr
 by_cases h0:tx=[]
 ·have h0b:tx.isEmpty=true:=by rw [h0];rfl
  simp only [ym,sS,sT,Int.reduceEq,reduceIte,et h0] at hl ⊢
  have HL:=zm hl
  have HV:Hid (PV W0 _ kd tx nm ps ao ks.length cp):=zm ⟨ks,rfl,rfl,hK⟩
  have HS:=ye.start (bs:=bs) kd tx nm ps ao ks.length cp hN hB hp
  clear hp hB hK hl hN
  try clear h0
  try clear h1
  try clear h2
  try clear hz
  simp only [JF,JA]
  go_enter Tryz.func96,Tryz.ntmps96
  (go_wp2_with fail;(try simp only [ByteArray.mk_append_mk]);with_reducible refine (ye.s HS pl).mono ?_;(try clear cc);clear HS;rintro e wn ⟨⟨v,rfl⟩,HS⟩;have cc:=ye.cells HS)
  exact pe
 ·have h0b:tx.isEmpty=false:=by simpa using h0
  simp only [ym,sS,sT,Int.reduceEq,reduceIte,ef h0] at hl ⊢
  have HL:=zm hl
  have HV:Hid (PV W0 _ kd tx nm ps ao ks.length cp):=zm ⟨ks,rfl,rfl,hK⟩
  have HS:=ye.start (bs:=bs) kd tx nm ps ao ks.length cp hN hB hp
  have ht:tx.length≤1099511627776:=pl
  have hc5:¬9223372036854775807<1+tx.length:=om
  clear hp hB hK hl hN
  try clear h0
  try clear h1
  try clear h2
  try clear hz
  simp only [JF,JA]
  go_enter Tryz.func96,Tryz.ntmps96
  (go_wp2_with fail;(try simp only [ByteArray.mk_append_mk]);with_reducible refine (ye.s HS pl).mono ?_;(try clear cc);clear HS;rintro e wn ⟨⟨v,rfl⟩,HS⟩;have cc:=ye.cells HS)
  (go_wp2;go_region_held2 (fun w'=>w'.cell? ⟨w.heap.size,1,none⟩=some (.string ⟨tx.toArray⟩)) (go_keep) (first | (go_at_call 34;(try simp only [ByteArray.mk_append_mk]);with_reducible refine (ye.s (ye.dr HS) pl).mono ?_;(try clear cc);clear HS;rintro e wn ⟨⟨v,rfl⟩,HS⟩;have cc:=ye.cells HS)))
  exact pe
theorem uD {W0:World} {N b:Nat} (hN:N=W0.heap.size) (digits:Int→List UInt8) (rec:PrJ→Nat→Tree→List UInt8) (d:Nat) (hd:d<1152921504606846976) (t:Tree) (hr:RH W0 N b rec .builtin d t) (ho:okJ .builtin t):JC W0 N b (ym digits rec) .builtin d t:=by
 intro kd tx nm ps ks ao cp e hK bs w hB hp hl
 subst e
 have HR:=zm hr
 clear hr
 have hkk:(Tree.mk kd tx nm ps ks).kind≠0:=ho
 by_cases h1:tx=[109,97,107,101]
 ·have h1b:(tx==[109,97,107,101])=true:=by rw [h1];rfl
  by_cases hlen:1<ks.length
  ·have hli:(1:Int)<(ks.length:Int):=om
   simp only [ym,sS,sT,Int.reduceEq,reduceIte,et h1,et hlen] at hl ⊢
   have HL:=zm hl
   have HV:Hid (PV W0 _ kd tx nm ps ao ks.length cp):=zm ⟨ks,rfl,rfl,hK⟩
   have HS:=ye.start (bs:=bs) kd tx nm ps ao ks.length cp hN hB hp
   have ht:tx.length≤1099511627776:=pl
   have hc5:¬9223372036854775807<tx.length+1:=om
   clear hp hB hK hl hN
   try clear h0
   try clear h1
   try clear h2
   try clear hz
   simp only [JF,JA]
   go_enter Tryz.func103,Tryz.ntmps103
   (go_wp2;go_region_held2 (fun w'=>w'.cell? ⟨w.heap.size,1,none⟩=some (.string ⟨tx.toArray⟩)) (go_keep) (first | (go_at_call 34;(try simp only [ByteArray.mk_append_mk]);with_reducible refine (ye.s (ye.dr HS) pl).mono ?_;(try clear cc);clear HS;rintro e wn ⟨⟨v,rfl⟩,HS⟩;have cc:=ye.cells HS)))
   (go_wp2_with fail;with_reducible refine (ye.part 0 HS HV dc).mono ?_;(try clear cc);clear HS;rintro e wn ⟨⟨kd2,tx2,nm2,ps2,ao2,n2,cp2,rfl,HP⟩,HS⟩;have cc:=ye.cells HS)
   (have HJ:=((zk (RHp HR .wtype hkk 0 trivial)).pv HP);simp only [JF,JA] at HJ;go_wp2_with fail;with_reducible refine (ye.call HS HJ pl).mono ?_;(try clear cc);clear HS HJ;rintro e wn ⟨rfl,HS⟩;have cc:=ye.cells HS)
   (go_wp2_with fail;(try simp only [ByteArray.mk_append_mk]);with_reducible refine (ye.s HS pl).mono ?_;(try clear cc);clear HS;rintro e wn ⟨⟨v,rfl⟩,HS⟩;have cc:=ye.cells HS)
   (go_wp2_with fail;with_reducible refine (ye.part 1 HS HV dc).mono ?_;(try clear cc);clear HS;rintro e wn ⟨⟨kd2,tx2,nm2,ps2,ao2,n2,cp2,rfl,HP⟩,HS⟩;have cc:=ye.cells HS)
   (have HJ:=((zk (RHp HR .expr hkk 1 trivial)).pv HP);simp only [JF,JA] at HJ;go_wp2_with fail;with_reducible refine (ye.call HS HJ pl).mono ?_;(try clear cc);clear HS HJ;rintro e wn ⟨rfl,HS⟩;have cc:=ye.cells HS)
   (go_wp2_with fail;with_reducible refine (ye.byte 41 HS dc pl).mono ?_;(try clear cc);clear HS;rintro e wn ⟨⟨v,rfl⟩,HS⟩;have cc:=ye.cells HS)
   exact pe
  ·have hli:¬(1:Int)<(ks.length:Int):=om
   simp only [ym,sS,sT,Int.reduceEq,reduceIte,et h1,ef hlen] at hl ⊢
   have HL:=zm hl
   have HV:Hid (PV W0 _ kd tx nm ps ao ks.length cp):=zm ⟨ks,rfl,rfl,hK⟩
   have HS:=ye.start (bs:=bs) kd tx nm ps ao ks.length cp hN hB hp
   have ht:tx.length≤1099511627776:=pl
   have hc5:¬9223372036854775807<tx.length+1:=om
   clear hp hB hK hl hN
   try clear h0
   try clear h1
   try clear h2
   try clear hz
   simp only [JF,JA]
   go_enter Tryz.func103,Tryz.ntmps103
   (go_wp2;go_region_held2 (fun w'=>w'.cell? ⟨w.heap.size,1,none⟩=some (.string ⟨tx.toArray⟩)) (go_keep) (first | (go_at_call 34;(try simp only [ByteArray.mk_append_mk]);with_reducible refine (ye.s (ye.dr HS) pl).mono ?_;(try clear cc);clear HS;rintro e wn ⟨⟨v,rfl⟩,HS⟩;have cc:=ye.cells HS)))
   (go_wp2_with fail;with_reducible refine (ye.part 0 HS HV dc).mono ?_;(try clear cc);clear HS;rintro e wn ⟨⟨kd2,tx2,nm2,ps2,ao2,n2,cp2,rfl,HP⟩,HS⟩;have cc:=ye.cells HS)
   (have HJ:=((zk (RHp HR .wtype hkk 0 trivial)).pv HP);simp only [JF,JA] at HJ;go_wp2_with fail;with_reducible refine (ye.call HS HJ pl).mono ?_;(try clear cc);clear HS HJ;rintro e wn ⟨rfl,HS⟩;have cc:=ye.cells HS)
   (go_wp2_with fail;with_reducible refine (ye.byte 41 HS dc pl).mono ?_;(try clear cc);clear HS;rintro e wn ⟨⟨v,rfl⟩,HS⟩;have cc:=ye.cells HS)
   exact pe
 ·have h1b:(tx==[109,97,107,101])=false:=by simpa using h1
  by_cases h2:tx=[110,101,119]
  ·have h2b:(tx==[110,101,119])=true:=by rw [h2];rfl
   simp only [ym,sS,sT,Int.reduceEq,reduceIte,ef h1,et h2] at hl ⊢
   have HL:=zm hl
   have HV:Hid (PV W0 _ kd tx nm ps ao ks.length cp):=zm ⟨ks,rfl,rfl,hK⟩
   have HS:=ye.start (bs:=bs) kd tx nm ps ao ks.length cp hN hB hp
   have ht:tx.length≤1099511627776:=pl
   have hc5:¬9223372036854775807<tx.length+1:=om
   clear hp hB hK hl hN
   try clear h0
   try clear h1
   try clear h2
   try clear hz
   simp only [JF,JA]
   go_enter Tryz.func103,Tryz.ntmps103
   (go_wp2;go_region_held2 (fun w'=>w'.cell? ⟨w.heap.size,1,none⟩=some (.string ⟨tx.toArray⟩)) (go_keep) (first | (go_at_call 34;(try simp only [ByteArray.mk_append_mk]);with_reducible refine (ye.s (ye.dr HS) pl).mono ?_;(try clear cc);clear HS;rintro e wn ⟨⟨v,rfl⟩,HS⟩;have cc:=ye.cells HS)))
   (go_wp2_with fail;with_reducible refine (ye.part 0 HS HV dc).mono ?_;(try clear cc);clear HS;rintro e wn ⟨⟨kd2,tx2,nm2,ps2,ao2,n2,cp2,rfl,HP⟩,HS⟩;have cc:=ye.cells HS)
   (have HJ:=((zk (RHp HR .pointed hkk 0 trivial)).pv HP);simp only [JF,JA] at HJ;go_wp2_with fail;with_reducible refine (ye.call HS HJ pl).mono ?_;(try clear cc);clear HS HJ;rintro e wn ⟨rfl,HS⟩;have cc:=ye.cells HS)
   (go_wp2_with fail;with_reducible refine (ye.byte 41 HS dc pl).mono ?_;(try clear cc);clear HS;rintro e wn ⟨⟨v,rfl⟩,HS⟩;have cc:=ye.cells HS)
   exact pe
  ·have h2b:(tx==[110,101,119])=false:=by simpa using h2
   simp only [ym,sS,sT,Int.reduceEq,reduceIte,ef h1,ef h2] at hl ⊢
   have HL:=zm hl
   have HV:Hid (PV W0 _ kd tx nm ps ao ks.length cp):=zm ⟨ks,rfl,rfl,hK⟩
   have HS:=ye.start (bs:=bs) kd tx nm ps ao ks.length cp hN hB hp
   have ht:tx.length≤1099511627776:=pl
   have hc5:¬9223372036854775807<tx.length+1:=om
   clear hp hB hK hl hN
   try clear h0
   try clear h1
   try clear h2
   try clear hz
   simp only [JF,JA]
   go_enter Tryz.func103,Tryz.ntmps103
   (go_wp2;go_region_held2 (fun w'=>w'.cell? ⟨w.heap.size,1,none⟩=some (.string ⟨tx.toArray⟩)) (go_keep) (first | (go_at_call 34;(try simp only [ByteArray.mk_append_mk]);with_reducible refine (ye.s (ye.dr HS) pl).mono ?_;(try clear cc);clear HS;rintro e wn ⟨⟨v,rfl⟩,HS⟩;have cc:=ye.cells HS)))
   (have hpj:di .expr:=fun _ _=>rfl;have hjf:JF .expr=91:=rfl;have hen:Ent 91:=dP 91 dc;have HU:=(RHk HR .expr (l:=ks) (fun _=>trivial) (fun _ h=>h));have HQ:=(PV.rv HV);go_wp2_with fail;with_reducible refine (ye.list .expr HS HQ hpj hjf hen HU pl).mono ?_;clear hpj hjf hen HU HQ;(try clear cc);clear HS;rintro e wn ⟨rfl,HS⟩;have cc:=ye.cells HS)
   (go_wp2_with fail;with_reducible refine (ye.byte 41 HS dc pl).mono ?_;(try clear cc);clear HS;rintro e wn ⟨⟨v,rfl⟩,HS⟩;have cc:=ye.cells HS)
   exact pe
theorem rO {W0:World} {N b:Nat} (hN:N=W0.heap.size) (digits:Int→List UInt8) (rec:PrJ→Nat→Tree→List UInt8) (d:Nat) (hd:d<1152921504606846976) (t:Tree) (hr:RH W0 N b rec .exprStmt d t) (ho:okJ .exprStmt t):JC W0 N b (ym digits rec) .exprStmt d t:=by
 intro kd tx nm ps ks ao cp e hK bs w hB hp hl
 subst e
 have HR:=zm hr
 clear hr
 by_cases k41:kd=41
 ·subst k41
  have hkk:(Tree.mk 41 tx nm ps ks).kind≠0:=by simp [Tree.kind]
  by_cases h1:tx=[60,45]
  ·have h1b:(tx==[60,45])=true:=by rw [h1];rfl
   simp only [ym,sS,sT,Int.reduceEq,reduceIte,et h1] at hl ⊢
   have HL:=zm hl
   have HV:Hid (PV W0 _ 41 tx nm ps ao ks.length cp):=zm ⟨ks,rfl,rfl,hK⟩
   have HS:=ye.start (bs:=bs) 41 tx nm ps ao ks.length cp hN hB hp
   clear hp hB hK hl hN
   try clear h0
   try clear h1
   try clear h2
   try clear hz
   simp only [JF,JA]
   go_enter Tryz.func111,Tryz.ntmps111
   (go_wp2_with fail;(try simp only [ByteArray.mk_append_mk]);with_reducible refine (ye.s HS pl).mono ?_;(try clear cc);clear HS;rintro e wn ⟨⟨v,rfl⟩,HS⟩;have cc:=ye.cells HS)
   (go_wp2_with fail;with_reducible refine (ye.part 0 HS HV dc).mono ?_;(try clear cc);clear HS;rintro e wn ⟨⟨kd2,tx2,nm2,ps2,ao2,n2,cp2,rfl,HP⟩,HS⟩;have cc:=ye.cells HS)
   (have HJ:=((zk (RHp HR .expr hkk 0 trivial)).pv HP);simp only [JF,JA] at HJ;go_wp2_with fail;with_reducible refine (ye.call HS HJ pl).mono ?_;(try clear cc);clear HS HJ;rintro e wn ⟨rfl,HS⟩;have cc:=ye.cells HS)
   exact pe
  ·have h1b:(tx==[60,45])=false:=by simpa using h1
   simp only [ym,sS,sT,Int.reduceEq,reduceIte,ef h1] at hl ⊢
   have HL:=zm hl
   have HV:Hid (PV W0 _ 41 tx nm ps ao ks.length cp):=zm ⟨ks,rfl,rfl,hK⟩
   have HS:=ye.start (bs:=bs) 41 tx nm ps ao ks.length cp hN hB hp
   clear hp hB hK hl hN
   try clear h0
   try clear h1
   try clear h2
   try clear hz
   simp only [JF,JA]
   go_enter Tryz.func111,Tryz.ntmps111
   (have HJ:=((zk (RHs HR .expr dc zM)).pv HV);simp only [JF,JA] at HJ;go_wp2_with fail;with_reducible refine (ye.call HS HJ pl).mono ?_;(try clear cc);clear HS HJ;rintro e wn ⟨rfl,HS⟩;have cc:=ye.cells HS)
   exact pe
 ·skip
  simp only [ym,sS,sT,Int.reduceEq,reduceIte,k41] at hl ⊢
  have HL:=zm hl
  have HV:Hid (PV W0 _ kd tx nm ps ao ks.length cp):=zm ⟨ks,rfl,rfl,hK⟩
  have HS:=ye.start (bs:=bs) kd tx nm ps ao ks.length cp hN hB hp
  clear hp hB hK hl hN
  try clear h0
  try clear h1
  try clear h2
  try clear hz
  simp only [JF,JA]
  go_enter Tryz.func111,Tryz.ntmps111
  (have HJ:=((zk (RHs HR .expr dc zM)).pv HV);simp only [JF,JA] at HJ;go_wp2_with fail;with_reducible refine (ye.call HS HJ pl).mono ?_;(try clear cc);clear HS HJ;rintro e wn ⟨rfl,HS⟩;have cc:=ye.cells HS)
  exact pe
end Go.Proofs.YtgbjpnnockoomaaGreatDoor.Pp
