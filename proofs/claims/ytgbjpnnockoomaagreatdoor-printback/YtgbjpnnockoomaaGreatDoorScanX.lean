import Derived.Test.YtgbjpnnockoomaaGreatDoorDeep
import Derived.Test.YtgbjpnnockoomaaGreatDoorSteps
set_option maxHeartbeats 4000000
set_option maxRecDepth 100000
set_option maxHeartbeats 800000
namespace Go.Proofs.YtgbjpnnockoomaaGreatDoor
open Go.RowKit Go.Extern.Stop Go.Stop Go.Extern Lx
theorem Tryz.set45 (tb bb:Nat) (e old:Value) (W:World) (he:e.oneCell'=true) (hb:W.cell? ⟨bb,0,none⟩=some e) (ht:W.cell? ⟨tb,0,none⟩=some old) (hf:W.frozen? ⟨tb,0,none⟩=false) :
 (ReflectliteValue.set #[.agg #[.pointer (some ⟨5,57,none⟩),.pointer (some ⟨tb,0,none⟩),.int .u64 409],.agg #[.pointer (some ⟨5,57,none⟩),.pointer (some ⟨bb,0,none⟩),.int .u64 153]]).run Tryz.prog W
  = .ok (.tuple #[]) (W.setCell ⟨tb,0,none⟩ e):=by
 rw [rls]
 simp only [Sem.run_bind,Tryz.parts45a,Tryz.parts45,Result.andThen]
 simp [ReflectliteValue.flagAddr,loadVar,isAgg,underlying,Tryz.underlying57,Result.andThen,Tryz.direct45,storeVar,Value.cells,storeCells,Addr.add]
 have hl:=run_loadCells_list (P:=Tryz.prog) W ⟨bb,0,none⟩ [e] (fun j v hj=>by
  match j,hj with
  | 0,hj=>simp at hj;subst hj;exact hb)
 simp at hl
 rw [hl]
 simp [storeCells,Addr.add]
 rw [run_store Tryz.prog W ⟨tb,0,none⟩ _ _ he]
 simp [ht,hf]
theorem Tryz.noAs81 (v:Value) (w:World):(Instr.typeAssert (.iface 118 v) 38 95 true).run Tryz.prog w=.ok (.tuple #[.nilIface,.bool false]) w:=run_typeAssert_lacksB Tryz.underlying95 zG zG v 38 w
theorem Tryz.hasUnwrap81 (v:Value) (w:World):(Instr.typeAssert (.iface 118 v) 38 98 true).run Tryz.prog w=.ok (.tuple #[.iface 118 v,.bool true]) w:=run_typeAssert_hasB Tryz.underlying98 zG v 38 w
theorem as_inner (nm:ByteArray) (p:Int) (tb vb:Nat) (old:Value) (w:World) (ht0:w.cell? ⟨tb,0,none⟩=some old) (hf0:w.frozen? ⟨tb,0,none⟩=false) (hv:w.cell? ⟨vb,0,none⟩=some (.pointer (some ⟨tb,0,none⟩))) :
 Calls Tryz.prog 21 #[.iface 118 (.agg #[.string nm,.iface 57 (.agg #[.int .i64 p])]),.iface 58 (.pointer (some ⟨tb,0,none⟩)),.agg #[.pointer (some ⟨5,58,none⟩),.pointer (some ⟨vb,0,none⟩),.int .u64 150],.iface 90 (.agg #[.pointer (some ⟨5,57,none⟩)])] w
  fun ev w'=>ev=.returned (.bool true)∧w'.cell? ⟨tb,0,none⟩=some (.int .i64 p)∧w.grownBy w' (some tb):=by
 have h20:=@run_callFunc_extern Tryz.prog 18 _ (fun args=>ReflectliteValue.unpack (args.getD 0 (.tuple #[]))) Tryz.func18 zG zG zG zG
 have h35:=@run_callFunc_extern Tryz.prog 31 _ ReflectliteType.typeOf Tryz.func31 zG zG zG zG
 have h67:=@run_callFunc_extern Tryz.prog 195 _ (ReflectliteType.relation "AssignableTo" ReflectliteType.assignableTo) Tryz.func195 zG zG zG zG
 have h36:=@run_callFunc_extern Tryz.prog 32 _ (ReflectliteValue.method (ReflectliteValue.valueError "reflectlite.Value.Elem" 0) ReflectliteValue.elem) Tryz.func32 zG zG zG zG
 have h37:=@run_callFunc_extern Tryz.prog 33 _ ReflectliteValue.set Tryz.func33 zG zG zG zG
 have tO:=Tryz.typeOf45
 have tP:=Tryz.typeOf81
 have mA:=Tryz.methodAssignableTo
 have mU:=Tryz.methodUnwrap
 have a45:=Tryz.uq
 have a81:=Tryz.uw
 have v45:=Tryz.valueOf45
 have nA:=Tryz.noAs81
 have hU:=Tryz.hasUnwrap81
 have htl:tb<w.heap.size:=World.block_lt_of_cell? w ⟨tb,0,none⟩ ht0
 have hvl:vb<w.heap.size:=World.block_lt_of_cell? w ⟨vb,0,none⟩ hv
 have el:=Tryz.elemV47 ⟨vb,0,none⟩ ⟨tb,0,none⟩ ((w.alloc (.cells #[.pointer (some ⟨5,58,none⟩),.pointer (some ⟨vb,0,none⟩),.int .u64 150] 70)).alloc (.cells #[.string nm,.iface 57 (.agg #[.int .i64 p])] 118)) (by rw [World.cell?_alloc_lt _ _ ⟨vb,0,none⟩ sp,World.cell?_alloc_lt _ _ ⟨vb,0,none⟩ hvl];exact hv)
 have st:=Tryz.set45 tb (w.heap.size+1+1) (.int .i64 p) old (((w.alloc (.cells #[.pointer (some ⟨5,58,none⟩),.pointer (some ⟨vb,0,none⟩),.int .u64 150] 70)).alloc (.cells #[.string nm,.iface 57 (.agg #[.int .i64 p])] 118)).alloc (.cells #[.int .i64 p] 57)) rfl (by rw [World.cell?_alloc_at _ _ _ _ zK];rfl)
  (by rw [World.cell?_alloc_lt _ _ ⟨tb,0,none⟩ sp,World.cell?_alloc_lt _ _ ⟨tb,0,none⟩ sp,World.cell?_alloc_lt _ _ ⟨tb,0,none⟩ htl];exact ht0)
  (by rw [World.frozen?_alloc_old _ _ ⟨tb,0,none⟩ sp,World.frozen?_alloc_old _ _ ⟨tb,0,none⟩ sp,World.frozen?_alloc_old _ _ ⟨tb,0,none⟩ (Nat.ne_of_lt htl)];exact hf0)
 go_enter Tryz.func21,Tryz.ntmps21
 go_wp2
 refine wp_loop_rounds 2 ?_
 rw [rounds_succ]
 go_wp2
 rw [rounds_succ]
 go_wp2
 go_ret
 refine ⟨rfl, ?_,rfl,rfl,rfl, ?_, ?_⟩
 ·refine World.cell?_setCell_same' _ _ _ ?_
  rw [World.cell?_alloc_lt _ _ ⟨tb,0,none⟩ sp,World.cell?_alloc_lt _ _ ⟨tb,0,none⟩ sp,World.cell?_alloc_lt _ _ ⟨tb,0,none⟩ htl,ht0];rfl
 ·simp [World.setCell];omega
 ·intro k hk hne
  have hne':k≠tb:=fun e=>hne (by rw [e])
  rw [Below.heap_setCell _ _ _ _ hne',Below.heap_alloc _ _ _ sp,Below.heap_alloc _ _ _ sp,Below.heap_alloc _ _ _ hk]
theorem as_hit (nm:ByteArray) (p:Int) (tb:Nat) (old:Value) (w:World) (hg:w.cell? ⟨0,0,none⟩=some (.iface 90 (.agg #[.pointer (some ⟨5,38,none⟩)]))) (ht0:w.cell? ⟨tb,0,none⟩=some old) (hf0:w.frozen? ⟨tb,0,none⟩=false) :
 Calls Tryz.prog 11 #[.iface 118 (.agg #[.string nm,.iface 57 (.agg #[.int .i64 p])]),.iface 58 (.pointer (some ⟨tb,0,none⟩))] w
  fun ev w'=>ev=.returned (.bool true)∧w'.cell? ⟨tb,0,none⟩=some (.int .i64 p)∧w.grownBy w' (some tb):=by
 have htl:tb<w.heap.size:=World.block_lt_of_cell? w ⟨tb,0,none⟩ ht0
 have h0l:0<w.heap.size:=World.block_lt_of_cell? w ⟨0,0,none⟩ hg
 have h20:=@run_callFunc_extern Tryz.prog 18 _ (fun args=>ReflectliteValue.unpack (args.getD 0 (.tuple #[]))) Tryz.func18 zG zG zG zG
 have h21:=@run_callFunc_extern Tryz.prog 19 _ (ReflectliteValue.methodAny (ReflectliteValue.valueError "reflectlite.Value.Type" 0) (fun t _ _ _=>ReflectliteType.toType t)) Tryz.func19 zG zG zG zG
 have h22:=@run_callFunc_extern Tryz.prog 20 _ (ReflectliteValue.method (ReflectliteValue.valueError "reflectlite.Value.IsNil" 0) ReflectliteValue.isNil) Tryz.func20 zG zG zG zG
 have h59:=@run_callFunc_extern Tryz.prog 183 _ (ReflectliteType.abiMethod fun t=>do pure (.int .u8 (←Rtype.kind t))) Tryz.func183 zG zG zG zG
 have h69:=@run_callFunc_extern Tryz.prog 197 _ (ReflectliteType.method ReflectliteType.elem) Tryz.func197 zG zG zG zG
 have h70:=@run_callFunc_extern Tryz.prog 198 _ (ReflectliteType.relation "Implements" ReflectliteType.implements_) Tryz.func198 zG zG zG zG
 have f47:=Tryz.valueOf47
 have t47:=Tryz.type47
 have mK:=Tryz.methodKind
 have mE:=Tryz.methodElem
 have mI:=Tryz.methodImplements
 have k47:=Tryz.kind47
 have k45:=Tryz.kind45
 have e47:=Tryz.elem47
 have i45:=Tryz.uP
 have n22:=Tryz.isNil47 ⟨w.heap.size,0,none⟩ ⟨tb,0,none⟩ ((w.alloc (.cells #[.pointer (some ⟨tb,0,none⟩)] 58)).alloc (.cells #[.pointer (some ⟨5,58,none⟩),.pointer (some ⟨w.heap.size,0,none⟩),.int .u64 150] 70)) zK
 have hg2:((w.alloc (.cells #[.pointer (some ⟨tb,0,none⟩)] 58)).alloc (.cells #[.pointer (some ⟨5,58,none⟩),.pointer (some ⟨w.heap.size,0,none⟩),.int .u64 150] 70)).cell? ⟨0,0,none⟩=some (.iface 90 (.agg #[.pointer (some ⟨5,38,none⟩)])):=by
  rw [World.cell?_alloc_lt _ _ ⟨0,0,none⟩ zK,World.cell?_alloc_lt _ _ ⟨0,0,none⟩ h0l];exact hg
 have HIN:=zm (as_inner nm p tb w.heap.size old ((w.alloc (.cells #[.pointer (some ⟨tb,0,none⟩)] 58)).alloc (.cells #[.pointer (some ⟨5,58,none⟩),.pointer (some ⟨w.heap.size,0,none⟩),.int .u64 150] 70))
  (by rw [World.cell?_alloc_lt _ _ ⟨tb,0,none⟩ sp,World.cell?_alloc_lt _ _ ⟨tb,0,none⟩ htl];exact ht0)
  (by rw [World.frozen?_alloc_old _ _ ⟨tb,0,none⟩ sp,World.frozen?_alloc_old _ _ ⟨tb,0,none⟩ (Nat.ne_of_lt htl)];exact hf0) zK)
 go_enter Tryz.func11,Tryz.ntmps11
 go_wp2_with (first | (go_at_call 21;refine (zk HIN).mono ?_;rintro e w' ⟨rfl,hcc,hgr⟩))
 go_ret
 refine ⟨rfl,hcc,hgr.os,hgr.tape,hgr.output, ?_, ?_⟩
 ·have:=hgr.size;simp at this;omega
 ·intro k hk hne
  rw [hgr.block k sp hne,Below.heap_alloc _ _ _ sp,Below.heap_alloc _ _ _ hk]
open Go.RowKit Lx
structure Vars (w:World):Prop where
 et:w.cell? ⟨0,0,none⟩=some (.iface 90 (.agg #[.pointer (some ⟨5,38,none⟩)]))
 lm:∀ i,i<128→w.cell? ⟨1,i,none⟩=some (.int .i8 (iI i))
theorem Vars.lt {w:World} (h:Vars w):1<w.heap.size:=World.block_lt_of_cell? w ⟨1,0,none⟩ (h.lm 0 om)
theorem Vars.below {w w':World} {B:Nat} (h:Vars w) (hB:2≤B) (hb:Below B w w'):Vars w':=
 ⟨(hb.cell (p:=⟨0,0,none⟩) (by show 0<B;omega)).trans h.et,fun i hi=>(hb.cell (p:=⟨1,i,none⟩) (by show 1<B;omega)).trans (h.lm i hi)⟩
def jk (l:List UInt8) (w:World) (ev:Ending) (w':World):Prop:=
 ∃ v,ev=.returned (.tuple #[v,.agg #[.int .i64 (aY l).2.1,.int .i64 (aY l).2.2]])∧w'.ownsRow w.heap.size 85 4 v (aY l).1.length (yi (aY l).1)∧Below w.heap.size w w'
theorem mO {l:List UInt8} {a b:Int} {w w':World} (h:aY l=([],a,b)) (hb:Below w.heap.size w w'):jk l w (.returned (.tuple #[.slice none 0 0,.agg #[.int .i64 a,.int .i64 b]])) w':=by
 refine ⟨.slice none 0 0, ?_, ?_,hb⟩
 ·rw [h]
 ·rw [h];exact World.ownsRow_nil _ _ _ _
theorem Scan_big (s:ByteArray) (w:World) (hs:8192<s.size) :
 Calls Tryz.prog 9 #[.string s] w (jk s.toList w):=by
 have HL:=zm (lexR_big s.toList (by rw [yx];exact hs))
 have h1:(8192:Int)<s.size:=om
 go_enter Tryz.func9,Tryz.ntmps9
 go_wp2_with fail
 exact bodyPost_ret (v:=.tuple #[.slice none 0 0,.agg #[.int .i64 1,.int .i64 8192]]) (by simp [results,Tryz.results9,go_sem]) rfl (mO (zk HL) ((Below.refl _ _).alloc lr _))
theorem own_base {w:World} {base base' e size n:Nat} {v:Value} {xs:List Value} (hb:base'≤base) (h:w.ownsRow base e size v n xs):w.ownsRow base' e size v n xs:=by
 refine ⟨h.1, ?_⟩
 rcases h.2 with h2 | ⟨g,cap,cur,e1,e2,r⟩
 ·exact .inl h2
 ·exact .inr ⟨g,cap,cur,e1,Nat.le_trans hb e2,r⟩
theorem scan_len':∀ (f:Nat) (l:List UInt8) (k:Nat) (ts r:List Tok),ts.length≤k→k≤l.length→fO f l k ts=.inr r→r.length≤l.length
 | 0,l,k,ts,r,h,hk,hs=>by rw [fO] at hs;cases hs;omega
 | f+1,l,k,ts,r,h,hk,hs=>by
   rw [fO] at hs
   by_cases hlt:k<l.length
   ·rw [if_pos hlt] at hs
    cases hp:jh l k ts with
    | inl p=>rw [hp] at hs;cases hs
    | inr q=>
      rw [hp] at hs
      obtain ⟨h1,h2,h3⟩:=iP l k ts hlt q.1 q.2 hp
      exact scan_len' f l q.1 q.2 r om h2 hs
   ·rw [if_neg hlt] at hs;cases hs;omega
theorem jW (l:List UInt8) (ts:List Tok) (h:dm l 0 []=.inr ts):ts.length≤l.length:=scan_len' _ l 0 [] ts lr (Nat.zero_le _) h
theorem st0 (s:ByteArray) (w:World):St ((w.alloc (.cells #[.int .i64 0,.int .i64 0] 27)).alloc (.cells #[.string s,.int .i64 0,.slice none 0 0] 54)) (w.heap.size+1) s 0 (.slice none 0 0) []:=
 ⟨yW _ _ zK,World.ownsRow_nil _ _ _ _⟩
theorem blkN (s:ByteArray) (w:World):((w.alloc (.cells #[.int .i64 0,.int .i64 0] 27)).alloc (.cells #[.string s,.int .i64 0,.slice none 0 0] 54)).heap[w.heap.size]?=some (.cells #[.int .i64 0,.int .i64 0] 27):=by
 rw [Below.heap_alloc _ _ _ zK,yW _ _ rfl]
theorem belN (s:ByteArray) (w:World):Below w.heap.size w ((w.alloc (.cells #[.int .i64 0,.int .i64 0] 27)).alloc (.cells #[.string s,.int .i64 0,.slice none 0 0] 54)):=((Below.refl _ _).alloc lr _).alloc zK _
theorem Scan_lex (s:ByteArray) (w:World) (hs:s.size≤8192) (hv:Vars w) (p:Nat) (hp:dm s.toList 0 []=.inl p) :
 Calls Tryz.prog 9 #[.string s] w (jk s.toList w):=by
 have hll:s.toList.length≤8192:=by rw [yx];exact hs
 have HL:=zm (lexR_bad s.toList hll p hp)
 have HP:=zm hp
 clear hp
 have h1:¬(8192:Int)<s.size:=om
 have hlt:=hv.lt
 have HV:=zm hv
 clear hv
 have HSC:=zm (qV (w.heap.size+1) s (.slice none 0 0) _ (st0 s w) hs om ((zk HV).below (B:=w.heap.size) om (belN s w)).lm)
 rw [zk HP] at HSC
 go_enter Tryz.func9,Tryz.ntmps9
 go_wp2_with fail
 refine (zk HSC).mono ?_
 rintro e w2 ⟨⟨nm,rfl⟩,hb2⟩
 have hn2:w2.heap[w.heap.size]?=some (.cells #[.int .i64 0,.int .i64 0] 27):=by rw [hb2.block _ om];exact blkN s w
 have hb2':Below w.heap.size w w2:=(belN s w).trans (hb2.mono om)
 have hv2:Vars w2:=(zk HV).below (B:=w.heap.size) om hb2'
 have hz2:=bG hn2
 have HAS:=zm (as_hit nm p w2.heap.size (.int .i64 0) (w2.alloc (.cells #[.int .i64 0] 57)) (by rw [World.cell?_alloc_lt _ _ ⟨0,0,none⟩ (by show 0<w2.heap.size;omega)];exact hv2.et) zK zK)
 have HB2:=zm hb2'
 have HN2:=zm hn2
 clear hb2 hb2' hv2 hn2
 go_wp2_with (first | (go_at_call 11;refine (zk HAS).mono ?_;rintro e w4 ⟨rfl,hcc,hgr⟩;have hn4:=(hgr.block w.heap.size sp sp).trans (fF (zk HN2) _);have m0:=zv hn4 0;have m1:=zv hn4 1;have f0:=yT hn4 0;have f1:=yT hn4 1;have HGR:=zm hgr;clear hgr hn4))
 go_region
 all_goals
  go_wp2
  refine bodyPost_ret (v:=.tuple #[.slice none 0 0,.agg #[.int .i64 2,.int .i64 p]]) (by simp [results,Tryz.results9,go_sem,m0,m1]) rfl (mO (zk HL) ?_)
  exact ((((((zk HB2).alloc om _).grown (zk HGR) sp (fun q hq=>by have:=Option.some.inj hq;omega)).setCell lr _).setCell lr _)).drew
theorem Scan_deep (s:ByteArray) (w:World) (hs:s.size≤8192) (hv:Vars w) (ts:List Tok) (hp:dm s.toList 0 []=.inr ts) (a:Int) (hd:eG 0 (jQ ts s.toList.length)=some a) :
 Calls Tryz.prog 9 #[.string s] w (jk s.toList w):=by
 have hll:s.toList.length≤8192:=by rw [yx];exact hs
 have HL:=zm (lexR_deep s.toList hll ts hp a hd)
 rw [yx] at hd
 have hlen:(jQ ts s.size).length≤100000:=by
  unfold jQ
  have h1:=jw ts s.size
  have h2:=jW s.toList ts hp
  rw [yx] at h2
  rw [List.length_append]
  simp
  omega
 have HP:=zm hp
 have HD:=zm hd
 clear hp hd
 have h1:¬(8192:Int)<s.size:=om
 have hlt:=hv.lt
 have HV:=zm hv
 clear hv
 have HSC:=zm (qV (w.heap.size+1) s (.slice none 0 0) _ (st0 s w) hs om ((zk HV).below (B:=w.heap.size) om (belN s w)).lm)
 rw [zk HP] at HSC
 go_enter Tryz.func9,Tryz.ntmps9
 go_wp2_with fail
 refine (zk HSC).mono ?_
 rintro e w2 ⟨rfl,sv,hst,hb2⟩
 have hn2:w2.heap[w.heap.size]?=some (.cells #[.int .i64 0,.int .i64 0] 27):=by rw [hb2.block _ om];exact blkN s w
 have hb2':Below w.heap.size w w2:=(belN s w).trans (hb2.mono om)
 have hz2:=bG hst.blk
 have st3:=hst.alloc (.cells #[.int .i64 0] 57)
 have c2:(w2.alloc (.cells #[.int .i64 0] 57)).cell? ⟨w.heap.size+1,2,none⟩=some sv:=zv st3.blk 2
 have HTD:=zm (o7 _ sv (jQ ts s.size) _ st3.own hlen)
 unfold qh at HTD
 rw [zk HD] at HTD
 have HST:=zm st3
 have HB2:=zm hb2'
 have HN2:=zm (fF hn2 (.cells #[.int .i64 0] 57))
 obtain ⟨ao,cap,hsv⟩:=jV st3.own
 subst hsv
 clear hb2 hb2' hn2 hst st3
 go_wp2_with (first | (go_at_call 11;refine (as_nil _ _).mono ?_;rintro e w' ⟨rfl,hww⟩;have hw2:=hww.symm;clear hww;subst hw2) | (go_at_call 15;refine (zk HTD).mono ?_;rintro e w4 ⟨rfl,hb4⟩;have hn4:=(hb4.block w.heap.size sp).trans (zk HN2);have hs4:=(zk HST).below hb4;have c4:=zv hs4.blk 2;have m0:=zv hn4 0;have m1:=zv hn4 1;have f0:=yT hn4 0;have f1:=yT hn4 1;have HB4:=zm hb4;have HS4:=zm hs4;clear hb4 hs4 hn4))
 refine bodyPost_ret (v:=.tuple #[.slice none 0 0,.agg #[.int .i64 3,.int .i64 a]]) (by simp [results,Tryz.results9,go_sem,m0,m1]) rfl (mO (zk HL) ?_)
 exact ((((((zk HB2).alloc om _).trans ((zk HB4).mono sp)).setCell lr _).setCell lr _))
theorem Scan_ok (s:ByteArray) (w:World) (hs:s.size≤8192) (hv:Vars w) (ts:List Tok) (hp:dm s.toList 0 []=.inr ts) (hd:eG 0 (jQ ts s.toList.length)=none) :
 Calls Tryz.prog 9 #[.string s] w (jk s.toList w):=by
 have hll:s.toList.length≤8192:=by rw [yx];exact hs
 have HL:=zm (lexR_ok s.toList hll ts hp hd)
 rw [yx] at HL hd
 have hlen:(jQ ts s.size).length≤100000:=by
  unfold jQ
  have h1:=jw ts s.size
  have h2:=jW s.toList ts hp
  rw [yx] at h2
  rw [List.length_append]
  simp
  omega
 have HP:=zm hp
 have HD:=zm hd
 clear hp hd
 have h1:¬(8192:Int)<s.size:=om
 have hlt:=hv.lt
 have HV:=zm hv
 clear hv
 have HSC:=zm (qV (w.heap.size+1) s (.slice none 0 0) _ (st0 s w) hs om ((zk HV).below (B:=w.heap.size) om (belN s w)).lm)
 rw [zk HP] at HSC
 go_enter Tryz.func9,Tryz.ntmps9
 go_wp2_with fail
 refine (zk HSC).mono ?_
 rintro e w2 ⟨rfl,sv,hst,hb2⟩
 have hn2:w2.heap[w.heap.size]?=some (.cells #[.int .i64 0,.int .i64 0] 27):=by rw [hb2.block _ om];exact blkN s w
 have hb2':Below w.heap.size w w2:=(belN s w).trans (hb2.mono om)
 have hz2:=bG hst.blk
 have st3:=hst.alloc (.cells #[.int .i64 0] 57)
 have c2:(w2.alloc (.cells #[.int .i64 0] 57)).cell? ⟨w.heap.size+1,2,none⟩=some sv:=zv st3.blk 2
 have HTD:=zm (o7 _ sv (jQ ts s.size) _ st3.own hlen)
 unfold qh at HTD
 rw [zk HD] at HTD
 have HST:=zm st3
 have HB2:=zm hb2'
 have HN2:=zm (fF hn2 (.cells #[.int .i64 0] 57))
 obtain ⟨ao,cap,hsv⟩:=jV st3.own
 subst hsv
 clear hb2 hb2' hn2 hst st3
 go_wp2_with (first | (go_at_call 11;refine (as_nil _ _).mono ?_;rintro e w' ⟨rfl,hww⟩;have hw2:=hww.symm;clear hww;subst hw2) | (go_at_call 15;refine (zk HTD).mono ?_;rintro e w4 ⟨rfl,hb4⟩;have hn4:=(hb4.block w.heap.size sp).trans (zk HN2);have hs4:=(zk HST).below hb4;have c4:=zv hs4.blk 2;have m0:=zv hn4 0;have m1:=zv hn4 1;have f0:=yT hn4 0;have f1:=yT hn4 1;have HB4:=zm hb4;have HS4:=zm hs4;clear hb4 hs4 hn4))
 refine bodyPost_ret (v:=.tuple #[.slice ao (allT ts s.size).length cap,.agg #[.int .i64 0,.int .i64 0]]) (by simp [results,Tryz.results9,go_sem,m0,m1]) rfl ⟨.slice ao (allT ts s.size).length cap, ?_, ?_,((((((zk HB2).alloc om _).trans ((zk HB4).mono sp)).setCell lr _).setCell lr _))⟩
 ·rw [zk HL]
 ·rw [zk HL]
  exact own_base om (ownsRow_setCell_below (ownsRow_setCell_below (zk HS4).own (by show w.heap.size<_;omega) _) (by show w.heap.size<_;omega) _)
theorem Scan_any (s:ByteArray) (w:World) (hv:Vars w):Calls Tryz.prog 9 #[.string s] w (jk s.toList w):=by
 by_cases hs:8192<s.size
 ·exact Scan_big s w hs
 ·cases hp:dm s.toList 0 [] with
  | inl p=>exact Scan_lex s w om hv p hp
  | inr ts=>
    cases hd:eG 0 (jQ ts s.toList.length) with
    | some a=>exact Scan_deep s w om hv ts hp a hd
    | none=>exact Scan_ok s w om hv ts hp hd
end Go.Proofs.YtgbjpnnockoomaaGreatDoor
