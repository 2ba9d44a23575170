import Derived.Test.YtgbjpnnockoomaaGreatDoorPart
import Derived.Test.YtgbjpnnockoomaaGreatDoorSteps
import Derived.Deep.LoopGhost
import Derived.LaidEql
import Derived.Stop.Asserts
import Derived.RowKitTokens
set_option maxHeartbeats 1000000
set_option maxRecDepth 100000
namespace Go.Proofs.YtgbjpnnockoomaaGreatDoor
open Go.RowKit Lx
theorem beqT {c n:UInt8} (h:c=n):((c.toNat:Int)==(n.toNat:Int))=true:=by subst h;simp
theorem gY {c n:UInt8} (h:¬c=n):((c.toNat:Int)==(n.toNat:Int))=false:=beq_eq_false_iff_ne.2 fun e=>h (byte_of e)
theorem lM (b k:Nat) (s:ByteArray) (sv:Value) (ts:List Tok) (w:World) (h:St w b s k sv ts) (hn:ts.length≤100000) (hs:s.size≤8192) (hk:k<s.size) (hg:∀ i,i<128→w.cell? ⟨1,i,none⟩=some (.int .i8 (iI i))) :
 Calls Tryz.prog 25 #[.pointer (some ⟨b,0,none⟩)] w (dV b s w (jh s.toList k ts)):=by
 unfold jh
 rw [fJ s k hk]
 simp only
 by_cases h1:s[k]=32
 ·rw [if_pos (Or.inl h1)]
  exact part_sp b k s sv ts w h hs hk (beqT h1)
 ·by_cases h2:s[k]=9
  ·rw [if_pos (Or.inr h2)]
   exact part_tab b k s sv ts w h hs hk (gY h1) (beqT h2)
  ·rw [if_neg (by intro e;rcases e with e | e;exact h1 e;exact h2 e)]
   by_cases h3:s[k]=10
   ·rw [if_pos h3]
    exact part_nl b k s sv ts w h hn hs hk (gY h1) (gY h2) (beqT h3)
   ·rw [if_neg h3]
    cases h4:cmt s.toList k with
    | true=>
      rw [if_pos rfl]
      exact part_cmt b k s sv ts w h hs hk (gY h1) (gY h2) (gY h3) h4
    | false=>
      rw [if_neg zK]
      cases h5:isLet s[k] with
      | true=>
        rw [if_pos rfl]
        cases hr:lJ s.toList k ts with
        | inl p=>rw [←hr];exact vw b k s sv ts w h hn hs hk (gY h1) (gY h2) (gY h3) h4 h5 p hr
        | inr q=>rw [←hr];exact vz b k s sv ts w h hn hs hk (gY h1) (gY h2) (gY h3) h4 h5 q hr
      | false=>
        rw [if_neg zK]
        cases h6:aG s[k] with
        | true=>
          rw [if_pos rfl]
          cases hr:kJ s.toList k ts with
          | inl p=>rw [←hr];exact part_num_no b k s sv ts w h hn hs hk (gY h1) (gY h2) (gY h3) h4 h5 h6 p hr
          | inr q=>rw [←hr];exact part_num_ok b k s sv ts w h hn hs hk (gY h1) (gY h2) (gY h3) h4 h5 h6 q hr
        | false=>
          rw [if_neg zK]
          by_cases h7:s[k]=34
          ·rw [if_pos h7]
           cases hr:textF s.toList k ts with
           | inl p=>rw [←hr];exact vC b k s sv ts w h hn hs hk (gY h1) (gY h2) (gY h3) h4 h5 h6 (beqT h7) p hr
           | inr q=>rw [←hr];exact vF b k s sv ts w h hn hs hk (gY h1) (gY h2) (gY h3) h4 h5 h6 (beqT h7) q hr
          ·rw [if_neg h7]
           cases hr:lH s.toList k ts with
           | inl p=>rw [←hr];exact vg b k s sv ts w h hn hs hk (gY h1) (gY h2) (gY h3) h4 h5 h6 (gY h7) hg p hr
           | inr q=>rw [←hr];exact vk b k s sv ts w h hn hs hk (gY h1) (gY h2) (gY h3) h4 h5 h6 (gY h7) hg q hr
def allT (ts:List Tok) (n:Nat):List Tok:=kS ts n++[⟨6,[],0,n⟩]
def ScanPost (b:Nat) (s:ByteArray) (w:World) (r:Sum Nat (List Tok)) (ev:Ending) (w':World):Prop:=
 match r with
 | .inl p=>(∃ nm,ev=.returned (.iface 118 (.agg #[.string nm,.iface 57 (.agg #[.int .i64 (p:Int)])])))∧Below b w w'
 | .inr ts=>ev=.returned .nilIface∧∃ sv',St w' b s s.size sv' (allT ts s.size)∧Below b w w'
theorem qV (b:Nat) (s:ByteArray) (sv:Value) (w:World) (h:St w b s 0 sv []) (hs:s.size≤8192) (h1b:1<b) (hg:∀ i,i<128→w.cell? ⟨1,i,none⟩=some (.int .i8 (iI i))) :
 Calls Tryz.prog 14 #[.pointer (some ⟨b,0,none⟩)] w (ScanPost b s w (dm s.toList 0 [])):=by
 have H:=zm h
 have HG:=zm hg
 clear h hg
 have HZ:Hid ((ByteArray.mk #[]).toList=[]):=ByteArray.toList_mk []
 go_enter Tryz.func14,Tryz.ntmps14
 go_wp2
 go_loopg [3] (s.size) (fun gk _ wr=>∃ (k:Nat) (ts:List Tok) (sv:Value),gk=s.size-k∧St wr b s k sv ts∧k≤s.size∧ts.length≤k∧Below b w wr∧dm s.toList k ts=dm s.toList 0 [])
 case atStart=>exact ⟨0,[],sv,rfl,zk H,Nat.zero_le _,Nat.le_refl _,Below.refl _ _,rfl⟩
 case round=>
  obtain ⟨k,ts,sv1,rfl,hst,hk,hl,hb,hsc⟩:=hrel
  have c0:wr.cell? ⟨b,0,none⟩=some (.string s):=zv hst.blk 0
  have c1:wr.cell? ⟨b,1,none⟩=some (.int .i64 k):=zv hst.blk 1
  have HG1:Hid (∀ i,i<128→wr.cell? ⟨1,i,none⟩=some (.int .i8 (iI i))):=fun i hi=>(hb.cell (p:=⟨1,i,none⟩) h1b).trans (zk HG i hi)
  have HS:=zm hst
  have HB:=zm hb
  have HC:=zm hsc
  clear hst hb hsc
  by_cases hlt:k<s.size
  ·have h4:(k:Int)<s.size:=om
   have hll:k<s.toList.length:=by rw [yx];exact hlt
   cases hp:jh s.toList k ts with
   | inl p=>
     have HP:=zm hp
     clear hp
     go_wp2_with fail
     go_quiet (fail)
     go_wp2_with fail
     refine (lM b k s sv1 ts _ (by exact (zk HS).heap rfl) om hs hlt (by exact zk HG1)).mono ?_
     intro e w1 hpp
     rw [zk HP] at hpp
     obtain ⟨⟨nm,rfl⟩,hbl⟩:=hpp
     have HBL:=zm hbl
     clear hbl
     go_wp2
     go_ret
     rw [←zk HC,scanAll_inl _ _ _ _ hll (zk HP)]
     exact ⟨⟨nm,rfl⟩,((zk HB).trans (yf b _ _)).trans (zk HBL)⟩
   | inr q=>
     have HP:=zm hp
     clear hp
     go_wp2_with fail
     go_quiet (fail)
     go_wp2_with fail
     refine (lM b k s sv1 ts _ (by exact (zk HS).heap rfl) om hs hlt (by exact zk HG1)).mono ?_
     intro e w1 hpp
     rw [zk HP] at hpp
     obtain ⟨rfl,sv2,hst2,hbl⟩:=hpp
     have HS2:=zm hst2
     have HBL:=zm hbl
     clear hst2 hbl
     go_wp2
     go_roundg (s.size-q.1)
     case measure=>
      have:=iP s.toList k ts hll q.1 q.2 (zk HP)
      omega
     case rel=>
      have hpr:=iP s.toList k ts hll q.1 q.2 (zk HP)
      rw [yx] at hpr
      refine ⟨q.1,q.2,sv2,rfl,zk HS2,hpr.2.1,om,((zk HB).trans (yf b _ _)).trans (zk HBL), ?_⟩
      rw [←zk HC,scanAll_inr _ _ _ _ _ hll (zk HP)]
  ·have h4:decide ((k:Int)<s.size)=false:=by simp;omega
   obtain rfl:k=s.size:=om
   go_wp2_with fail
   go_quiet (fail)
   go_wp2_with fail
   refine (oU b s.size s sv1 ts _ (by exact (zk HS).heap rfl) om).mono ?_
   rintro e w1 ⟨rfl,sv2,hst2,hbl⟩
   have d1:w1.cell? ⟨b,1,none⟩=some (.int .i64 s.size):=zv hst2.blk 1
   have HS2:=zm hst2
   have HBL:=zm hbl
   clear hst2 hbl
   go_wp2_with fail
   refine lN 10 zG zG ?_
   simp only [List.take_succ_cons,List.take_zero,List.drop_succ_cons,List.drop_zero]
   repeat still_step
   refine wpStill_nil ?_
   go_wp2_with fail
   refine (add_any b s.size s.size s sv2 _ 6 0 s.size ⟨#[]⟩ _ (by exact (zk HS2).heap rfl) (by have:=jw ts s.size;rw [endL_eq];omega)).mono ?_
   rintro e w2 ⟨rfl,sv3,hst3,hbl3⟩
   have HS3:=zm hst3
   have HBL3:=zm hbl3
   clear hst3 hbl3
   go_wp2
   go_ret
   rw [←zk HC,scanAll_end _ _ _ (by rw [yx];exact Nat.le_refl _)]
   refine ⟨rfl,sv3, ?_,(((zk HB).trans (yf b _ _)).trans (zk HBL)).drew.trans (zk HBL3)⟩
   have:=zk HS3
   rw [zk HZ] at this
   exact this
open Go.RowKit Go.Extern.Stop Go.Stop Go.Extern Lx
theorem as_nil (t:Value) (w:World) :
 Calls Tryz.prog 11 #[.nilIface,t] w fun e w'=>e=.returned (.bool false)∧w'=w:=by
 go_enter Tryz.func11,Tryz.ntmps11
 go_wp2
 go_ret
 exact ⟨rfl,rfl⟩
theorem Tryz.valueOf47 (t:Addr) (w:World):(ReflectliteValue.unpack (.iface 58 (.pointer (some t)))).run Tryz.prog w
 = .ok (.agg #[.pointer (some ⟨5,58,none⟩),.pointer (some ⟨w.heap.size,0,none⟩),.int .u64 150]) (w.alloc (.cells #[.pointer (some t)] 58)):=by kernel_rfl
theorem Tryz.type47 (a:Addr) (w:World):(ReflectliteValue.methodAny (ReflectliteValue.valueError "reflectlite.Value.Type" 0) (fun t _ _ _=>ReflectliteType.toType t) #[.agg #[.pointer (some ⟨5,58,none⟩),.pointer (some a),.int .u64 150]]).run Tryz.prog w
 = .ok (.iface 90 (.agg #[.pointer (some ⟨5,58,none⟩)])) w:=by kernel_rfl
theorem Tryz.methodKind (h:Value) (w:World):(Go.method 294 90 (.agg #[h]) "Kind").run Tryz.prog w=.ok (183,h) w:=by kernel_rfl
theorem Tryz.kind47 (w:World):((ReflectliteType.abiMethod fun t=>(fun a:Nat=>Value.int IntKind.u8 (a:Int)) <$> Rtype.kind t) #[.pointer (some ⟨5,58,none⟩)]).run Tryz.prog w=.ok (.int .u8 22) w:=by kernel_rfl
theorem Tryz.kind45 (w:World):((ReflectliteType.abiMethod fun t=>(fun a:Nat=>Value.int IntKind.u8 (a:Int)) <$> Rtype.kind t) #[.pointer (some ⟨5,57,none⟩)]).run Tryz.prog w=.ok (.int .u8 25) w:=by kernel_rfl
theorem rlm (z:Sem Value) (f:TypeId→Addr→Nat→Nat→Sem Value) (v:Value) :
 ReflectliteValue.method z f #[v]=(do match ←ReflectliteValue.parts v with | none=>z | some (t,a,fl)=>f t a fl (fl%32)):=rfl
theorem Tryz.parts47 (a:Addr) (w:World):(ReflectliteValue.parts (.agg #[.pointer (some ⟨5,58,none⟩),.pointer (some a),.int .u64 150])).run Tryz.prog w=.ok (some (58,a,150)) w:=by kernel_rfl
theorem Tryz.isNil47 (a p:Addr) (W:World) (ha:W.cell? a=some (.pointer (some p))) :
 (ReflectliteValue.method (ReflectliteValue.valueError "reflectlite.Value.IsNil" 0) ReflectliteValue.isNil #[.agg #[.pointer (some ⟨5,58,none⟩),.pointer (some a),.int .u64 150]]).run Tryz.prog W=.ok (.bool false) W:=by
 rw [rlm]
 simp only [Sem.run_bind,Tryz.parts47,Result.andThen]
 simp [ReflectliteValue.isNil,loadVar,isAgg,underlying,Tryz.underlying58,ha,Result.andThen]
theorem Tryz.methodElem (h:Value) (w:World):(Go.method 294 90 (.agg #[h]) "Elem").run Tryz.prog w=.ok (197,.agg #[h]) w:=by kernel_rfl
theorem Tryz.methodImplements (h:Value) (w:World):(Go.method 294 90 (.agg #[h]) "Implements").run Tryz.prog w=.ok (198,.agg #[h]) w:=by kernel_rfl
theorem Tryz.methodAssignableTo (h:Value) (w:World):(Go.method 294 90 (.agg #[h]) "AssignableTo").run Tryz.prog w=.ok (195,.agg #[h]) w:=by kernel_rfl
theorem Tryz.methodUnwrap (h:Value) (w:World):(Go.method 294 118 h "Unwrap").run Tryz.prog w=.ok (206,h) w:=by kernel_rfl
theorem Tryz.elem47 (w:World):(ReflectliteType.method ReflectliteType.elem #[.agg #[.pointer (some ⟨5,58,none⟩)]]).run Tryz.prog w=.ok (.iface 90 (.agg #[.pointer (some ⟨5,57,none⟩)])) w:=by kernel_rfl
theorem Tryz.uP (w:World):(ReflectliteType.relation "Implements" ReflectliteType.implements_ #[.agg #[.pointer (some ⟨5,57,none⟩)],.iface 90 (.agg #[.pointer (some ⟨5,38,none⟩)])]).run Tryz.prog w=.ok (.bool true) w:=by kernel_rfl
theorem Tryz.typeOf45 (v:Value) (w:World):(ReflectliteType.typeOf #[.iface 57 v]).run Tryz.prog w=.ok (.iface 90 (.agg #[.pointer (some ⟨5,57,none⟩)])) w:=by kernel_rfl
theorem Tryz.typeOf81 (v:Value) (w:World):(ReflectliteType.typeOf #[.iface 118 v]).run Tryz.prog w=.ok (.iface 90 (.agg #[.pointer (some ⟨5,118,none⟩)])) w:=by kernel_rfl
theorem Tryz.uq (w:World):(ReflectliteType.relation "AssignableTo" ReflectliteType.assignableTo #[.agg #[.pointer (some ⟨5,57,none⟩)],.iface 90 (.agg #[.pointer (some ⟨5,57,none⟩)])]).run Tryz.prog w=.ok (.bool true) w:=by kernel_rfl
theorem Tryz.uw (w:World):(ReflectliteType.relation "AssignableTo" ReflectliteType.assignableTo #[.agg #[.pointer (some ⟨5,118,none⟩)],.iface 90 (.agg #[.pointer (some ⟨5,57,none⟩)])]).run Tryz.prog w=.ok (.bool false) w:=by kernel_rfl
theorem Tryz.valueOf45 (e:Value) (w:World):(ReflectliteValue.unpack (.iface 57 (.agg #[e]))).run Tryz.prog w
 = .ok (.agg #[.pointer (some ⟨5,57,none⟩),.pointer (some ⟨w.heap.size,0,none⟩),.int .u64 153]) (w.alloc (.cells #[e] 57)):=by kernel_rfl
theorem Tryz.elemOf47 (w:World):(Rtype.elem? 58).run Tryz.prog w=.ok (some 57) w:=by kernel_rfl
theorem Tryz.mk45 (p:Addr) (w:World):(ReflectliteValue.mk 57 p ReflectliteValue.flagAddr).run Tryz.prog w=.ok (.agg #[.pointer (some ⟨5,57,none⟩),.pointer (some p),.int .u64 409]) w:=by kernel_rfl
theorem Tryz.elemV47 (a p:Addr) (W:World) (ha:W.cell? a=some (.pointer (some p))) :
 (ReflectliteValue.method (ReflectliteValue.valueError "reflectlite.Value.Elem" 0) ReflectliteValue.elem #[.agg #[.pointer (some ⟨5,58,none⟩),.pointer (some a),.int .u64 150]]).run Tryz.prog W
  = .ok (.agg #[.pointer (some ⟨5,57,none⟩),.pointer (some p),.int .u64 409]) W:=by
 rw [rlm]
 simp only [Sem.run_bind,Tryz.parts47,Result.andThen]
 simp [ReflectliteValue.elem,loadVar,isAgg,underlying,Tryz.underlying58,ha,Result.andThen,Tryz.elemOf47,Tryz.mk45]
theorem rls (v x:Value):ReflectliteValue.set #[v,x]=(do
 let (some (dst,a,fl),some (src,b,_)):=(←ReflectliteValue.parts v,←ReflectliteValue.parts x)
  | unsupported (.noEntry "extern/(internal/reflectlite.Value).Set.zeroValue")
 if fl/ReflectliteValue.flagAddr%2==0 then unsupported (.noEntry "extern/(internal/reflectlite.Value).Set.unaddressable")
 let val ←loadVar src b
 if ←Rtype.directlyAssignable dst src then storeVar dst a val
 else if ←Rtype.implements dst src then
  if (←Rtype.kind src)==20 then
   match val with
   | .nilIface=>unsupported (.noEntry "extern/reflectlite: a nil value of one interface type handed on as a value of another")
   | _=>storeVar dst a val
  else storeVar dst a (.iface src val)
 else panicString ("reflectlite.Set: value of type "++(←Rtype.spelt src)++ " is not assignable to type "++(←Rtype.spelt dst))
 pure (.tuple #[])):=rfl
theorem Tryz.parts45a (a:Addr) (w:World):(ReflectliteValue.parts (.agg #[.pointer (some ⟨5,57,none⟩),.pointer (some a),.int .u64 409])).run Tryz.prog w=.ok (some (57,a,409)) w:=by kernel_rfl
theorem Tryz.parts45 (a:Addr) (w:World):(ReflectliteValue.parts (.agg #[.pointer (some ⟨5,57,none⟩),.pointer (some a),.int .u64 153])).run Tryz.prog w=.ok (some (57,a,153)) w:=by kernel_rfl
theorem Tryz.direct45 (w:World):(Rtype.directlyAssignable 57 57).run Tryz.prog w=.ok true w:=by kernel_rfl
open Go.RowKit Lx
theorem tok_cells {w:World} {base:Nat} {sv:Value} {ts:List Tok} (h:w.ownsRow base 85 4 sv ts.length (yi ts)) (j:Nat) (t:Tok) (hj:ts[j]?=some t):∃ g cap,sv=.slice (some ⟨g,0,none⟩) ts.length cap∧base≤g∧g<w.heap.size∧
 w.cell? ⟨g,j*4,none⟩=some (.int .i64 t.kind)∧w.cell? ⟨g,j*4+1,none⟩=some (.string ⟨t.text.toArray⟩)∧w.cell? ⟨g,j*4+2,none⟩=some (.int .i64 t.num)∧w.cell? ⟨g,j*4+3,none⟩=some (.int .i64 t.pos):=by
 obtain ⟨hl,he⟩:=List.getElem?_eq_some_iff.1 hj
 obtain ⟨g,cap,rfl,hb,hg⟩:=h.form om
 refine ⟨g,cap,rfl,hb,hg, ?_⟩
 have hc:=h.cells (g:=g) rfl
 have hadd:∀ j,(⟨g,0,none⟩:Addr).add j=⟨g,j,none⟩:=fun j=>by unfold Addr.add;split <;> simp_all
 have hx:∀ i u,(fP t)[i]?=some u→w.cell? ⟨g,j*4+i,none⟩=some u:=fun i u hu=>by
  rw [←hadd]
  refine hc _ _ ?_
  have e:yi ts=yi (ts.take j)++(fP t++yi (ts.drop (j+1))):=by
   conv=>lhs;rw [←List.take_append_drop j ts,List.drop_eq_getElem_cons hl,he]
   simp [yi]
  have e2:(yi (ts.take j)).length=j*4:=by rw [iR,List.length_take];congr 1;omega
  have hi4:i<(fP t).length:=(List.getElem?_eq_some_iff.1 hu).1
  rw [e,List.getElem?_append_right om,e2,Nat.add_sub_cancel_left,List.getElem?_append_left hi4]
  exact hu
 exact ⟨hx 0 _ rfl,hx 1 _ rfl,hx 2 _ rfl,hx 3 _ rfl⟩
theorem iH {v v':Int} {t:Tok} {r:List Tok} (ho:bQ v t=v') (h:¬(t.kind=5∧40<v')):eG v (t::r)=eG v' r:=by
 subst ho;rw [eG,if_neg h]
theorem jv {v v':Int} {t:Tok} {r:List Tok} (ho:bQ v t=v') (hk:t.kind=5) (h:40<v'):eG v (t::r)=some t.pos:=by
 subst ho;rw [eG,if_pos ⟨hk,h⟩]
theorem oa_no {v:Int} {t:Tok} (hk:¬t.kind=5):bQ v t=v:=by rw [bQ,if_neg hk]
theorem uZ {v:Int} {t:Tok} (hk:t.kind=5) (h:opens t.text=true):bQ v t=v+1:=by rw [bQ,if_pos hk,if_pos h]
theorem qL {v:Int} {t:Tok} (hk:t.kind=5) (h:closes t.text=true) (h':opens t.text=false):bQ v t=max (v-1) 0:=by rw [bQ,if_pos hk,if_neg (by simp [h']),if_pos h]
theorem oa_else {v:Int} {t:Tok} (hk:t.kind=5) (h:closes t.text=false) (h':opens t.text=false):bQ v t=v:=by rw [bQ,if_pos hk,if_neg (by simp [h']),if_neg (by simp [h])]
def qh (ts:List Tok) (w:World) (ev:Ending) (w':World):Prop:=
 ev=.returned (.tuple #[.int .i64 ((eG 0 ts).getD 0),.bool (eG 0 ts).isSome])∧Below w.heap.size w w'
theorem o7 (base:Nat) (sv:Value) (ts:List Tok) (w:World) (h:w.ownsRow base 85 4 sv ts.length (yi ts)) (hn:ts.length≤100000) :
 Calls Tryz.prog 15 #[sv] w (qh ts w):=by
 obtain ⟨ao,cap0,hsv⟩:=jV h
 have HSV:=zm hsv
 have H:=zm h
 clear h
 rw [hsv]
 clear hsv
 go_enter Tryz.func15,Tryz.ntmps15
 go_wp2
 go_loopw [4,9] (fun o i wr=>∃ (j:Nat) (v:Int),j≤ts.length∧i=.int .i64 j∧o=.int .i64 v∧0≤v∧v≤j∧Below w.heap.size w wr∧eG v (ts.drop j)=eG 0 ts) (fun _ i _=>ts.length-(intOf i).toNat)
 case atStart=>exact ⟨0,0,Nat.zero_le _,rfl,rfl,Int.le_refl _,om,Below.refl _ _,rfl⟩
 case round=>
  obtain ⟨j,v,hj,rfl,rfl,hv0,hvj,hbel,hd⟩:=hrel
  have HB:=zm hbel
  have HD:=zm hd
  clear hbel hd
  by_cases hlt:j<ts.length
  ·obtain ⟨g,cap,e1,hg1,hg2,d0,d1,d2,d3⟩:=tok_cells (zk H) j ts[j] (List.getElem?_eq_getElem hlt)
   obtain ⟨rfl,rfl⟩:ao=some ⟨g,0,none⟩∧cap0=cap:=by
    have:=(zk HSV).symm.trans e1
    simpa using this
   clear e1
   have HDR:Hid (ts.drop j=ts[j]::ts.drop (j+1)):=List.drop_eq_getElem_cons hlt
   generalize ts[j]=t at *
   have k0:=((zk HB).cell (p:=⟨g,j*4,none⟩) hg2).trans d0
   have k1:=((zk HB).cell (p:=⟨g,j*4+1,none⟩) hg2).trans d1
   have k2:=((zk HB).cell (p:=⟨g,j*4+2,none⟩) hg2).trans d2
   have k3:=((zk HB).cell (p:=⟨g,j*4+3,none⟩) hg2).trans d3
   clear d0 d1 d2 d3
   have h4:(j:Int)<ts.length:=om
   have h5:(0:Int)≤j:=om
   by_cases hk:t.kind=5
   ·have HK:=zm hk
    have n5:(t.kind != 5)=false:=by simp [hk]
    clear hk
    by_cases q40:t.text=[40]
    ·have b40:(t.text==[40])=true:=by simp [q40]
     have HOA:Hid (bQ v t=v+1):=uZ (zk HK) (by simp [opens,q40])
     clear q40
     by_cases hdp:(40:Int)<(v+1)
     ·have HX:Hid (eG 0 ts=some t.pos):=by
       show _=_
       rw [←zk HD,zk HDR,jv (zk HOA) (zk HK) hdp]
      go_wp2
      go_ret2
      refine ⟨?_,((zk HB).alloc (zk HB).size _)⟩
      rw [zk HX];rfl
     ·have HNO:Hid (¬(t.kind=5∧40<((v+1):Int))):=fun e=>absurd e.2 om
      go_wp2
      go_roundw
      case rel=>exact ⟨j+1,(v+1),om,by go_num,rfl,om,om,((zk HB).alloc (zk HB).size _),by rw [←zk HD,zk HDR,iH (zk HOA) (zk HNO)]⟩
      case measure=>simp [intOf];omega
    ·by_cases q91:t.text=[91]
     ·have b40:(t.text==[40])=false:=by simp [q91]
      have b91:(t.text==[91])=true:=by simp [q91]
      have HOA:Hid (bQ v t=v+1):=uZ (zk HK) (by simp [opens,q91])
      clear q91 q40
      by_cases hdp:(40:Int)<(v+1)
      ·have HX:Hid (eG 0 ts=some t.pos):=by
        show _=_
        rw [←zk HD,zk HDR,jv (zk HOA) (zk HK) hdp]
       go_wp2
       go_ret2
       refine ⟨?_,((zk HB).alloc (zk HB).size _)⟩
       rw [zk HX];rfl
      ·have HNO:Hid (¬(t.kind=5∧40<((v+1):Int))):=fun e=>absurd e.2 om
       go_wp2
       go_roundw
       case rel=>exact ⟨j+1,(v+1),om,by go_num,rfl,om,om,((zk HB).alloc (zk HB).size _),by rw [←zk HD,zk HDR,iH (zk HOA) (zk HNO)]⟩
       case measure=>simp [intOf];omega
     ·by_cases q123:t.text=[123]
      ·have b40:(t.text==[40])=false:=by simp [q123]
       have b91:(t.text==[91])=false:=by simp [q123]
       have b123:(t.text==[123])=true:=by simp [q123]
       have HOA:Hid (bQ v t=v+1):=uZ (zk HK) (by simp [opens,q123])
       clear q123 q40 q91
       by_cases hdp:(40:Int)<(v+1)
       ·have HX:Hid (eG 0 ts=some t.pos):=by
         show _=_
         rw [←zk HD,zk HDR,jv (zk HOA) (zk HK) hdp]
        go_wp2
        go_ret2
        refine ⟨?_,((zk HB).alloc (zk HB).size _)⟩
        rw [zk HX];rfl
       ·have HNO:Hid (¬(t.kind=5∧40<((v+1):Int))):=fun e=>absurd e.2 om
        go_wp2
        go_roundw
        case rel=>exact ⟨j+1,(v+1),om,by go_num,rfl,om,om,((zk HB).alloc (zk HB).size _),by rw [←zk HD,zk HDR,iH (zk HOA) (zk HNO)]⟩
        case measure=>simp [intOf];omega
      ·by_cases q41:t.text=[41]
       ·have b40:(t.text==[40])=false:=by simp [q41]
        have b91:(t.text==[91])=false:=by simp [q41]
        have b123:(t.text==[123])=false:=by simp [q41]
        have b41:(t.text==[41])=true:=by simp [q41]
        have HOC:Hid (bQ v t=max (v-1) 0):=qL (zk HK) (by simp [closes,q41]) (by simp [opens,q41])
        clear q41 q40 q91 q123
        by_cases hvz:v=0
        ·have HOA:Hid (bQ v t=0):=by
          show _=_
          rw [zk HOC];omega
         have hv1:v-1<0:=om
         clear hvz
         have HNO:Hid (¬(t.kind=5∧40<(0:Int))):=fun e=>absurd e.2 om
         go_wp2
         go_roundw
         case rel=>exact ⟨j+1,0,om,by go_num,rfl,om,om,((zk HB).alloc (zk HB).size _),by rw [←zk HD,zk HDR,iH (zk HOA) (zk HNO)]⟩
         case measure=>simp [intOf];omega
        ·have HOA:Hid (bQ v t=v-1):=by
          show _=_
          rw [zk HOC];omega
         have hv1:¬v-1<0:=om
         have hv2:1≤v:=om
         clear hvz
         by_cases hdp:(40:Int)<(v-1)
         ·have HX:Hid (eG 0 ts=some t.pos):=by
           show _=_
           rw [←zk HD,zk HDR,jv (zk HOA) (zk HK) hdp]
          go_wp2
          go_ret2
          refine ⟨?_,((zk HB).alloc (zk HB).size _)⟩
          rw [zk HX];rfl
         ·have HNO:Hid (¬(t.kind=5∧40<((v-1):Int))):=fun e=>absurd e.2 om
          go_wp2
          go_roundw
          case rel=>exact ⟨j+1,(v-1),om,by go_num,rfl,om,om,((zk HB).alloc (zk HB).size _),by rw [←zk HD,zk HDR,iH (zk HOA) (zk HNO)]⟩
          case measure=>simp [intOf];omega
       ·by_cases q93:t.text=[93]
        ·have b40:(t.text==[40])=false:=by simp [q93]
         have b91:(t.text==[91])=false:=by simp [q93]
         have b123:(t.text==[123])=false:=by simp [q93]
         have b41:(t.text==[41])=false:=by simp [q93]
         have b93:(t.text==[93])=true:=by simp [q93]
         have HOC:Hid (bQ v t=max (v-1) 0):=qL (zk HK) (by simp [closes,q93]) (by simp [opens,q93])
         clear q93 q40 q91 q123 q41
         by_cases hvz:v=0
         ·have HOA:Hid (bQ v t=0):=by
           show _=_
           rw [zk HOC];omega
          have hv1:v-1<0:=om
          clear hvz
          have HNO:Hid (¬(t.kind=5∧40<(0:Int))):=fun e=>absurd e.2 om
          go_wp2
          go_roundw
          case rel=>exact ⟨j+1,0,om,by go_num,rfl,om,om,((zk HB).alloc (zk HB).size _),by rw [←zk HD,zk HDR,iH (zk HOA) (zk HNO)]⟩
          case measure=>simp [intOf];omega
         ·have HOA:Hid (bQ v t=v-1):=by
           show _=_
           rw [zk HOC];omega
          have hv1:¬v-1<0:=om
          have hv2:1≤v:=om
          clear hvz
          by_cases hdp:(40:Int)<(v-1)
          ·have HX:Hid (eG 0 ts=some t.pos):=by
            show _=_
            rw [←zk HD,zk HDR,jv (zk HOA) (zk HK) hdp]
           go_wp2
           go_ret2
           refine ⟨?_,((zk HB).alloc (zk HB).size _)⟩
           rw [zk HX];rfl
          ·have HNO:Hid (¬(t.kind=5∧40<((v-1):Int))):=fun e=>absurd e.2 om
           go_wp2
           go_roundw
           case rel=>exact ⟨j+1,(v-1),om,by go_num,rfl,om,om,((zk HB).alloc (zk HB).size _),by rw [←zk HD,zk HDR,iH (zk HOA) (zk HNO)]⟩
           case measure=>simp [intOf];omega
        ·by_cases q125:t.text=[125]
         ·have b40:(t.text==[40])=false:=by simp [q125]
          have b91:(t.text==[91])=false:=by simp [q125]
          have b123:(t.text==[123])=false:=by simp [q125]
          have b41:(t.text==[41])=false:=by simp [q125]
          have b93:(t.text==[93])=false:=by simp [q125]
          have b125:(t.text==[125])=true:=by simp [q125]
          have HOC:Hid (bQ v t=max (v-1) 0):=qL (zk HK) (by simp [closes,q125]) (by simp [opens,q125])
          clear q125 q40 q91 q123 q41 q93
          by_cases hvz:v=0
          ·have HOA:Hid (bQ v t=0):=by
            show _=_
            rw [zk HOC];omega
           have hv1:v-1<0:=om
           clear hvz
           have HNO:Hid (¬(t.kind=5∧40<(0:Int))):=fun e=>absurd e.2 om
           go_wp2
           go_roundw
           case rel=>exact ⟨j+1,0,om,by go_num,rfl,om,om,((zk HB).alloc (zk HB).size _),by rw [←zk HD,zk HDR,iH (zk HOA) (zk HNO)]⟩
           case measure=>simp [intOf];omega
          ·have HOA:Hid (bQ v t=v-1):=by
            show _=_
            rw [zk HOC];omega
           have hv1:¬v-1<0:=om
           have hv2:1≤v:=om
           clear hvz
           by_cases hdp:(40:Int)<(v-1)
           ·have HX:Hid (eG 0 ts=some t.pos):=by
             show _=_
             rw [←zk HD,zk HDR,jv (zk HOA) (zk HK) hdp]
            go_wp2
            go_ret2
            refine ⟨?_,((zk HB).alloc (zk HB).size _)⟩
            rw [zk HX];rfl
           ·have HNO:Hid (¬(t.kind=5∧40<((v-1):Int))):=fun e=>absurd e.2 om
            go_wp2
            go_roundw
            case rel=>exact ⟨j+1,(v-1),om,by go_num,rfl,om,om,((zk HB).alloc (zk HB).size _),by rw [←zk HD,zk HDR,iH (zk HOA) (zk HNO)]⟩
            case measure=>simp [intOf];omega
         ·have b40:(t.text==[40])=false:=by simp [q40]
          have b91:(t.text==[91])=false:=by simp [q91]
          have b123:(t.text==[123])=false:=by simp [q123]
          have b41:(t.text==[41])=false:=by simp [q41]
          have b93:(t.text==[93])=false:=by simp [q93]
          have b125:(t.text==[125])=false:=by simp [q125]
          have HOA:Hid (bQ v t=v):=oa_else (zk HK) (by simp [closes,q41,q93,q125]) (by simp [opens,q40,q91,q123])
          clear q40 q91 q123 q41 q93 q125
          by_cases hdp:(40:Int)<v
          ·have HX:Hid (eG 0 ts=some t.pos):=by
            show _=_
            rw [←zk HD,zk HDR,jv (zk HOA) (zk HK) hdp]
           go_wp2
           go_ret2
           refine ⟨?_,((zk HB).alloc (zk HB).size _)⟩
           rw [zk HX];rfl
          ·have HNO:Hid (¬(t.kind=5∧40<(v:Int))):=fun e=>absurd e.2 om
           go_wp2
           go_roundw
           case rel=>exact ⟨j+1,v,om,by go_num,rfl,om,om,((zk HB).alloc (zk HB).size _),by rw [←zk HD,zk HDR,iH (zk HOA) (zk HNO)]⟩
           case measure=>simp [intOf];omega
   ·have n5:(t.kind != 5)=true:=by simp [hk]
    have HOA:Hid (bQ v t=v):=oa_no hk
    have HNO:Hid (¬(t.kind=5∧40<v)):=fun e=>hk e.1
    clear hk
    go_wp2
    go_roundw
    case rel=>exact ⟨j+1,v,om,by go_num,rfl,om,om,((zk HB).alloc (zk HB).size _),by rw [←zk HD,zk HDR,iH (zk HOA) (zk HNO)]⟩
    case measure=>simp [intOf];omega
  ·have HX:Hid (eG 0 ts=none):=by
    show _=_
    rw [←zk HD,List.drop_eq_nil_of_le om,eG]
   go_wp2
   go_ret2
   refine ⟨?_,zk HB⟩
   rw [zk HX];rfl
end Go.Proofs.YtgbjpnnockoomaaGreatDoor
