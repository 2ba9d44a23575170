import Derived.Test.YtgbjpnnockoomaaGreatDoorMark
import Derived.Lib.FrozenHead2
import Derived.Lib.OthersKept
import Derived.Shelf.Strings.BuilderF
import Derived.Test.YtgbjpnnockoomaaGreatDoorPr1
set_option linter.unusedVariables false
set_option linter.unusedSimpArgs false
set_option maxHeartbeats 2000000
set_option maxRecDepth 100000
namespace Go.Proofs.YtgbjpnnockoomaaGreatDoor.Pp
open Go.RowKit
def PAt (B b:Nat) (p:Value) (d:Int) (bs:List Value) (w:World):Prop:=
 B≤b∧∃ v,w.heap[b]?=some (.cells #[p,v,.int .i64 d] 50 (0,0))∧w.ownsRowF B 5 1 v bs.length bs∧v.ownBlock≠some b
def PB (B b:Nat) (d:Int) (bs:List Value) (w:World):Prop:=PAt B b (.pointer none) d bs w∨PAt B b (.pointer (some ⟨b,0,none⟩)) d bs w
theorem PAt.lt {B b:Nat} {p:Value} {d:Int} {bs:List Value} {w:World} (h:PAt B b p d bs w):b<w.heap.size:=by
 obtain ⟨_,v,hb,_⟩:=h
 rcases Nat.lt_or_ge b w.heap.size with h' | h'
 ·exact h'
 ·simp [Array.getElem?_eq_none h'] at hb
theorem PAt.cell0 {B b:Nat} {p:Value} {d:Int} {bs:List Value} {w:World} (h:PAt B b p d bs w):w.cell? ⟨b,0,none⟩=some p:=by
 obtain ⟨_,v,hb,_⟩:=h
 simp [World.cell?,hb]
theorem PAt.cell2 {B b:Nat} {p:Value} {d:Int} {bs:List Value} {w:World} (h:PAt B b p d bs w):w.cell? ⟨b,2,none⟩=some (.int .i64 d):=by
 obtain ⟨_,v,hb,_⟩:=h
 simp [World.cell?,hb]
theorem PAt.shape {B b:Nat} {p:Value} {d:Int} {bs:List Value} {w:World} (h:PAt B b p d bs w):w.shape? b=some (50,3):=by
 obtain ⟨_,v,hb,_⟩:=h
 simp [World.shape?,hb]
theorem PAt.frozen {B b:Nat} {p:Value} {d:Int} {bs:List Value} {w:World} (h:PAt B b p d bs w) (i:Nat):w.frozen? ⟨b,i,none⟩=false:=by
 obtain ⟨_,v,hb,_⟩:=h
 simp [World.frozen?,hb]
theorem PAt.used {B b:Nat} {p:Value} {d:Int} {bs:List Value} {w:World} (h:PAt B b p d bs w) (q:Value):PAt B b q d bs (w.setCell ⟨b,0,none⟩ q):=by
 obtain ⟨hB,v,hb,hown,hne⟩:=h
 refine ⟨hB,v, ?_, ?_,hne⟩
 ·simp [World.setCell,Array.getElem?_modify,hb]
 ·exact hown.kept (row:=some b) ⟨rfl,rfl,rfl,by simp [World.setCell],fun k _ hk=>Below.heap_setCell _ _ _ _ (fun e=>hk (by simp [e]))⟩ (Or.inr hne)
theorem PAt.deep {B b:Nat} {p:Value} {d:Int} {bs:List Value} {w:World} (h:PAt B b p d bs w) (d':Int):PAt B b p d' bs (w.setCell ⟨b,2,none⟩ (.int .i64 d')):=by
 obtain ⟨hB,v,hb,hown,hne⟩:=h
 refine ⟨hB,v, ?_, ?_,hne⟩
 ·simp [World.setCell,Array.getElem?_modify,hb]
 ·exact hown.kept (row:=some b) ⟨rfl,rfl,rfl,by simp [World.setCell],fun k _ hk=>Below.heap_setCell _ _ _ _ (fun e=>hk (by simp [e]))⟩ (Or.inr hne)
theorem PAt.put {B b:Nat} {p v v':Value} {d:Int} {bs':List Value} {w:World} (hB:B≤b) (hb:w.heap[b]?=some (.cells #[p,v,.int .i64 d] 50 (0,0))) (hown:w.ownsRowF B 5 1 v' bs'.length bs'):PAt B b p d bs' (w.setCell ⟨b,1,none⟩ v'):=by
 have hne:=Lib.ownBlock_neF hown hb dc
 refine ⟨hB,v', ?_, ?_,hne⟩
 ·simp [World.setCell,Array.getElem?_modify,hb]
 ·exact hown.kept (row:=some b) ⟨rfl,rfl,rfl,by simp [World.setCell],fun k _ hk=>Below.heap_setCell _ _ _ _ (fun e=>hk (by simp [e]))⟩ (Or.inr hne)
theorem PAt.alloc {B b:Nat} {p:Value} {d:Int} {bs:List Value} {w:World} (h:PAt B b p d bs w) (o:Obj):PAt B b p d bs (w.alloc o):=by
 have hlt:=h.lt
 obtain ⟨hB,v,hb,hown,hne⟩:=h
 exact ⟨hB,v,(Lib.alloc_old w o b hlt).trans hb,hown.kept (World.grownBy_alloc w o none) (by cases hv:v.ownBlock <;> simp),hne⟩
theorem PAt.grown {B b:Nat} {p:Value} {d:Int} {bs:List Value} {w w':World} (h:PAt B b p d bs w) (hg:w.grownBy w' none):PAt B b p d bs w':=by
 have hlt:=h.lt
 obtain ⟨hB,v,hb,hown,hne⟩:=h
 exact ⟨hB,v,(hg.block b hlt zK).trans hb,hown.kept hg (by cases hv:v.ownBlock <;> simp),hne⟩
theorem PB.alloc {B b:Nat} {d:Int} {bs:List Value} {w:World} (h:PB B b d bs w) (o:Obj):PB B b d bs (w.alloc o):=h.elim (fun x=>.inl (x.alloc o)) (fun x=>.inr (x.alloc o))
theorem PB.grown {B b:Nat} {d:Int} {bs:List Value} {w w':World} (h:PB B b d bs w) (hg:w.grownBy w' none):PB B b d bs w':=h.elim (fun x=>.inl (x.grown hg)) (fun x=>.inr (x.grown hg))
theorem PB.lt {B b:Nat} {d:Int} {bs:List Value} {w:World} (h:PB B b d bs w):b<w.heap.size:=h.elim (fun x=>x.lt) (fun x=>x.lt)
theorem PB.ge {B b:Nat} {d:Int} {bs:List Value} {w:World} (h:PB B b d bs w):B≤b:=h.elim (fun x=>x.1) (fun x=>x.1)
theorem PB.cell2 {B b:Nat} {d:Int} {bs:List Value} {w:World} (h:PB B b d bs w):w.cell? ⟨b,2,none⟩=some (.int .i64 d):=h.elim (fun x=>x.cell2) (fun x=>x.cell2)
theorem PB.frozen {B b:Nat} {d:Int} {bs:List Value} {w:World} (h:PB B b d bs w) (i:Nat):w.frozen? ⟨b,i,none⟩=false:=h.elim (fun x=>x.frozen i) (fun x=>x.frozen i)
theorem PB.deep {B b:Nat} {d:Int} {bs:List Value} {w:World} (h:PB B b d bs w) (d':Int):PB B b d' bs (w.setCell ⟨b,2,none⟩ (.int .i64 d')):=h.elim (fun x=>.inl (x.deep d')) (fun x=>.inr (x.deep d'))
theorem pb_sizeB:(Tryz.prog.info? 48).map (·.size)=some 2:=by kernel_rfl
theorem pb_liesB:liesAt Tryz.prog Tryz.prog.depth 50 (3/Tryz.prog.cellsOf 50) 0 48 1=true:=by kernel_rfl
theorem pb_infoB:(Tryz.prog.info? 5).map (fun i=>(i.zero,i.size,i.bytes))=some (some (.int .u8 0),1,1):=by kernel_rfl
theorem pb_parts {i:Option TypeInfo} {z:Option Value} {s b:Nat} (h:i.map (fun i=>(i.zero,i.size,i.bytes))=some (z,s,b)):∃ j,i=some j∧j.zero=z∧j.size=s∧j.bytes=b:=by
 obtain ⟨j,h1,h2⟩:=Option.map_eq_some_iff.1 h
 simp only [Prod.mk.injEq] at h2
 exact ⟨j,h1,h2.1,h2.2.1,h2.2.2⟩
theorem qy (b:Nat) (w:World) (h0:w.cell? ⟨b,0,none⟩=some (.pointer (some ⟨b,0,none⟩))) :
 Calls Tryz.prog 39 #[.pointer (some ⟨b,0,none⟩)] w fun e w'=>e=.returned (.tuple #[])∧w'=w:=by
 obtain ⟨j,hj,_⟩:=Option.map_eq_some_iff.1 pb_sizeB
 go_enter Tryz.func39,Tryz.ntmps39
 go_wp2
 rw [Lib.run_neq_ptr_same w _ Tryz.underlying45 hj]
 go_wp2
 go_end0
 exact ⟨rfl,rfl⟩
theorem o9 (b:Nat) (w:World) (h0:w.cell? ⟨b,0,none⟩=some (.pointer none)) (hsh:w.shape? b=some (50,3)) (hfz:w.frozen? ⟨b,0,none⟩=false) :
 Calls Tryz.prog 39 #[.pointer (some ⟨b,0,none⟩)] w fun e w'=>e=.returned (.tuple #[])∧w'=w.setCell ⟨b,0,none⟩ (.pointer (some ⟨b,0,none⟩)):=by
 obtain ⟨j,hj,hjs⟩:=Option.map_eq_some_iff.1 pb_sizeB
 go_enter Tryz.func39,Tryz.ntmps39
 go_wp2
 rw [Lib.run_to_unsafe w ⟨b,0,none⟩ Tryz.underlying45 Tryz.underlying67 hj (by rw [hjs];decide) hsh (Nat.zero_lt_succ 2)]
 simp only [Result.andThen]
 rw [Oper.upon_value]
 go_wp2
 rw [run_callFunc_extern Tryz.func65 zG zG zG (e:=Extern.AbiNoEscape.same) zG]
 rw [Lib.run_noEscape]
 simp only [Result.andThen]
 rw [Oper.upon_value]
 go_wp2
 rw [Lib.run_from_unsafe w ⟨b,0,none⟩ Tryz.underlying67 Tryz.underlying45 hj hsh pb_liesB]
 simp only [Result.andThen]
 rw [Oper.upon_value]
 go_wp2
 go_end0
 exact ⟨rfl,rfl⟩
theorem oQ (B b:Nat) (d:Int) (bs:List Value) (w:World) (h:PB B b d bs w) :
 Calls Tryz.prog 39 #[.pointer (some ⟨b,0,none⟩)] w fun e w'=>e=.returned (.tuple #[])∧(PAt B b (.pointer (some ⟨b,0,none⟩)) d bs w'∧Below B w w'∧Lib.OthersKept 5 (some b) w w'):=by
 rcases h with h | h
 ·refine (o9 b w h.cell0 h.shape (h.frozen 0)).mono ?_
  rintro e w' ⟨rfl,rfl⟩
  exact ⟨rfl,h.used _,(Below.refl B w).setCell (p:=⟨b,0,none⟩) h.1 _,(Lib.OthersKept.refl _ _ w).setCell ⟨b,0,none⟩ rfl _⟩
 ·refine (qy b w h.cell0).mono ?_
  rintro e w' ⟨rfl,rfl⟩
  exact ⟨rfl,h,Below.refl B _,Lib.OthersKept.refl _ _ _⟩
theorem writeS_k (B b:Nat) (d:Int) (bs:List Value) (s:ByteArray) (w:World) (h:PB B b d bs w) (hlen:bs.length+s.size≤140737488355328) (hBw:B≤w.heap.size) :
 Calls Tryz.prog 34 #[.pointer (some ⟨b,0,none⟩),.string s] w fun e w'=>(∃ v,e=.returned v)∧(PAt B b (.pointer (some ⟨b,0,none⟩)) d (bs++Lib.strCells s) w'∧Below B w w'∧Lib.OthersKept 5 (some b) w w'):=by
 obtain ⟨i0,hi,hz0,hz1,hz2⟩:=pb_parts pb_infoB
 go_enter Tryz.func34,Tryz.ntmps34
 go_wp2_with (go_at_call 39;refine (oQ B b d bs _ h).mono ?_)
 rintro e w1 ⟨rfl,h1,hb1,hk1⟩
 obtain ⟨hB,v,hbk,hown,hne⟩:=h1
 have c0:w1.cell? ⟨b,0,none⟩=some (.pointer (some ⟨b,0,none⟩)):=by rw [Lib.cell_of_heap hbk];rfl
 have c1:w1.cell? ⟨b,1,none⟩=some v:=by rw [Lib.cell_of_heap hbk];rfl
 go_wp2_with (at_builtin;refine Lib.wpList_append_own_stringF _ rfl _ _ 46 9 rfl B 5 i0 Tryz.underlying46 Tryz.underlying9 hi hz0 hz1 hz2 _ _ _ rfl hown s rfl ?c3 ?c4 ?c5 ?_)
 case c3=>unfold maxLen;omega
 case c4=>omega
 case c5=>have:=hb1.size;omega
 intro v' w2 hown' hgrow _
 have hlt:b<w1.heap.size:=by
  rcases Nat.lt_or_ge b w1.heap.size with h' | h'
  ·exact h'
  ·simp [Array.getElem?_eq_none h'] at hbk
 have hb2:w2.heap[b]?=some (.cells #[.pointer (some ⟨b,0,none⟩),v,.int .i64 d] 50 (0,0)):=by
  rw [hgrow.block b hlt (fun e=>hne e.symm)]
  exact hbk
 have d0:w2.cell? ⟨b,0,none⟩=some (.pointer (some ⟨b,0,none⟩)):=by rw [Lib.cell_of_heap hb2];rfl
 have d1:w2.cell? ⟨b,1,none⟩=some v:=by rw [Lib.cell_of_heap hb2];rfl
 have f1:w2.frozen? ⟨b,1,none⟩=false:=Lib.frozen_of_heap hb2 1
 obtain ⟨ao,n',cap,rfl⟩:∃ ao n' cap,v'=.slice ao n' cap:=by
  rcases hown'.2 with ⟨hv,_⟩ | ⟨g,cap,cur,fz,hv,_⟩
  ·exact ⟨_,_,_,hv⟩
  ·exact ⟨_,_,_,hv⟩
 go_wp2
 go_ret2
 refine ⟨⟨_,rfl⟩, ?_, ?_,(hk1.grown hgrow (Lib.ownsRowF_kind hown)).setCell ⟨b,1,none⟩ rfl _⟩
 ·exact PAt.put hB hb2 (bs':=bs++Lib.strCells s) (by simpa [Lib.strCells_length] using hown')
 ·exact (hb1.grown hgrow (by have:=hb1.size;omega) (fun k hk=>(hown.lt k hk).1)).setCell (p:=⟨b,1,none⟩) hB _
theorem writeB_k (B b:Nat) (d:Int) (bs:List Value) (c:Int) (w:World) (h:PB B b d bs w) (hlen:bs.length+1≤140737488355328) (hBw:B≤w.heap.size) :
 Calls Tryz.prog 24 #[.pointer (some ⟨b,0,none⟩),.int .u8 c] w fun e w'=>(∃ v,e=.returned v)∧(PAt B b (.pointer (some ⟨b,0,none⟩)) d (bs++[.int .u8 c]) w'∧Below B w w'∧Lib.OthersKept 5 (some b) w w'):=by
 obtain ⟨i0,hi,hz0,hz1,hz2⟩:=pb_parts pb_infoB
 go_enter Tryz.func24,Tryz.ntmps24
 go_wp2_with (go_at_call 39;refine (oQ B b d bs _ h).mono ?_)
 rintro e w1 ⟨rfl,h1,hb1,hk1⟩
 obtain ⟨hB,v,hbk,hown,hne⟩:=h1
 have c0:w1.cell? ⟨b,0,none⟩=some (.pointer (some ⟨b,0,none⟩)):=by rw [Lib.cell_of_heap hbk];rfl
 have c1:w1.cell? ⟨b,1,none⟩=some v:=by rw [Lib.cell_of_heap hbk];rfl
 go_wp2_with (at_builtin;refine wpList_append_ownF _ rfl _ _ 46 rfl B 5 i0 (.int .u8 0) 1 1 Tryz.underlying46 hi hz0 hz1 hz2 rfl dc _ _ _ rfl (hown.alloc _) ⟨w1.heap.size,0,none⟩ 1 1 [.int .u8 c] rfl rfl ?c1 ?c2 ?c3 ?c4 ?c5 ?_)
 case c1=>
  intro j u hj
  match j,hj with
  | 0,hj=>simp at hj;subst hj;simp [Addr.add]
 case c2=>intro u hu;simp at hu;subst hu;rfl
 case c3=>unfold maxLen;omega
 case c4=>omega
 case c5=>have:=hb1.size;simp;omega
 intro v' w2 hown' hgrow _
 have hlt:b<w1.heap.size:=by
  rcases Nat.lt_or_ge b w1.heap.size with h' | h'
  ·exact h'
  ·simp [Array.getElem?_eq_none h'] at hbk
 have hb2:w2.heap[b]?=some (.cells #[.pointer (some ⟨b,0,none⟩),v,.int .i64 d] 50 (0,0)):=by
  rw [hgrow.block b sp (fun e=>hne e.symm),Lib.alloc_old w1 _ b hlt]
  exact hbk
 have d0:w2.cell? ⟨b,0,none⟩=some (.pointer (some ⟨b,0,none⟩)):=by rw [Lib.cell_of_heap hb2];rfl
 have d1:w2.cell? ⟨b,1,none⟩=some v:=by rw [Lib.cell_of_heap hb2];rfl
 have f1:w2.frozen? ⟨b,1,none⟩=false:=Lib.frozen_of_heap hb2 1
 obtain ⟨g,cap,rfl⟩:∃ g cap,v'=.slice (some ⟨g,0,none⟩) (bs.length+1) cap:=by
  rcases hown'.2 with ⟨_,h0⟩ | ⟨g,cap,cur,fz,hv,_⟩
  ·omega
  ·exact ⟨g,cap,hv⟩
 go_wp2
 go_ret
 refine ⟨⟨_,rfl⟩, ?_, ?_,((hk1.alloc _).grown hgrow (Lib.ownsRowF_kind (hown.alloc _))).setCell ⟨b,1,none⟩ rfl _⟩
 ·exact PAt.put hB hb2 (bs':=bs++[.int .u8 c]) (by simpa using hown')
 ·exact ((hb1.alloc (by have:=hb1.size;omega) _).grown hgrow (by have:=hb1.size;simp;omega) (fun k hk=>(hown.lt k hk).1)).setCell (p:=⟨b,1,none⟩) hB _
open Go.RowKit
theorem nK:Tryz.prog.follows .mixedOrders=true:=by kernel_rfl
theorem vG:Tryz.prog.cellsOf 5=1:=by kernel_rfl
theorem pb_us0 (q:Value) (w:World):(Builtin.unsafeString_ #[81,3] 9 #[.pointer none,.int .i64 0]).run Tryz.prog w=.ok (.string ⟨#[]⟩) w:=by kernel_rfl
theorem pb_us1 (a:Addr) (w:World):(Builtin.unsafeString_ #[81,3] 9 #[.pointer (some a),.int .i64 0]).run Tryz.prog w=.ok (.string ⟨#[]⟩) w:=by kernel_rfl
theorem string_some (B b:Nat) (d:Int) (l:List UInt8) (w:World) (h:PB B b d (Lib.byteCells l) w) (h0:l≠[]) :
 Calls Tryz.prog 13 #[.pointer (some ⟨b,0,none⟩)] w fun e w'=>e=.returned (.string ⟨l.toArray⟩)∧Below B w w':=by
 obtain ⟨p,hAt⟩:∃ p,PAt B b p d (Lib.byteCells l) w:=by
  rcases h with h | h
  ·exact ⟨_,h⟩
  ·exact ⟨_,h⟩
 obtain ⟨hB,v,hbk,hown,hne⟩:=hAt
 have hl0:l.length≠0:=by simpa using h0
 rw [Lib.byteCells_length] at hown
 obtain ⟨g,cap,cur,fz,rfl,hbg,hg,hfz,hnc,hcm,hcs,htake⟩:∃ g cap cur fz,v=.slice (some ⟨g,0,none⟩) l.length cap∧B≤g∧w.heap[g]?=some (.cells cur 5 fz)∧fz.2≤l.length*1∧l.length≤cap∧cap≤maxLen∧cur.size=cap*1∧cur.toList.take (l.length*1)=Lib.byteCells l:=by
  rcases hown.2 with ⟨_,hz⟩ | ⟨g,cap,cur,fz,hv,r⟩
  ·exact absurd hz hl0
  ·exact ⟨g,cap,cur,fz,hv,r⟩
 have c1:w.drew.cell? ⟨b,1,none⟩=some (.slice (some ⟨g,0,none⟩) l.length cap):=by
  have:w.drew.heap[b]?=some (.cells #[p,.slice (some ⟨g,0,none⟩) l.length cap,.int .i64 d] 50 (0,0)):=hbk
  rw [Lib.cell_of_heap this];rfl
 have hSD:(Builtin.unsafeSliceData_ #[46] 81 #[.slice (some ⟨g,0,none⟩) l.length cap]).run Tryz.prog w.drew=.ok (.pointer (some ⟨g,0,none⟩)) w.drew:=
  Lib.run_unsafeSliceData_row _ _ _ _ _ _ om
 have hUS:(Builtin.unsafeString_ #[81,3] 9 #[.pointer (some ⟨g,0,none⟩),.int .i64 l.length]).run Tryz.prog w.drew=.ok (.string ⟨l.toArray⟩) (w.drew.freeze ⟨g,0,none⟩ l.length):=by
  refine Lib.run_unsafeString_row w.drew 81 3 9 5 Tryz.underlying81 vG g cur.size (by have hg':w.drew.heap[g]?=some (.cells cur 5 fz):=hg;simp [World.shape?,hg']) l h0 om (by unfold maxLen at hcm;omega) ?_
  intro j x hx
  have:=hown.cells (g:=g) rfl j (.int .u8 x.toNat) (by simp [Lib.byteCells,hx])
  exact this
 have mixed:=nK
 go_enter Tryz.func13,Tryz.ntmps13
 go_wp2
 go_region_o
 all_goals (go_wp2;go_ret;exact ⟨rfl,Lib.below_freeze (Below.drew (Below.refl B w)) (p:=⟨g,0,none⟩) hbg _⟩)
theorem string_none (B b:Nat) (d:Int) (w:World) (h:PB B b d [] w) (hBw:B≤w.heap.size) :
 Calls Tryz.prog 13 #[.pointer (some ⟨b,0,none⟩)] w fun e w'=>e=.returned (.string ⟨#[]⟩)∧Below B w w':=by
 obtain ⟨p,hAt⟩:∃ p,PAt B b p d [] w:=by
  rcases h with h | h
  ·exact ⟨_,h⟩
  ·exact ⟨_,h⟩
 have hlt:=hAt.lt
 obtain ⟨hB,v,hbk,hown,hne⟩:=hAt
 have hU0:=pb_us0 .nilIface
 have hU1:=pb_us1
 rcases hown.2 with ⟨rfl,_⟩ | ⟨g,cap,cur,fz,rfl,hbg,hg,_,_,_,_,_⟩
 ·have c1:w.drew.cell? ⟨b,1,none⟩=some (.slice none 0 0):=by
   have:w.drew.heap[b]?=some (.cells #[p,.slice none 0 0,.int .i64 d] 50 (0,0)):=hbk
   rw [Lib.cell_of_heap this];rfl
  have hSD:(Builtin.unsafeSliceData_ #[46] 81 #[.slice none 0 0]).run Tryz.prog w.drew=.ok (.pointer none) w.drew:=rfl
  have mixed:=nK
  go_enter Tryz.func13,Tryz.ntmps13
  go_wp2
  go_region_o
  all_goals (go_wp2;go_ret;exact ⟨rfl,Below.drew (Below.refl B w)⟩)
 ·by_cases hc0:cap=0
  ·subst hc0
   have c1:w.drew.cell? ⟨b,1,none⟩=some (.slice (some ⟨g,0,none⟩) 0 0):=by
    have:w.drew.heap[b]?=some (.cells #[p,.slice (some ⟨g,0,none⟩) 0 0,.int .i64 d] 50 (0,0)):=hbk
    rw [Lib.cell_of_heap this];rfl
   have hSD:(Builtin.unsafeSliceData_ #[46] 81 #[.slice (some ⟨g,0,none⟩) 0 0]).run Tryz.prog w.drew=.ok (.pointer (some ⟨w.drew.heap.size,0,none⟩)) (w.drew.alloc (.view ⟨g,0,none⟩ 5)):=
    Lib.run_unsafeSliceData_zero w.drew _ _ 5 Tryz.underlying81 ⟨g,0,none⟩ 0 (5,cur.size) (by have hg':w.drew.heap[g]?=some (.cells cur 5 fz):=hg;simp [World.shape?,hg'])
   have c2:(w.drew.alloc (.view ⟨g,0,none⟩ 5)).cell? ⟨b,1,none⟩=some (.slice (some ⟨g,0,none⟩) 0 0):=by
    have:(w.drew.alloc (.view ⟨g,0,none⟩ 5)).heap[b]?=_:=(Lib.alloc_old w.drew _ b hlt).trans hbk
    rw [Lib.cell_of_heap this];rfl
   have c3:(w.alloc (.view ⟨g,0,none⟩ 5)).drew.cell? ⟨b,1,none⟩=some (.slice (some ⟨g,0,none⟩) 0 0):=c2
   have c0:w.cell? ⟨b,1,none⟩=some (.slice (some ⟨g,0,none⟩) 0 0):=c1
   have mixed:=nK
   go_enter Tryz.func13,Tryz.ntmps13
   go_wp2
   go_region_o
   all_goals (go_wp2;go_ret;exact ⟨rfl,(Below.drew (Below.refl B w)).alloc hBw _⟩)
  ·have c1:w.drew.cell? ⟨b,1,none⟩=some (.slice (some ⟨g,0,none⟩) 0 cap):=by
    have:w.drew.heap[b]?=some (.cells #[p,.slice (some ⟨g,0,none⟩) 0 cap,.int .i64 d] 50 (0,0)):=hbk
    rw [Lib.cell_of_heap this];rfl
   have hSD:(Builtin.unsafeSliceData_ #[46] 81 #[.slice (some ⟨g,0,none⟩) 0 cap]).run Tryz.prog w.drew=.ok (.pointer (some ⟨g,0,none⟩)) w.drew:=
    Lib.run_unsafeSliceData_row _ _ _ _ _ _ hc0
   clear hc0
   have mixed:=nK
   go_enter Tryz.func13,Tryz.ntmps13
   go_wp2
   go_region_o
   all_goals (go_wp2;go_ret;exact ⟨rfl,Below.drew (Below.refl B w)⟩)
theorem string_any (B b:Nat) (d:Int) (l:List UInt8) (w:World) (h:PB B b d (Lib.byteCells l) w) (hBw:B≤w.heap.size) :
 Calls Tryz.prog 13 #[.pointer (some ⟨b,0,none⟩)] w fun e w'=>e=.returned (.string ⟨l.toArray⟩)∧Below B w w':=by
 cases l with
 | nil=>exact string_none B b d w h hBw
 | cons x r=>exact string_some B b d (x::r) w h zK
open Go.RowKit Lx Px
def Wr (N b:Nat) (l x:List UInt8) (d:Int) (w w':World):Prop:=PB N b d (Lib.byteCells (l++x)) w'∧Below N w w'∧Lib.OthersKept 5 (some b) w w'
theorem Wr.trans {N b:Nat} {l x y:List UInt8} {d:Int} {w w1 w2:World} (h:Wr N b l x d w w1) (k:Wr N b (l++x) y d w1 w2):Wr N b l (x++y) d w w2:=
 ⟨by rw [←List.append_assoc];exact k.1,h.2.1.trans k.2.1,h.2.2.trans k.2.2⟩
theorem Wr.nil {N b:Nat} {l:List UInt8} {d:Int} {w w':World} (h:PB N b d (Lib.byteCells l) w') (k:Below N w w') (o:Lib.OthersKept 5 (some b) w w'):Wr N b l [] d w w':=⟨by rw [List.append_nil];exact h,k,o⟩
theorem Wr.pre {N b:Nat} {l x:List UInt8} {d:Int} {w w0 w1:World} (h:Wr N b l x d w0 w1) (k:Below N w w0) (o:Lib.OthersKept 5 (some b) w w0):Wr N b l x d w w1:=⟨h.1,k.trans h.2.1,o.trans h.2.2⟩
theorem kept_quiet {b:Option Nat} {w w':World} (h:w.grownBy w' none):Lib.OthersKept 5 b w w':=(Lib.OthersKept.refl 5 b w).grown h (fun g e=>by cases e)
theorem Wr.quiet {N b:Nat} {l x:List UInt8} {d:Int} {w w1 w2:World} (h:Wr N b l x d w w1) (k:w1.grownBy w2 none) (hN:N≤w.heap.size):Wr N b l x d w w2:=
 ⟨h.1.grown k,h.2.1.grown k (by have:=h.2.1.size;omega) (fun x e=>by cases e),h.2.2.trans (kept_quiet k)⟩
theorem Wr.size {N b:Nat} {l x:List UInt8} {d:Int} {w w1:World} (h:Wr N b l x d w w1):w.heap.size≤w1.heap.size:=h.2.1.size
theorem Wr.blk {N b g t:Nat} {l x:List UInt8} {d:Int} {w w1:World} {cs:Array Value} (h:Wr N b l x d w w1) (hk:w.heap[g]?=some (.cells cs t)) (hb:g≠b) (ht:t≠5):w1.heap[g]?=some (.cells cs t):=
 h.2.2 g _ hk (by simpa using hb) (fun c fz e=>by simp at e;exact ht e.2.1)
theorem mk_toL3 (l:List UInt8):(ByteArray.mk l.toArray).toList=l:=ByteArray.toList_mk l
theorem ws (N b:Nat) (l:List UInt8) (s:List UInt8) (d:Int) (w:World) (h:PB N b d (Lib.byteCells l) w) (hl:l.length+s.length≤1099511627776) (hN:N≤w.heap.size) :
 Calls Tryz.prog 34 #[.pointer (some ⟨b,0,none⟩),.string ⟨s.toArray⟩] w fun e w'=>(∃ v,e=.returned v)∧Wr N b l s d w w':=by
 have hz:(⟨s.toArray⟩:ByteArray).size=s.length:=by rw [←yx,mk_toL3]
 refine (writeS_k N b d (Lib.byteCells l) ⟨s.toArray⟩ w h (by rw [Lib.byteCells_length,hz];omega) hN).mono ?_
 rintro e w' ⟨hv,h1,h2,h3⟩
 refine ⟨hv,.inr ?_,h2,h3⟩
 rw [Lib.byteCells_append]
 have:Lib.strCells ⟨s.toArray⟩=Lib.byteCells s:=by simp [Lib.strCells,Lib.byteCells]
 rw [←this]
 exact h1
theorem wb (N b:Nat) (l:List UInt8) (c:UInt8) (d:Int) (w:World) (h:PB N b d (Lib.byteCells l) w) (hl:l.length+1≤1099511627776) (hN:N≤w.heap.size) :
 Calls Tryz.prog 24 #[.pointer (some ⟨b,0,none⟩),.int .u8 (c.toNat:Int)] w fun e w'=>(∃ v,e=.returned v)∧Wr N b l [c] d w w':=by
 refine (writeB_k N b d (Lib.byteCells l) (c.toNat:Int) w h (by rw [Lib.byteCells_length];omega) hN).mono ?_
 rintro e w' ⟨hv,h1,h2,h3⟩
 refine ⟨hv,.inr ?_,h2,h3⟩
 rw [Lib.byteCells_append]
 exact h1
abbrev nA (kd:Int) (tx:List UInt8) (nm ps:Int) (ao:Option Addr) (n cp:Nat):Value:=.agg #[.int .i64 kd,.string ⟨tx.toArray⟩,.int .i64 nm,.int .i64 ps,.string ⟨#[]⟩,.int .i64 0,.slice ao n cp]
abbrev nO (kd:Int) (tx:List UInt8) (nm ps:Int) (ao:Option Addr) (n cp:Nat):Obj:=.cells #[.int .i64 kd,.string ⟨tx.toArray⟩,.int .i64 nm,.int .i64 ps,.string ⟨#[]⟩,.int .i64 0,.slice ao n cp] 25
theorem gV {X:World} {b t:Nat} {v0 v1 v2 v3 v4 v5 v6:Value} (h:X.heap[b]?=some (.cells #[v0,v1,v2,v3,v4,v5,v6] t)):X.cell? ⟨b,0,none⟩=some v0∧X.cell? ⟨b,1,none⟩=some v1∧X.cell? ⟨b,2,none⟩=some v2∧X.cell? ⟨b,3,none⟩=some v3∧X.cell? ⟨b,4,none⟩=some v4∧X.cell? ⟨b,5,none⟩=some v5∧X.cell? ⟨b,6,none⟩=some v6:=by
 refine ⟨?_, ?_, ?_, ?_, ?_, ?_, ?_⟩ <;> rw [World.cell?,h] <;> rfl
theorem kids_nil (w:World):Jj.aO w (.slice none 0 0) []:=⟨[],⟨rfl,.inl ⟨rfl,rfl⟩⟩,.nil _⟩
theorem grown_of {N:Nat} {W0 w:World} (hN:N=W0.heap.size) (h:Below N W0 w):W0.grownBy w none:=by subst hN;exact ⟨h.os,h.tape,h.output,h.size,fun k hk _=>h.block k hk⟩
def sN (W0:World) (t:Tree) (v:Value):Prop:=∃ kd tx nm ps ks ao cp,v=nA kd tx nm ps ao ks.length cp∧t=.mk kd tx nm ps ks∧Jj.aO W0 (.slice ao ks.length cp) ks
end Go.Proofs.YtgbjpnnockoomaaGreatDoor.Pp
