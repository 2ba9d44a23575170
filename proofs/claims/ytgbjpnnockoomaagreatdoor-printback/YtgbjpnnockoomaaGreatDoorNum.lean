import Derived.Test.YtgbjpnnockoomaaGreatDoorMark
import Derived.Deep.AppendLies
import Derived.Deep.RegionLaw
import Derived.Deep.RegionHeld3
import Derived.StillTailTactics
import Derived.Test.YtgbjpnnockoomaaGreatDoorParP
set_option maxHeartbeats 400000
set_option maxRecDepth 100000
set_option maxHeartbeats 800000
namespace Go.Proofs.YtgbjpnnockoomaaGreatDoor
open Go.RowKit Lx
def fP (t:Tok):List Value:=[.int .i64 t.kind,.string ⟨t.text.toArray⟩,.int .i64 t.num,.int .i64 t.pos]
def yi (ts:List Tok):List Value:=ts.flatMap fP
theorem iR (ts:List Tok):(yi ts).length=ts.length*4:=by
 induction ts with
 | nil=>rfl
 | cons t r ih=>
   have e:yi (t::r)=fP t++yi r:=rfl
   rw [e,List.length_append,ih]
   simp [fP]
   omega
theorem lV (ts:List Tok) (t:Tok):yi (ts++[t])=yi ts++fP t:=by
 simp [yi]
theorem ba_of (x:ByteArray):(⟨x.toList.toArray⟩:ByteArray)=x:=by
 rw [ByteArray.toList_eq]
theorem toks_push (ts:List Tok) (kd nm ps:Int) (x:ByteArray):yi (ts++[⟨kd,x.toList,nm,ps⟩])=yi ts++[.int .i64 kd,.string x,.int .i64 nm,.int .i64 ps]:=by
 rw [lV];simp [fP,ba_of]
structure St (w:World) (b:Nat) (s:ByteArray) (k:Nat) (sv:Value) (ts:List Tok):Prop where
 blk:w.heap[b]?=some (.cells #[.string s,.int .i64 k,sv] 54)
 own:w.ownsRow (b+1) 85 4 sv ts.length (yi ts)
theorem bG {w:World} {b:Nat} {o:Obj} (h:w.heap[b]?=some o):b<w.heap.size:=(Array.getElem?_eq_some_iff.1 h).1
theorem zv {w:World} {b:Nat} {cs:Array Value} {t:TypeId} (h:w.heap[b]?=some (.cells cs t)) (j:Nat):w.cell? ⟨b,j,none⟩=cs[j]?:=by
 simp [World.cell?,h]
theorem yT {w:World} {b:Nat} {cs:Array Value} {t:TypeId} (h:w.heap[b]?=some (.cells cs t)) (j:Nat):w.frozen? ⟨b,j,none⟩=false:=by
 simp [World.frozen?,h]
theorem Tryz.info35:(Tryz.prog.info? 85).map (fun i=>(i.zero,i.size,i.bytes))=some (some (.agg #[.int .i64 0,.string ⟨#[]⟩,.int .i64 0,.int .i64 0]),4,40):=by kernel_rfl
theorem qN {w w':World} {base e size n:Nat} {v:Value} {xs:List Value} (hh:w'.heap=w.heap) (h:w.ownsRow base e size v n xs):w'.ownsRow base e size v n xs:=by
 unfold World.ownsRow at *
 rw [hh];exact h
theorem iE {w:World} {b:Nat} {cs:Array Value} {t:TypeId} (h:w.heap[b]?=some (.cells cs t)) (j:Nat) (v:Value):(w.setCell ⟨b,j,none⟩ v).heap[b]?=some (.cells (cs.setIfInBounds j v) t):=by
 simp [World.setCell,Array.getElem?_modify,h]
theorem own_ne {w:World} {b n:Nat} {sv:Value} {xs:List Value} (h:w.ownsRow (b+1) 85 4 sv n xs):some b≠sv.ownBlock:=by
 intro e
 have:=(h.lt b e.symm).1
 omega
theorem yW (w:World) (o:Obj) {n:Nat} (h:n=w.heap.size):(w.alloc o).heap[n]?=some o:=by
 subst h;exact heap_alloc_new w o
theorem fF {w:World} {b:Nat} {x:Obj} (h:w.heap[b]?=some x) (o:Obj):(w.alloc o).heap[b]?=some x:=by
 rw [Below.heap_alloc _ _ _ (bG h)];exact h
theorem add_any (b k e:Nat) (s:ByteArray) (sv:Value) (ts:List Tok) (kd nm ps:Int) (x:ByteArray) (w:World) (h:St w b s k sv ts) (hn:ts.length≤100000) :
 Calls Tryz.prog 27 #[.pointer (some ⟨b,0,none⟩),.agg #[.int .i64 kd,.string x,.int .i64 nm,.int .i64 ps],.int .i64 e] w fun ev w'=>ev=.returned (.tuple #[])∧
  ∃ sv',St w' b s e sv' (ts++[⟨kd,x.toList,nm,ps⟩])∧Below b w w':=by
 obtain ⟨hblk,hown⟩:=h
 have hlt:=bG hblk
 have c2:w.cell? ⟨b,2,none⟩=some sv:=zv hblk 2
 have f1:w.frozen? ⟨b,1,none⟩=false:=yT hblk 1
 have f2:w.frozen? ⟨b,2,none⟩=false:=yT hblk 2
 obtain ⟨i0,hi,hz0,hz1,hz2⟩:=info_parts Tryz.info35
 have HO:=zm ((hown.alloc (.cells #[.int .i64 kd,.string x,.int .i64 nm,.int .i64 ps] 85)).alloc (.cells #[.int .i64 kd,.string x,.int .i64 nm,.int .i64 ps] 85))
 have HB:=zm (fF (fF hblk (.cells #[.int .i64 kd,.string x,.int .i64 nm,.int .i64 ps] 85)) (.cells #[.int .i64 kd,.string x,.int .i64 nm,.int .i64 ps] 85))
 have HN:=zm (World.news_of_block (w:=(w.alloc (.cells #[.int .i64 kd,.string x,.int .i64 nm,.int .i64 ps] 85)).alloc (.cells #[.int .i64 kd,.string x,.int .i64 nm,.int .i64 ps] 85)) (B:=w.heap.size+1) (cs:=#[.int .i64 kd,.string x,.int .i64 nm,.int .i64 ps]) (t:=85) (fr:=(0,0)) (by rw [yW _ _ zK]))
 have HE:=zm (own_ne hown)
 have HL:Hid (b+1≤w.heap.size):=by exact hlt
 clear hblk hown
 go_enter Tryz.func27,Tryz.ntmps27
 go_wp2
 go_region_law (refine step_append_lies _ rfl (.tmp 10) (.tmp 12) 34 rfl (b+1) 85 i0 _ 4 40 Tryz.underlying34 hi hz0 hz1 hz2 rfl dc sv ts.length (yi ts) zH (qN rfl (zk HO)) ⟨w.heap.size+1,0,none⟩ 1 1 [.int .i64 kd,.string x,.int .i64 nm,.int .i64 ps] zH rfl (zk HN) (by simp [Value.oneCell']) dc (by unfold maxLen;omega) om (Nat.le_trans (zk HL) sp) _ rfl ?_;intro g cap w1 hown1 hgrow hat hg1;have k1:=(hgrow.block b (Nat.lt_of_lt_of_le (zk HL) sp) (zk HE)).trans (zk HB);have q1:=zv k1 1;have q2:=zv k1 2;have g1:=yT k1 1;have g2:=yT k1 2;have K1:=zm k1;have HO1:=zm hown1;have HG1:=zm hgrow;clear k1 hown1 hgrow hat hg1)
 all_goals
  go_wp2
  go_end0
  refine ⟨rfl,_,⟨by rw [iE (iE (zk K1) 2 _) 1 _];rfl, ?_⟩, ?_⟩
  ·rw [toks_push,List.length_append]
   exact ownsRow_setCell_below (ownsRow_setCell_below (zk HO1) (Nat.lt_succ_self b) _) (Nat.lt_succ_self b) _
  ·exact ((((((Below.refl b w).alloc om _).alloc sp _).drew).grown (zk HG1) sp (fun j hj=>by have:=((zk HO).lt j hj).1;omega)).setCell (Nat.le_refl b) _).setCell (Nat.le_refl b) _
open Go.RowKit Lx
def endL (ts:List Tok) (k:Int):List Tok:=
 match ts.getLast? with
 | some t=>if dX t.kind t.text then ts++[⟨5,[59],1,k⟩] else ts
 | none=>ts
theorem jV {w:World} {base e size n:Nat} {v:Value} {xs:List Value} (h:w.ownsRow base e size v n xs):∃ ao cap,v=.slice ao n cap:=by
 rcases h.2 with ⟨rfl,rfl⟩ | ⟨g,cap,cur,rfl,_⟩
 ·exact ⟨_,_,rfl⟩
 ·exact ⟨_,_,rfl⟩
theorem St.heap {w w':World} {b k:Nat} {s:ByteArray} {sv:Value} {ts:List Tok} (h:St w b s k sv ts) (hh:w'.heap=w.heap):St w' b s k sv ts:=
 ⟨by rw [hh];exact h.blk,qN hh h.own⟩
theorem St.alloc {w:World} {b k:Nat} {s:ByteArray} {sv:Value} {ts:List Tok} (h:St w b s k sv ts) (o:Obj):St (w.alloc o) b s k sv ts:=
 ⟨fF h.blk o,h.own.alloc o⟩
theorem last_cells {w:World} {b k:Nat} {s:ByteArray} {sv:Value} {ts:List Tok} {t:Tok} (h:St w b s k sv (ts++[t])):∃ g cap,sv=.slice (some ⟨g,0,none⟩) (ts.length+1) cap∧
 w.cell? ⟨g,ts.length*4,none⟩=some (.int .i64 t.kind)∧w.cell? ⟨g,ts.length*4+1,none⟩=some (.string ⟨t.text.toArray⟩)∧w.cell? ⟨g,ts.length*4+2,none⟩=some (.int .i64 t.num)∧w.cell? ⟨g,ts.length*4+3,none⟩=some (.int .i64 t.pos):=by
 have ho:=h.own
 rw [List.length_append] at ho
 obtain ⟨g,cap,rfl,_,_⟩:=ho.form zK
 refine ⟨g,cap,rfl, ?_⟩
 have hc:=ho.cells (g:=g) rfl
 have hadd:∀ j,(⟨g,0,none⟩:Addr).add j=⟨g,j,none⟩:=fun j=>by unfold Addr.add;split <;> simp_all
 have hx:∀ j u,(fP t)[j]?=some u→w.cell? ⟨g,ts.length*4+j,none⟩=some u:=fun j u hu=>by
  rw [←hadd]
  refine hc _ _ ?_
  rw [lV,List.getElem?_append_right (by rw [iR];omega),iR,Nat.add_sub_cancel_left]
  exact hu
 exact ⟨hx 0 _ rfl,hx 1 _ rfl,hx 2 _ rfl,hx 3 _ rfl⟩
theorem endLine_nil (b k:Nat) (s:ByteArray) (sv:Value) (w:World) (h:St w b s k sv []) :
 Calls Tryz.prog 26 #[.pointer (some ⟨b,0,none⟩)] w fun ev w'=>ev=.returned (.tuple #[])∧St w' b s k sv []∧Below b w w':=by
 obtain ⟨ao,cap,rfl⟩:=jV h.own
 have c2:w.cell? ⟨b,2,none⟩=some (.slice ao 0 cap):=zv h.blk 2
 have H:=zm h
 clear h
 go_enter Tryz.func26,Tryz.ntmps26
 go_wp2
 go_quiet (fail)
 go_wp2
 go_end0
 exact ⟨rfl,(zk H).heap rfl,below_drewN (Below.refl b w) _⟩
theorem uJ (b k:Nat) (s:ByteArray) (sv:Value) (ts:List Tok) (t:Tok) (w:World) (h:St w b s k sv (ts++[t])) (hn:ts.length<100000) :
 Calls Tryz.prog 26 #[.pointer (some ⟨b,0,none⟩)] w fun ev w'=>ev=.returned (.tuple #[])∧∃ sv',St w' b s k sv' (endL (ts++[t]) k)∧Below b w w':=by
 obtain ⟨g,cap,rfl,d0,d1,d2,d3⟩:=last_cells h
 have c2:w.cell? ⟨b,2,none⟩=some (.slice (some ⟨g,0,none⟩) (ts.length+1) cap):=zv h.blk 2
 have c1:w.cell? ⟨b,1,none⟩=some (.int .i64 k):=zv h.blk 1
 have H:=zm h
 clear h
 generalize hm:ts.length=m at *
 have HM:=zm hm
 clear hm
 have w1:IntKind.i64.wrap (m:Int)=m:=by rw [IntKind.wrap_i64];omega
 have w2:IntKind.i64.wrap ((m:Int)+1-1)=m:=by rw [IntKind.wrap_i64];omega
 have w3:(0:Int)≤m:=om
 have w4:(m:Int)<(m:Int)+1:=om
 have HL:Hid (endL (ts++[t]) k=if dX t.kind t.text then ts++[t]++[⟨5,[59],1,k⟩] else ts++[t]):=by simp [Hid,endL]
 have HC:Hid (b<w.heap.size):=bG (zk H).blk
 have hz:(ByteArray.mk #[59]).toList=[59]:=ByteArray.toList_mk [59]
 have HZ:=zm hz
 clear hz
 by_cases he:dX t.kind t.text=true
 ·rw [if_pos he] at HL
  go_enter Tryz.func26,Tryz.ntmps26
  go_wp2
  go_region_held3 (fun w'=>w'.cell? ⟨b,2,none⟩=some (.slice (some ⟨g,0,none⟩) (m+1) cap)∧w'.cell? ⟨g,m*4,none⟩=some (.int .i64 t.kind)∧w'.cell? ⟨g,m*4+1,none⟩=some (.string ⟨t.text.toArray⟩)∧w'.cell? ⟨g,m*4+2,none⟩=some (.int .i64 t.num)∧w'.cell? ⟨g,m*4+3,none⟩=some (.int .i64 t.pos)) (go_keep) (first | (go_at_call 50;refine (jL _ _ _ _ _).mono ?_;rintro e w' ⟨rfl,rfl⟩))
  go_wp2
  go_region_held3 (fun w'=>w'.cell? ⟨b,1,none⟩=some (.int .i64 k)) (go_keep) (first | (go_at_call 27;refine (add_any b k k s _ (ts++[t]) 5 1 k ⟨#[59]⟩ _ (by exact ((zk H).alloc _).heap rfl) (by have:=zk HM;simp;omega)).mono ?_;rintro e w' ⟨rfl,sv',hst,hbl⟩;have q1:=zv hst.blk 1;have HS:=zm hst;have HBL:=zm hbl;clear hst hbl))
  go_wp2
  go_end0
  refine ⟨rfl,sv', ?_, ?_⟩
  ·rw [zk HL,←zk HZ];exact zk HS
  ·exact (((Below.refl b w).alloc (Nat.le_of_lt (zk HC)) _).drew.drew).trans (zk HBL)
 ·have hf:dX t.kind t.text=false:=by simpa using he
  rw [if_neg he] at HL
  clear he
  go_enter Tryz.func26,Tryz.ntmps26
  go_wp2
  go_region_held3 (fun w'=>w'.cell? ⟨b,2,none⟩=some (.slice (some ⟨g,0,none⟩) (m+1) cap)∧w'.cell? ⟨g,m*4,none⟩=some (.int .i64 t.kind)∧w'.cell? ⟨g,m*4+1,none⟩=some (.string ⟨t.text.toArray⟩)∧w'.cell? ⟨g,m*4+2,none⟩=some (.int .i64 t.num)∧w'.cell? ⟨g,m*4+3,none⟩=some (.int .i64 t.pos)) (go_keep) (first | (go_at_call 50;refine (jL _ _ _ _ _).mono ?_;rintro e w' ⟨rfl,rfl⟩))
  go_wp2
  go_end0
  refine ⟨rfl,.slice (some ⟨g,0,none⟩) (m+1) cap, ?_, ?_⟩
  ·rw [zk HL];exact ((zk H).alloc _).heap rfl
  ·exact ((Below.refl b w).alloc (Nat.le_of_lt (zk HC)) _).drew
theorem oU (b k:Nat) (s:ByteArray) (sv:Value) (ts:List Tok) (w:World) (h:St w b s k sv ts) (hn:ts.length≤100000) :
 Calls Tryz.prog 26 #[.pointer (some ⟨b,0,none⟩)] w fun ev w'=>ev=.returned (.tuple #[])∧∃ sv',St w' b s k sv' (endL ts k)∧Below b w w':=by
 rcases List.eq_nil_or_concat ts with rfl | ⟨r,t,rfl⟩
 ·refine (endLine_nil b k s sv w h).mono ?_
  rintro e w' ⟨rfl,h1,h2⟩
  exact ⟨rfl,sv,h1,h2⟩
 ·rw [List.concat_eq_append] at *
  exact uJ b k s sv r t w h (by simp at hn;omega)
open Go.RowKit Lx
def nmKind (t:List UInt8):Int:=if eu t=true then 4 else 1
theorem vK (p:UInt8→Bool) (s:ByteArray) (k:Nat) (h:k≤s.size):yL p s.toList k≤s.size:=by
 have:=re_le p s.toList k (by rw [yx];exact h)
 rwa [yx] at this
theorem name_long (b k:Nat) (s:ByteArray) (w:World) (hs:s.size≤8192) (hk:k≤s.size) (hc:w.cell? ⟨b,0,none⟩=some (.string s)) (ha:w.cell? ⟨b,1,none⟩=some (.int .i64 k)) (hl:24<yL bH s.toList k-k) :
 Calls Tryz.prog 45 #[.pointer (some ⟨b,0,none⟩)] w fun ev w'=>ev=.returned (.iface 57 (.agg #[.int .i64 k]))∧w'=w:=by
 have H1:=zm (tZ b k s w hs hk hc)
 have h2:=vK bH s k hk
 generalize yL bH s.toList k=E at *
 have h3:(24:Int)<(E:Int)-k:=om
 go_enter Tryz.func45,Tryz.ntmps45
 go_wp2_with (first | (go_at_call 41;refine (zk H1).mono ?_;rintro e w' ⟨rfl,rfl⟩))
 go_ret
 exact ⟨rfl,rfl⟩
theorem name_ok (b k:Nat) (s:ByteArray) (sv:Value) (ts:List Tok) (w:World) (h:St w b s k sv ts) (hn:ts.length≤100000) (hs:s.size≤8192) (hk:k≤s.size) (hl:yL bH s.toList k-k≤24) :
 Calls Tryz.prog 45 #[.pointer (some ⟨b,0,none⟩)] w fun ev w'=>ev=.returned .nilIface∧∃ sv',St w' b s (yL bH s.toList k) sv' (ts++[⟨nmKind (sub s.toList k (yL bH s.toList k)),sub s.toList k (yL bH s.toList k),0,k⟩])∧Below b w w':=by
 have hc:w.cell? ⟨b,0,none⟩=some (.string s):=zv h.blk 0
 have ha:w.cell? ⟨b,1,none⟩=some (.int .i64 k):=zv h.blk 1
 have H1:=zm (tZ b k s w hs hk hc)
 have h1:=re_ge bH s.toList k
 have h2:=vK bH s k hk
 generalize yL bH s.toList k=E at *
 have H:=zm h
 have HC:Hid (b<w.heap.size):=bG h.blk
 have n0:=World.new_ne w ⟨b,0,none⟩ hc
 have n1:=World.new_ne w ⟨b,1,none⟩ ha
 clear h
 rw [←fV]
 have h3:(E:Int)-k≤24:=om
 have h4:(k:Int)≤E:=om
 have h5:(E:Int)≤s.size:=om
 have h6:(0:Int)≤k:=om
 by_cases hw:eu (s.extract k E).toList=true
 ·have HI:Hid (nmKind (s.extract k E).toList=4):=if_pos hw
  go_enter Tryz.func45,Tryz.ntmps45
  go_wp2_with (first | (go_at_call 41;refine (zk H1).mono ?_;rintro e w' ⟨rfl,rfl⟩))
  go_region_held3 (fun w'=>w'.cell? ⟨b,0,none⟩=some (.string s)∧w'.cell? ⟨b,1,none⟩=some (.int .i64 k)) (go_keep) (fail)
  go_wp2_with (first | (go_at_call 67;refine (qj _ _).mono ?_;rintro e w' ⟨rfl,rfl⟩))
  refine (add_any b k E s sv ts _ 0 k (s.extract k E) _ (by exact ((zk H).alloc _).heap rfl) hn).mono ?_
  rintro e w' ⟨rfl,sv',hst,hbl⟩
  have HS:=zm hst
  have HBL:=zm hbl
  clear hst hbl
  go_wp2
  go_ret
  exact ⟨rfl,sv',by rw [zk HI];exact zk HS,(((Below.refl b _).alloc (Nat.le_of_lt (zk HC)) _).drew).trans (zk HBL)⟩
 ·have HI:Hid (nmKind (s.extract k E).toList=1):=if_neg hw
  have hf:eu (s.extract k E).toList=false:=by simpa using hw
  clear hw
  go_enter Tryz.func45,Tryz.ntmps45
  go_wp2_with (first | (go_at_call 41;refine (zk H1).mono ?_;rintro e w' ⟨rfl,rfl⟩))
  go_region_held3 (fun w'=>w'.cell? ⟨b,0,none⟩=some (.string s)∧w'.cell? ⟨b,1,none⟩=some (.int .i64 k)) (go_keep) (fail)
  go_wp2_with (first | (go_at_call 67;refine (qj _ _).mono ?_;rintro e w' ⟨rfl,rfl⟩))
  refine (add_any b k E s sv ts _ 0 k (s.extract k E) _ (by exact ((zk H).alloc _).heap rfl) hn).mono ?_
  rintro e w' ⟨rfl,sv',hst,hbl⟩
  have HS:=zm hst
  have HBL:=zm hbl
  clear hst hbl
  go_wp2
  go_ret
  exact ⟨rfl,sv',by rw [zk HI];exact zk HS,(((Below.refl b _).alloc (Nat.le_of_lt (zk HC)) _).drew).trans (zk HBL)⟩
open Go.RowKit Lx
theorem lN {P:Program} {id:Nat} {Q:Exit→Act→World→Prop} {a:Act} {w:World} {l:List Oper} (n:Nat) (hm:P.follows .mixedOrders=true) (hB:Region.lexTailB .any l.toArray n=true)
 (h:wpStill P l.toArray w.drew (fun a'=>wpList P l.toArray Q (l.drop n) a' w.drew) (l.take n) a):(Code.region id l.toArray true).wp P Q a w:=wp_region_still_tail n hm hB h
theorem ext_drop (s:ByteArray) (k:Nat):(s.extract k s.size).toList=s.toList.drop k:=by
 rw [fV,sub,List.take_of_length_le]
 rw [List.length_drop,yx];omega
theorem ext_size (s:ByteArray) (a b:Nat) (h:b≤s.size):(s.extract a b).size=b-a:=by
 rw [←yx,fV,sub,List.length_take,List.length_drop,yx];omega
theorem add_int (b k e:Nat) (ei:Int) (he:ei=(e:Int)) (s:ByteArray) (sv:Value) (ts:List Tok) (kd nm ps:Int) (x:ByteArray) (w:World) (h:St w b s k sv ts) (hn:ts.length≤100000) :
 Calls Tryz.prog 27 #[.pointer (some ⟨b,0,none⟩),.agg #[.int .i64 kd,.string x,.int .i64 nm,.int .i64 ps],.int .i64 ei] w fun ev w'=>ev=.returned (.tuple #[])∧
  ∃ sv',St w' b s e sv' (ts++[⟨kd,x.toList,nm,ps⟩])∧Below b w w':=by
 subst he;exact add_any b k e s sv ts kd nm ps x w h hn
theorem mlen_le (l:List UInt8):jA l≤2:=by
 unfold jA
 split
 ·omega
 ·split
  ·split
   ·omega
   ·split <;> omega
  ·split <;> omega
theorem mlen_len (l:List UInt8):jA l≤l.length:=by
 unfold jA
 split
 ·omega
 ·rename_i c r
  split
  ·split
   ·rename_i h
    have:=qP _ h
    rw [List.length_take] at this
    omega
   ·split <;> simp
  ·split <;> simp
theorem mark_no (b k:Nat) (s:ByteArray) (w:World) (hs:s.size≤8192) (hk:k<s.size) (hc:w.cell? ⟨b,0,none⟩=some (.string s)) (ha:w.cell? ⟨b,1,none⟩=some (.int .i64 k))
 (HG:Hid (∀ i,i<128→w.cell? ⟨1,i,none⟩=some (.int .i8 (iI i)))) (hm:jA (s.toList.drop k)=0) :
 Calls Tryz.prog 49 #[.pointer (some ⟨b,0,none⟩)] w fun ev w'=>ev=.returned (.iface 57 (.agg #[.int .i64 k]))∧∃ n,w'=w.drewN n:=by
 have H1:=zm (fun X hg=>lI (s.extract k s.size) X (by rw [ext_size _ _ _ lr];omega) (by rw [ext_size _ _ _ lr];omega) hg)
 rw [ext_drop,hm] at H1
 clear hm
 have h5:(k:Int)≤s.size:=om
 have h6:(0:Int)≤k:=om
 go_enter Tryz.func49,Tryz.ntmps49
 go_wp2
 go_quiet ((go_at_call 70;exact Calls.quiet_of_same (zk H1 _ (zk HG))))
 go_wp2
 go_ret
 exact ⟨rfl,_,rfl⟩
theorem mark_ok (b k m:Nat) (s:ByteArray) (sv:Value) (ts:List Tok) (w:World) (h:St w b s k sv ts) (hn:ts.length≤100000) (hs:s.size≤8192) (hk:k<s.size)
 (HG:Hid (∀ i,i<128→w.cell? ⟨1,i,none⟩=some (.int .i8 (iI i)))) (hm:jA (s.toList.drop k)=m) (hm0:0<m) :
 Calls Tryz.prog 49 #[.pointer (some ⟨b,0,none⟩)] w fun ev w'=>ev=.returned .nilIface∧∃ sv',St w' b s (k+m) sv' (ts++[⟨5,sub s.toList k (k+m),0,k⟩])∧Below b w w':=by
 have hc:w.cell? ⟨b,0,none⟩=some (.string s):=zv h.blk 0
 have ha:w.cell? ⟨b,1,none⟩=some (.int .i64 k):=zv h.blk 1
 have H1:=zm (fun X hg=>lI (s.extract k s.size) X (by rw [ext_size _ _ _ lr];omega) (by rw [ext_size _ _ _ lr];omega) hg)
 rw [ext_drop,hm] at H1
 have h2:k+m≤s.size:=by
  have:=mlen_len (s.toList.drop k)
  rw [hm,List.length_drop,yx] at this
  omega
 have h7:m≤2:=by rw [←hm];exact mlen_le _
 clear hm
 have H:=zm h
 have HC:Hid (b<w.heap.size):=bG h.blk
 clear h
 rw [←fV]
 have h5:(k:Int)≤s.size:=om
 have h6:(0:Int)≤k:=om
 have h8:((m:Int)==0)=false:=beq_eq_false_iff_ne.2 om
 have h9:(k:Int)+m≤s.size:=om
 have hx:IntKind.i64.wrap ((k:Int)+m)=(k:Int)+m:=by rw [IntKind.wrap_i64];omega
 have hy:(k:Int)≤(k:Int)+m:=om
 have ht:((k:Int)+m).toNat=k+m:=om
 go_enter Tryz.func49,Tryz.ntmps49
 go_wp2
 go_quiet ((go_at_call 70;exact Calls.quiet_of_same (zk H1 _ (zk HG))))
 go_wp2
 refine lN 27 zG zG ?_
 simp only [List.take_succ_cons,List.take_zero,List.drop_succ_cons,List.drop_zero]
 repeat still_step
 refine wpStill_nil ?_
 go_wp2_with fail
 refine (add_int b k (k+m) _ om s sv ts 5 0 k (s.extract k (k+m)) _ zW hn).mono ?_
 rintro e w' ⟨rfl,sv',hst,hbl⟩
 have HS:=zm hst
 have HBL:=zm hbl
 clear hst hbl
 go_wp2
 go_ret
 exact ⟨rfl,sv',zk HS,(below_drewN (Below.refl b w) _).trans (zk HBL)⟩
end Go.Proofs.YtgbjpnnockoomaaGreatDoor
namespace Go.Proofs.YtgbjpnnockoomaaGreatDoor.Lx
def dY (t:List UInt8):Int:=t.foldl (fun v c=>v*10+((c.toNat:Int)-48)) 0
def p10:Nat→Int
 | 0=>1
 | n+1=>10*p10 n
theorem jo (t:List UInt8) (c:UInt8):dY (t++[c])=dY t*10+((c.toNat:Int)-48):=by simp [dY]
theorem lg (c:UInt8) (h:aG c=true):48≤(c.toNat:Int)∧(c.toNat:Int)≤57:=by
 simp [aG,digZ] at h
 omega
theorem pU:∀ (n:Nat) (t:List UInt8),t.length=n→(∀ c∈t,aG c=true)→0≤dY t∧dY t<p10 n
 | 0,t,h,_=>by
   have:t=[]:=List.eq_nil_of_length_eq_zero h
   subst this
   simp [dY,p10]
 | n+1,t,h,hd=>by
   rcases List.eq_nil_or_concat t with rfl | ⟨r,c,rfl⟩
   ·simp at h
   ·rw [List.concat_eq_append] at *
    have ih:=pU n r (by simpa using h) (fun c hc=>hd c (by simp [hc]))
    have hb:=lg c (hd c zK)
    rw [jo,p10]
    omega
theorem qO (a b:Nat) (h:a≤b):p10 a≤p10 b:=by
 induction b with
 | zero=>have:a=0:=om
         subst this;exact Int.le_refl _
 | succ b ih=>
   rcases Nat.lt_or_ge a (b+1) with h1 | h1
   ·have:=ih om
    have hp:∀ n,0<p10 n:=fun n=>by
     induction n with
     | zero=>simp [p10]
     | succ n ih=>simp [p10];omega
    have:=hp b
    simp only [p10]
    omega
   ·have:a=b+1:=om
    subst this;exact Int.le_refl _
theorem l9 (t:List UInt8) (h:t.length≤17) (hd:∀ c∈t,aG c=true):0≤dY t∧dY t≤99999999999999999:=by
 have h1:=pU t.length t rfl hd
 have h2:=qO t.length 17 h
 have h3:p10 17=100000000000000000:=by decide
 omega
theorem take_tw (p:UInt8→Bool):∀ t:List UInt8,t.take (t.takeWhile p).length=t.takeWhile p
 | []=>rfl
 | c::r=>by
   by_cases h:p c=true
   ·simp [h,take_tw p r]
   ·simp [h]
theorem tw_all (p:UInt8→Bool):∀ t:List UInt8,∀ c∈t.takeWhile p,p c=true
 | [],c,h=>by simp at h
 | d::r,c,h=>by
   by_cases hd:p d=true
   ·rw [List.takeWhile_cons_of_pos hd] at h
    rcases List.mem_cons.1 h with rfl | h
    ·exact hd
    ·exact tw_all p r c h
   ·rw [List.takeWhile_cons_of_neg hd] at h
    simp at h
theorem sub_run (p:UInt8→Bool) (l:List UInt8) (k:Nat):sub l k (yL p l k)=(l.drop k).takeWhile p:=by
 unfold sub yL
 rw [Nat.add_sub_cancel_left]
 exact take_tw p _
theorem gG (p:UInt8→Bool) (l:List UInt8) (k:Nat):∀ c∈sub l k (yL p l k),p c=true:=by
 rw [sub_run];exact tw_all p _
theorem nZ (x:ByteArray) (j:Nat) (h:j<x.size):x.toList.take (j+1)=x.toList.take j++[x[j]]:=by
 have h1:=fJ x j h
 rw [List.take_add_one,h1];rfl
def rM (d:UInt8):Option UInt8:=if d=110 then some 10 else if d=34 then some 34 else if d=92 then some 92 else none
def txt:List UInt8→Option (List UInt8) × Nat
 | []=>(none,0)
 | c::r=>
   if c=34 then (some [],1)
   else if c=92 then
    match r with
    | []=>(none,0)
    | d::r'=>
      match rM d with
      | none=>(none,0)
      | some x=>((txt r').1.map (x::·),(txt r').2+2)
   else if dO c then ((txt r).1.map (c::·),(txt r).2+1)
   else (none,0)
theorem mD (r:List UInt8):txt (34::r)=(some [],1):=by rw [txt.eq_def];simp
theorem mr (c:UInt8) (r:List UInt8) (h:dO c=true):txt (c::r)=((txt r).1.map (c::·),(txt r).2+1):=by
 have h1:c≠34:=by rintro rfl;revert h;decide
 have h2:c≠92:=by rintro rfl;revert h;decide
 rw [txt.eq_def];simp [h1,h2,h]
theorem oh (d x:UInt8) (r:List UInt8) (h:rM d=some x):txt (92::d::r)=((txt r).1.map (x::·),(txt r).2+2):=by
 rw [txt.eq_def];simp [h]
theorem rq (c:UInt8) (r:List UInt8) (h1:dO c=false) (h2:c≠34) (h3:c≠92):txt (c::r)=(none,0):=by
 rw [txt.eq_def];simp [h1,h2,h3]
theorem og (r:List UInt8) (h:∀ d r',r=d::r'→rM d=none):txt (92::r)=(none,0):=by
 cases r with
 | nil=>rw [txt.eq_def];simp
 | cons d r'=>rw [txt.eq_def];simp [h d r' rfl]
theorem txt_run:∀ (t:List UInt8),txt t=((txt (t.dropWhile dO)).1.map ((t.takeWhile dO)++·),(txt (t.dropWhile dO)).2+(t.takeWhile dO).length)
 | []=>by simp [txt]
 | c::r=>by
   by_cases h:dO c=true
   ·rw [mr c r h,List.dropWhile_cons_of_pos h,List.takeWhile_cons_of_pos h,txt_run r]
    simp only [Option.map_map,List.length_cons]
    refine Prod.ext ?_ ?_
    ·simp only
     congr 1
    ·simp only;omega
   ·rw [List.dropWhile_cons_of_neg h,List.takeWhile_cons_of_neg h]
    simp
theorem drop_run (p:UInt8→Bool) (l:List UInt8) (j:Nat):l.drop (yL p l j)=(l.drop j).dropWhile p:=by
 unfold yL
 rw [←List.drop_drop]
 have:∀ t:List UInt8,t.drop (t.takeWhile p).length=t.dropWhile p:=fun t=>by
  induction t with
  | nil=>rfl
  | cons c r ih=>
    by_cases h:p c=true
    ·simp [h,ih]
    ·simp [h]
 exact this _
def jf (l:List UInt8) (a j:Nat) (xs:List UInt8):Prop:=a≤j∧txt (l.drop a)=((txt (l.drop j)).1.map (xs++·),(txt (l.drop j)).2+(j-a))
theorem jf.start (l:List UInt8) (a:Nat):jf l a a []:=⟨Nat.le_refl _,by simp⟩
theorem jf.run {l:List UInt8} {a j:Nat} {xs:List UInt8} (h:jf l a j xs):jf l a (yL dO l j) (xs++sub l j (yL dO l j)):=by
 have hg:=re_ge dO l j
 refine ⟨Nat.le_trans h.1 hg, ?_⟩
 have e:(l.drop j).takeWhile dO=sub l j (yL dO l j):=(sub_run dO l j).symm
 have el:((l.drop j).takeWhile dO).length=yL dO l j-j:=by unfold yL;omega
 rw [h.2,txt_run (l.drop j),←drop_run]
 have ha:=h.1
 refine Prod.ext ?_ ?_
 ·simp only [Option.map_map,e]
  congr 1
  funext z
  simp
 ·simp only [el];omega
theorem jf.esc {l:List UInt8} {a j:Nat} {xs:List UInt8} {x:UInt8} (h:jf l a j xs) (he:kY l j=some x):jf l a (j+2) (xs++[x]):=by
 unfold kY at he
 split at he
 ·rename_i h1
  have h2:∃ d,l[j+1]?=some d∧rM d=some x:=by
   cases hd:l[j+1]? with
   | none=>rw [hd] at he;simp at he
   | some d=>rw [hd] at he;exact ⟨d,rfl,by simpa [rM] using he⟩
  obtain ⟨d,hd,hx⟩:=h2
  refine ⟨by have:=h.1;omega, ?_⟩
  rw [h.2,eH l j 92 h1,eH l (j+1) d hd,oh d x _ hx,show j+1+1=j+2 from rfl]
  have ha:=h.1
  refine Prod.ext ?_ ?_
  ·simp only [Option.map_map]
   congr 1
   funext z
   simp
  ·simp only;omega
 ·simp at he
theorem jf.close {l:List UInt8} {a j:Nat} {xs:List UInt8} (h:jf l a j xs) (hq:l[j]?=some 34):txt (l.drop a)=(some xs,j+1-a):=by
 rw [h.2,eH l j 34 hq,mD]
 have ha:=h.1
 simp;omega
theorem jf.out {l:List UInt8} {a j:Nat} {xs:List UInt8} (h:jf l a j xs) (hq:l.length≤j):txt (l.drop a)=(none,j-a):=by
 rw [h.2,List.drop_eq_nil_of_le hq,txt];simp
theorem jf.bad {l:List UInt8} {a j:Nat} {xs:List UInt8} {c:UInt8} (h:jf l a j xs) (hc:l[j]?=some c) (hp:dO c=false) (hq:c≠34) (he:kY l j=none):txt (l.drop a)=(none,j-a):=by
 have e:txt (l.drop j)=(none,0):=by
  rw [eH l j c hc]
  by_cases h9:c=92
  ·subst h9
   refine og _ fun d r' hr=>?_
   have hd:l[j+1]?=some d:=by
    have:=congrArg List.head? hr
    rw [List.head?_drop] at this
    simpa using this
   unfold kY at he
   rw [if_pos hc,hd] at he
   simpa [rM] using he
  ·exact rq c _ hp hq h9
 rw [h.2,e];simp
theorem run_stop (p:UInt8→Bool) (l:List UInt8) (j:Nat) (c:UInt8) (h:l[yL p l j]?=some c):p c=false:=by
 have e:=drop_run p l j
 rw [eH l _ c h] at e
 cases hp:p c with
 | false=>rfl
 | true=>
   have:∀ t:List UInt8,∀ r,t.dropWhile p=c::r→False:=fun t=>by
    induction t with
    | nil=>intro r h;simp at h
    | cons d q ih=>
      intro r h
      by_cases hd:p d=true
      ·rw [List.dropWhile_cons_of_pos hd] at h;exact ih r h
      ·rw [List.dropWhile_cons_of_neg hd] at h
       have:=(List.cons.inj h).1
       rw [this] at hd;exact hd hp
   exact (this _ _ e.symm).elim
end Go.Proofs.YtgbjpnnockoomaaGreatDoor.Lx
namespace Go.Proofs.YtgbjpnnockoomaaGreatDoor
open Go.RowKit Lx
theorem number_long (b k E:Nat) (s:ByteArray) (w:World) (hs:s.size≤8192) (hc:w.cell? ⟨b,0,none⟩=some (.string s)) (ha:w.cell? ⟨b,1,none⟩=some (.int .i64 k)) (hE:Hid (yL aG s.toList k=E)) (h1:k<E) (h2:E≤s.size) (hb:18<E-k) :
 Calls Tryz.prog 47 #[.pointer (some ⟨b,0,none⟩)] w fun ev w'=>ev=.returned (.iface 57 (.agg #[.int .i64 k]))∧∃ n,w'=w.drewN n:=by
 have H1:=zm (iD b k s w hs om hc)
 rw [zk hE] at H1
 have h3:(k:Int)≤E:=om
 have h4:(E:Int)≤s.size:=om
 have h5:(0:Int)≤k:=om
 have hz:(s.extract k E).size=E-k:=ext_size s k E h2
 have h6:(18:Int)<((E-k:Nat):Int):=om
 go_enter Tryz.func47,Tryz.ntmps47
 go_wp2_with (first | (go_at_call 41;refine (zk H1).mono ?_;rintro e w' ⟨rfl,rfl⟩))
 go_quiet (fail)
 go_wp2_with fail
 go_ret
 exact ⟨rfl,_,rfl⟩
theorem number_zero (b k E:Nat) (s:ByteArray) (w:World) (hs:s.size≤8192) (hc:w.cell? ⟨b,0,none⟩=some (.string s)) (ha:w.cell? ⟨b,1,none⟩=some (.int .i64 k)) (hE:Hid (yL aG s.toList k=E)) (h1:1<E-k) (h2:E≤s.size) (hb:E-k≤18)
 (h0:0<(s.extract k E).size) (hd:(((s.extract k E)[0].toNat:Int)==48)=true) :
 Calls Tryz.prog 47 #[.pointer (some ⟨b,0,none⟩)] w fun ev w'=>ev=.returned (.iface 57 (.agg #[.int .i64 k]))∧∃ n,w'=w.drewN n:=by
 have H1:=zm (iD b k s w hs om hc)
 rw [zk hE] at H1
 have h3:(k:Int)≤E:=om
 have h4:(E:Int)≤s.size:=om
 have h5:(0:Int)≤k:=om
 have hz:(s.extract k E).size=E-k:=ext_size s k E h2
 have h6:((E-k:Nat):Int)≤18:=om
 have h7:1<((E-k:Nat):Int):=om
 have h8:0<E-k:=om
 go_enter Tryz.func47,Tryz.ntmps47
 go_wp2_with (first | (go_at_call 41;refine (zk H1).mono ?_;rintro e w' ⟨rfl,rfl⟩))
 go_quiet (fail)
 go_wp2_with fail
 go_ret
 exact ⟨rfl,_,rfl⟩
theorem qK (b k E:Nat) (s:ByteArray) (w:World) (hs:s.size≤8192) (hc:w.cell? ⟨b,0,none⟩=some (.string s)) (ha:w.cell? ⟨b,1,none⟩=some (.int .i64 k)) (hE:Hid (yL aG s.toList k=E)) (h2:E≤s.size) (h1:E-k=1) (hlt:E<s.size) (hl:isLet s[E]=true) :
 Calls Tryz.prog 47 #[.pointer (some ⟨b,0,none⟩)] w fun ev w'=>ev=.returned (.iface 57 (.agg #[.int .i64 E]))∧∃ n,w'=w.drewN n:=by
 have H1:=zm (iD b k s w hs om hc)
 rw [zk hE] at H1
 have h3:(k:Int)≤E:=om
 have h4:(E:Int)≤s.size:=om
 have h5:(0:Int)≤k:=om
 have hz:(s.extract k E).size=E-k:=ext_size s k E h2
 have h6:((E-k:Nat):Int)≤18:=om
 have h8:0<E-k:=om
 have h7:((E-k:Nat):Int)≤1:=om
 have h9:(E:Int)<s.size:=om
 go_enter Tryz.func47,Tryz.ntmps47
 go_wp2_with (first | (go_at_call 41;refine (zk H1).mono ?_;rintro e w' ⟨rfl,rfl⟩))
 go_quiet (fail)
 go_wp2_with (first | (go_at_call 43;refine (cZ _ _).mono ?_;rintro e w' ⟨rfl,rfl⟩))
 go_ret
 exact ⟨rfl,_,rfl⟩
theorem pq (b k E:Nat) (s:ByteArray) (w:World) (hs:s.size≤8192) (hc:w.cell? ⟨b,0,none⟩=some (.string s)) (ha:w.cell? ⟨b,1,none⟩=some (.int .i64 k)) (hE:Hid (yL aG s.toList k=E)) (h2:E≤s.size) (h1:1<E-k) (hb:E-k≤18) (h0:0<(s.extract k E).size) (hd:(((s.extract k E)[0].toNat:Int)==48)=false) (hlt:E<s.size) (hl:isLet s[E]=true) :
 Calls Tryz.prog 47 #[.pointer (some ⟨b,0,none⟩)] w fun ev w'=>ev=.returned (.iface 57 (.agg #[.int .i64 E]))∧∃ n,w'=w.drewN n:=by
 have H1:=zm (iD b k s w hs om hc)
 rw [zk hE] at H1
 have h3:(k:Int)≤E:=om
 have h4:(E:Int)≤s.size:=om
 have h5:(0:Int)≤k:=om
 have hz:(s.extract k E).size=E-k:=ext_size s k E h2
 have h6:((E-k:Nat):Int)≤18:=om
 have h8:0<E-k:=om
 have h7:1<((E-k:Nat):Int):=om
 have h9:(E:Int)<s.size:=om
 go_enter Tryz.func47,Tryz.ntmps47
 go_wp2_with (first | (go_at_call 41;refine (zk H1).mono ?_;rintro e w' ⟨rfl,rfl⟩))
 go_quiet (fail)
 go_wp2_with (first | (go_at_call 43;refine (cZ _ _).mono ?_;rintro e w' ⟨rfl,rfl⟩))
 go_ret
 exact ⟨rfl,_,rfl⟩
end Go.Proofs.YtgbjpnnockoomaaGreatDoor
