import Derived.Test.YtgbjpnnockoomaaGreatDoorNum
import Derived.Lib.AppendStr
set_option maxHeartbeats 800000
set_option maxRecDepth 100000
set_option maxHeartbeats 1000000
namespace Go.Proofs.YtgbjpnnockoomaaGreatDoor
open Go.RowKit Lx
theorem oM (b k E:Nat) (s:ByteArray) (sv:Value) (ts:List Tok) (w:World) (hs:s.size≤8192) (h:St w b s k sv ts) (hn:ts.length≤100000) (hE:Hid (yL aG s.toList k=E)) (h2:E≤s.size) (h1:E-k≤1) (hkE:k<E) (hlt:E<s.size) (hl:isLet s[E]=false) :
 Calls Tryz.prog 47 #[.pointer (some ⟨b,0,none⟩)] w fun ev w'=>ev=.returned .nilIface∧∃ sv',St w' b s E sv' (ts++[⟨2,sub s.toList k E,dY (sub s.toList k E),k⟩])∧Below b w w':=by
 have hc:w.cell? ⟨b,0,none⟩=some (.string s):=zv h.blk 0
 have ha:w.cell? ⟨b,1,none⟩=some (.int .i64 k):=zv h.blk 1
 have H:=zm h
 have HC:Hid (b<w.heap.size):=bG h.blk
 clear h
 have HD:=zm (gG aG s.toList k)
 rw [zk hE] at HD
 rw [←fV] at HD ⊢
 have H1:=zm (iD b k s w hs om hc)
 rw [zk hE] at H1
 have h3:(k:Int)≤E:=om
 have h4:(E:Int)≤s.size:=om
 have h5:(0:Int)≤k:=om
 have hz:(s.extract k E).size=E-k:=ext_size s k E h2
 have h6:((E-k:Nat):Int)≤18:=om
 have h8:0<E-k:=om
 have h7:((E-k:Nat):Int)≤1:=om
 have h9:(E:Int)<s.size:=om
 go_enter Tryz.func47,Tryz.ntmps47
 go_wp2_with (first | (go_at_call 41;refine (zk H1).mono ?_;rintro e w' ⟨rfl,rfl⟩))
 go_quiet (fail)
 go_wp2_with (first | (go_at_call 43;refine (cZ _ _).mono ?_;rintro e w' ⟨rfl,rfl⟩))
 generalize hx:s.extract k E=x at *
 have HX:=zm hx
 clear hx
 go_loop [5,63] (fun v i=>∃ j:Nat,j≤E-k∧i=.int .i64 j∧v=.int .i64 (dY (x.toList.take j))) (fun _ i=>(E-k)-(intOf i).toNat)
 case atStart=>exact ⟨0,Nat.zero_le _,rfl,rfl⟩
 case round=>
  obtain ⟨j,hj,rfl,rfl⟩:=hrel
  by_cases hjl:j<E-k
  ·have hjx:j<x.size:=om
   have hbd:=lg x[j] (zk HD _ (List.mem_of_getElem? (fJ x j hjx)))
   have hV17:=l9 (x.toList.take j) (by rw [List.length_take];omega) (fun c hc=>zk HD c (List.mem_of_mem_take hc))
   have HT:Hid (dY (x.toList.take (j+1))=dY (x.toList.take j)*10+((x[j].toNat:Int)-48)):=by
    show _=_
    rw [nZ x j hjx,jo]
   generalize dY (x.toList.take j)=V at *
   obtain ⟨hb1,hb2⟩:=hbd
   obtain ⟨hv1,hv2⟩:=hV17
   go_wp2
   go_round
   case rel=>exact ⟨j+1,hjl,by go_num,by rw [zk HT]⟩
   case measure=>simp [intOf];omega
  ·obtain rfl:j=E-k:=om
   have HT:Hid (dY (x.toList.take (E-k))=dY x.toList):=by
    show _=_
    rw [List.take_of_length_le (by rw [yx];omega)]
   rw [zk HT]
   generalize hV:dY x.toList=V at *
   have HV:=zm hV
   clear hV
   go_wp2_with fail
   refine (add_any b k E s sv ts 2 V k x _ zW hn).mono ?_
   rintro e w1 ⟨rfl,sv',hst,hbl⟩
   have HS:=zm hst
   have HBL:=zm hbl
   clear hst hbl
   go_wp2
   go_ret
   exact ⟨rfl,sv',by rw [zk HX,zk HV];exact zk HS,(below_drewN (Below.refl b _) _).trans (zk HBL)⟩
theorem nG (b k E:Nat) (s:ByteArray) (sv:Value) (ts:List Tok) (w:World) (hs:s.size≤8192) (h:St w b s k sv ts) (hn:ts.length≤100000) (hE:Hid (yL aG s.toList k=E)) (h2:E≤s.size) (h1:E-k≤1) (hkE:k<E) (hlt:¬E<s.size) :
 Calls Tryz.prog 47 #[.pointer (some ⟨b,0,none⟩)] w fun ev w'=>ev=.returned .nilIface∧∃ sv',St w' b s E sv' (ts++[⟨2,sub s.toList k E,dY (sub s.toList k E),k⟩])∧Below b w w':=by
 have hc:w.cell? ⟨b,0,none⟩=some (.string s):=zv h.blk 0
 have ha:w.cell? ⟨b,1,none⟩=some (.int .i64 k):=zv h.blk 1
 have H:=zm h
 have HC:Hid (b<w.heap.size):=bG h.blk
 clear h
 have HD:=zm (gG aG s.toList k)
 rw [zk hE] at HD
 rw [←fV] at HD ⊢
 have H1:=zm (iD b k s w hs om hc)
 rw [zk hE] at H1
 have h3:(k:Int)≤E:=om
 have h4:(E:Int)≤s.size:=om
 have h5:(0:Int)≤k:=om
 have hz:(s.extract k E).size=E-k:=ext_size s k E h2
 have h6:((E-k:Nat):Int)≤18:=om
 have h8:0<E-k:=om
 have h7:((E-k:Nat):Int)≤1:=om
 go_enter Tryz.func47,Tryz.ntmps47
 go_wp2_with (first | (go_at_call 41;refine (zk H1).mono ?_;rintro e w' ⟨rfl,rfl⟩))
 go_quiet (fail)
 go_wp2_with (first | (go_at_call 43;refine (cZ _ _).mono ?_;rintro e w' ⟨rfl,rfl⟩))
 generalize hx:s.extract k E=x at *
 have HX:=zm hx
 clear hx
 go_loop [5,63] (fun v i=>∃ j:Nat,j≤E-k∧i=.int .i64 j∧v=.int .i64 (dY (x.toList.take j))) (fun _ i=>(E-k)-(intOf i).toNat)
 case atStart=>exact ⟨0,Nat.zero_le _,rfl,rfl⟩
 case round=>
  obtain ⟨j,hj,rfl,rfl⟩:=hrel
  by_cases hjl:j<E-k
  ·have hjx:j<x.size:=om
   have hbd:=lg x[j] (zk HD _ (List.mem_of_getElem? (fJ x j hjx)))
   have hV17:=l9 (x.toList.take j) (by rw [List.length_take];omega) (fun c hc=>zk HD c (List.mem_of_mem_take hc))
   have HT:Hid (dY (x.toList.take (j+1))=dY (x.toList.take j)*10+((x[j].toNat:Int)-48)):=by
    show _=_
    rw [nZ x j hjx,jo]
   generalize dY (x.toList.take j)=V at *
   obtain ⟨hb1,hb2⟩:=hbd
   obtain ⟨hv1,hv2⟩:=hV17
   go_wp2
   go_round
   case rel=>exact ⟨j+1,hjl,by go_num,by rw [zk HT]⟩
   case measure=>simp [intOf];omega
  ·obtain rfl:j=E-k:=om
   have HT:Hid (dY (x.toList.take (E-k))=dY x.toList):=by
    show _=_
    rw [List.take_of_length_le (by rw [yx];omega)]
   rw [zk HT]
   generalize hV:dY x.toList=V at *
   have HV:=zm hV
   clear hV
   go_wp2_with fail
   refine (add_any b k E s sv ts 2 V k x _ zW hn).mono ?_
   rintro e w1 ⟨rfl,sv',hst,hbl⟩
   have HS:=zm hst
   have HBL:=zm hbl
   clear hst hbl
   go_wp2
   go_ret
   exact ⟨rfl,sv',by rw [zk HX,zk HV];exact zk HS,(below_drewN (Below.refl b _) _).trans (zk HBL)⟩
theorem nD (b k E:Nat) (s:ByteArray) (sv:Value) (ts:List Tok) (w:World) (hs:s.size≤8192) (h:St w b s k sv ts) (hn:ts.length≤100000) (hE:Hid (yL aG s.toList k=E)) (h2:E≤s.size) (h1:1<E-k) (hb:E-k≤18) (h0:0<(s.extract k E).size) (hd:(((s.extract k E)[0].toNat:Int)==48)=false) (hlt:E<s.size) (hl:isLet s[E]=false) :
 Calls Tryz.prog 47 #[.pointer (some ⟨b,0,none⟩)] w fun ev w'=>ev=.returned .nilIface∧∃ sv',St w' b s E sv' (ts++[⟨2,sub s.toList k E,dY (sub s.toList k E),k⟩])∧Below b w w':=by
 have hc:w.cell? ⟨b,0,none⟩=some (.string s):=zv h.blk 0
 have ha:w.cell? ⟨b,1,none⟩=some (.int .i64 k):=zv h.blk 1
 have H:=zm h
 have HC:Hid (b<w.heap.size):=bG h.blk
 clear h
 have HD:=zm (gG aG s.toList k)
 rw [zk hE] at HD
 rw [←fV] at HD ⊢
 have H1:=zm (iD b k s w hs om hc)
 rw [zk hE] at H1
 have h3:(k:Int)≤E:=om
 have h4:(E:Int)≤s.size:=om
 have h5:(0:Int)≤k:=om
 have hz:(s.extract k E).size=E-k:=ext_size s k E h2
 have h6:((E-k:Nat):Int)≤18:=om
 have h8:0<E-k:=om
 have h7:1<((E-k:Nat):Int):=om
 have h9:(E:Int)<s.size:=om
 go_enter Tryz.func47,Tryz.ntmps47
 go_wp2_with (first | (go_at_call 41;refine (zk H1).mono ?_;rintro e w' ⟨rfl,rfl⟩))
 go_quiet (fail)
 go_wp2_with (first | (go_at_call 43;refine (cZ _ _).mono ?_;rintro e w' ⟨rfl,rfl⟩))
 generalize hx:s.extract k E=x at *
 have HX:=zm hx
 clear hx
 go_loop [5,63] (fun v i=>∃ j:Nat,j≤E-k∧i=.int .i64 j∧v=.int .i64 (dY (x.toList.take j))) (fun _ i=>(E-k)-(intOf i).toNat)
 case atStart=>exact ⟨0,Nat.zero_le _,rfl,rfl⟩
 case round=>
  obtain ⟨j,hj,rfl,rfl⟩:=hrel
  by_cases hjl:j<E-k
  ·have hjx:j<x.size:=om
   have hbd:=lg x[j] (zk HD _ (List.mem_of_getElem? (fJ x j hjx)))
   have hV17:=l9 (x.toList.take j) (by rw [List.length_take];omega) (fun c hc=>zk HD c (List.mem_of_mem_take hc))
   have HT:Hid (dY (x.toList.take (j+1))=dY (x.toList.take j)*10+((x[j].toNat:Int)-48)):=by
    show _=_
    rw [nZ x j hjx,jo]
   generalize dY (x.toList.take j)=V at *
   obtain ⟨hb1,hb2⟩:=hbd
   obtain ⟨hv1,hv2⟩:=hV17
   go_wp2
   go_round
   case rel=>exact ⟨j+1,hjl,by go_num,by rw [zk HT]⟩
   case measure=>simp [intOf];omega
  ·obtain rfl:j=E-k:=om
   have HT:Hid (dY (x.toList.take (E-k))=dY x.toList):=by
    show _=_
    rw [List.take_of_length_le (by rw [yx];omega)]
   rw [zk HT]
   generalize hV:dY x.toList=V at *
   have HV:=zm hV
   clear hV
   go_wp2_with fail
   refine (add_any b k E s sv ts 2 V k x _ zW hn).mono ?_
   rintro e w1 ⟨rfl,sv',hst,hbl⟩
   have HS:=zm hst
   have HBL:=zm hbl
   clear hst hbl
   go_wp2
   go_ret
   exact ⟨rfl,sv',by rw [zk HX,zk HV];exact zk HS,(below_drewN (Below.refl b _) _).trans (zk HBL)⟩
theorem mM (b k E:Nat) (s:ByteArray) (sv:Value) (ts:List Tok) (w:World) (hs:s.size≤8192) (h:St w b s k sv ts) (hn:ts.length≤100000) (hE:Hid (yL aG s.toList k=E)) (h2:E≤s.size) (h1:1<E-k) (hb:E-k≤18) (h0:0<(s.extract k E).size) (hd:(((s.extract k E)[0].toNat:Int)==48)=false) (hlt:¬E<s.size) :
 Calls Tryz.prog 47 #[.pointer (some ⟨b,0,none⟩)] w fun ev w'=>ev=.returned .nilIface∧∃ sv',St w' b s E sv' (ts++[⟨2,sub s.toList k E,dY (sub s.toList k E),k⟩])∧Below b w w':=by
 have hc:w.cell? ⟨b,0,none⟩=some (.string s):=zv h.blk 0
 have ha:w.cell? ⟨b,1,none⟩=some (.int .i64 k):=zv h.blk 1
 have H:=zm h
 have HC:Hid (b<w.heap.size):=bG h.blk
 clear h
 have HD:=zm (gG aG s.toList k)
 rw [zk hE] at HD
 rw [←fV] at HD ⊢
 have H1:=zm (iD b k s w hs om hc)
 rw [zk hE] at H1
 have h3:(k:Int)≤E:=om
 have h4:(E:Int)≤s.size:=om
 have h5:(0:Int)≤k:=om
 have hz:(s.extract k E).size=E-k:=ext_size s k E h2
 have h6:((E-k:Nat):Int)≤18:=om
 have h8:0<E-k:=om
 have h7:1<((E-k:Nat):Int):=om
 go_enter Tryz.func47,Tryz.ntmps47
 go_wp2_with (first | (go_at_call 41;refine (zk H1).mono ?_;rintro e w' ⟨rfl,rfl⟩))
 go_quiet (fail)
 go_wp2_with (first | (go_at_call 43;refine (cZ _ _).mono ?_;rintro e w' ⟨rfl,rfl⟩))
 generalize hx:s.extract k E=x at *
 have HX:=zm hx
 clear hx
 go_loop [5,63] (fun v i=>∃ j:Nat,j≤E-k∧i=.int .i64 j∧v=.int .i64 (dY (x.toList.take j))) (fun _ i=>(E-k)-(intOf i).toNat)
 case atStart=>exact ⟨0,Nat.zero_le _,rfl,rfl⟩
 case round=>
  obtain ⟨j,hj,rfl,rfl⟩:=hrel
  by_cases hjl:j<E-k
  ·have hjx:j<x.size:=om
   have hbd:=lg x[j] (zk HD _ (List.mem_of_getElem? (fJ x j hjx)))
   have hV17:=l9 (x.toList.take j) (by rw [List.length_take];omega) (fun c hc=>zk HD c (List.mem_of_mem_take hc))
   have HT:Hid (dY (x.toList.take (j+1))=dY (x.toList.take j)*10+((x[j].toNat:Int)-48)):=by
    show _=_
    rw [nZ x j hjx,jo]
   generalize dY (x.toList.take j)=V at *
   obtain ⟨hb1,hb2⟩:=hbd
   obtain ⟨hv1,hv2⟩:=hV17
   go_wp2
   go_round
   case rel=>exact ⟨j+1,hjl,by go_num,by rw [zk HT]⟩
   case measure=>simp [intOf];omega
  ·obtain rfl:j=E-k:=om
   have HT:Hid (dY (x.toList.take (E-k))=dY x.toList):=by
    show _=_
    rw [List.take_of_length_le (by rw [yx];omega)]
   rw [zk HT]
   generalize hV:dY x.toList=V at *
   have HV:=zm hV
   clear hV
   go_wp2_with fail
   refine (add_any b k E s sv ts 2 V k x _ zW hn).mono ?_
   rintro e w1 ⟨rfl,sv',hst,hbl⟩
   have HS:=zm hst
   have HBL:=zm hbl
   clear hst hbl
   go_wp2
   go_ret
   exact ⟨rfl,sv',by rw [zk HX,zk HV];exact zk HS,(below_drewN (Below.refl b _) _).trans (zk HBL)⟩
open Go.RowKit Lx
def mW (xs:List UInt8):List Value:=xs.map fun c=>Value.int .u8 c.toNat
theorem sW (xs ys:List UInt8):mW (xs++ys)=mW xs++mW ys:=List.map_append
theorem vN (s:ByteArray) (a b:Nat):Lib.strCells (s.extract a b)=mW (sub s.toList a b):=by
 rw [←fV,ByteArray.toList_eq];rfl
theorem Tryz.info5:(Tryz.prog.info? 5).map (fun i=>(i.zero,i.size,i.bytes))=some (some (.int .u8 0),1,1):=by kernel_rfl
theorem St.below {w w':World} {b k:Nat} {s:ByteArray} {sv:Value} {ts:List Tok} (h:St w b s k sv ts) (hb:Below w.heap.size w w'):St w' b s k sv ts:=by
 refine ⟨by rw [hb.block b (bG h.blk)];exact h.blk, ?_⟩
 obtain ⟨h1,h2⟩:=h.own
 refine ⟨h1, ?_⟩
 rcases h2 with h2 | ⟨g,cap,cur,e1,e2,e3,r⟩
 ·exact .inl h2
 ·exact .inr ⟨g,cap,cur,e1,e2,by rw [hb.block g (bG e3)];exact e3,r⟩
theorem sub_len (s:ByteArray) (a b:Nat) (h:b≤s.size):(sub s.toList a b).length=b-a:=by
 rw [←fV,yx,ext_size s a b h]
theorem conv_own {w:World} {base n:Nat} {v:Value} {ys:List UInt8} (h:w.ownsRow base 5 1 v n (mW ys)) (hl:ys.length=n):(convert 46 9 v).run Tryz.prog w=.ok (.string ⟨ys.toArray⟩) w:=by
 rcases h.2 with ⟨rfl,h0⟩ | ⟨g,cap,cur,rfl,_,hg,_,_,_,ht⟩
 ·have:ys=[]:=List.eq_nil_of_length_eq_zero om
  subst this
  exact run_convert_bytes_nil w 46 5 Tryz.underlying46 Tryz.underlying5 0 0 9 Tryz.underlying9
 ·have hc:=h.cells (g:=g) rfl
  have hadd:∀ j,(⟨g,0,none⟩:Addr).add j=⟨g,j,none⟩:=fun j=>by unfold Addr.add;split <;> simp_all
  have:=run_convert_bytes_arg (P:=Tryz.prog) w 46 5 Tryz.underlying46 Tryz.underlying5 g 0 n cap (ys.map fun c=>(c.toNat:Int)) (by simpa using hl) (fun i hi=>by
   have e:=hc i (.int .u8 ((ys.map fun c=>(c.toNat:Int)).getD i 0)) (by
    unfold mW
    rw [List.getElem?_map,List.getD_eq_getElem?_getD,List.getElem?_map,List.getElem?_eq_getElem om]
    rfl)
   rw [hadd] at e
   rw [Nat.zero_add];exact e) 9 Tryz.underlying9
  rw [this]
  have e:strOfNums (ys.map fun c=>(c.toNat:Int))=⟨ys.toArray⟩:=by
   unfold strOfNums
   rw [List.map_map]
   have:((fun n:Int=>UInt8.ofNat n.toNat) ∘ fun c:UInt8=>(c.toNat:Int))=id:=by funext c;simp
   rw [this,List.map_id]
  rw [e]
def jK (b k:Nat) (s:ByteArray) (ts:List Tok) (w:World) (ev:Ending) (w':World):Prop:=
 match txt (s.toList.drop (k+1)) with
 | (none,n)=>ev=.returned (.iface 57 (.agg #[.int .i64 ((k+1+n:Nat):Int)]))∧Below w.heap.size w w'
 | (some m,n)=>if 256<m.length then ev=.returned (.iface 57 (.agg #[.int .i64 k]))∧Below w.heap.size w w'
   else ev=.returned .nilIface∧∃ sv',St w' b s (k+1+n) sv' (ts++[⟨3,m,0,k⟩])∧Below b w w'
theorem tX {b k n:Nat} {s:ByteArray} {ts:List Tok} {w w':World} {p:Int} (h:txt (s.toList.drop (k+1))=(none,n)) (hp:p=((k+1+n:Nat):Int)) (hb:Below w.heap.size w w'):jK b k s ts w (.returned (.iface 57 (.agg #[.int .i64 p]))) w':=by
 unfold jK;rw [h];subst hp;exact ⟨rfl,hb⟩
theorem post_long {b k n:Nat} {m:List UInt8} {s:ByteArray} {ts:List Tok} {w w':World} (h:txt (s.toList.drop (k+1))=(some m,n)) (hm:256<m.length) (hb:Below w.heap.size w w'):jK b k s ts w (.returned (.iface 57 (.agg #[.int .i64 k]))) w':=by
 unfold jK;rw [h]
 show (if _ then _ else _)
 rw [if_pos hm];exact ⟨rfl,hb⟩
theorem post_some {b k n:Nat} {m:List UInt8} {s:ByteArray} {ts:List Tok} {w w':World} (h:txt (s.toList.drop (k+1))=(some m,n)) (hm:¬256<m.length) (sv':Value) (hst:St w' b s (k+1+n) sv' (ts++[⟨3,m,0,k⟩])) (hb:Below b w w'):jK b k s ts w (.returned .nilIface) w':=by
 unfold jK;rw [h]
 show (if _ then _ else _)
 rw [if_neg hm];exact ⟨rfl,sv',hst,hb⟩
theorem text_any (b k:Nat) (s:ByteArray) (sv:Value) (ts:List Tok) (w:World) (h:St w b s k sv ts) (hn:ts.length≤100000) (hs:s.size≤8192) (hk:k<s.size) :
 Calls Tryz.prog 48 #[.pointer (some ⟨b,0,none⟩)] w (jK b k s ts w):=by
 have hc:w.cell? ⟨b,0,none⟩=some (.string s):=zv h.blk 0
 have ha:w.cell? ⟨b,1,none⟩=some (.int .i64 k):=zv h.blk 1
 have hlt:=bG h.blk
 have H:=zm h
 clear h
 obtain ⟨i0,hi,hz0,hz1,hz2⟩:=info_parts Tryz.info5
 go_enter Tryz.func48,Tryz.ntmps48
 go_wp2
 go_loopw [3,4] (fun v i wr=>∃ (j:Nat) (xs:List UInt8),j≤s.size∧xs.length≤j∧i=.int .i64 j∧wr.ownsRow w.heap.size 5 1 v xs.length (mW xs)∧Below w.heap.size w wr∧jf s.toList (k+1) j xs) (fun _ i _=>s.size-(intOf i).toNat)
 case atStart=>exact ⟨k+1,[],hk,Nat.zero_le _,by go_num,World.ownsRow_nil _ _ _ _,Below.refl _ _,jf.start _ _⟩
 case round=>
  obtain ⟨j,xs,hj,hxl,rfl,hown,hbel,htx⟩:=hrel
  have c0:wr.cell? ⟨b,0,none⟩=some (.string s):=(hbel.cell (p:=⟨b,0,none⟩) hlt).trans hc
  have HT:=zm htx.run
  have HR:=zm (run_isPln b j s wr hs hj c0)
  have hE1:=re_ge dO s.toList j
  have hE2:=vK dO s j hj
  have HST:=zm (fun c h=>run_stop dO s.toList j c h)
  have HO:=zm hown
  have HB:=zm hbel
  clear htx hown hbel
  generalize yL dO s.toList j=E at *
  have h3:(j:Int)≤E:=om
  have h4:(E:Int)≤s.size:=om
  have h5:(0:Int)≤j:=om
  go_wp2_with (first | (go_at_call 41;refine (zk HR).mono ?_;rintro e w' ⟨rfl,hww⟩;have hw2:=hww.symm;clear hww;subst hw2) | (at_builtin;refine Lib.wpList_append_own_string _ rfl (.tmp 16) (.tmp 23) 46 9 rfl w.heap.size 5 i0 Tryz.underlying46 Tryz.underlying9 hi hz0 hz1 hz2 _ xs.length (mW xs) rfl (zk HO) (s.extract j E) rfl ?b1 ?b2 ?b3 ?next))
  case b1=>rw [ext_size s j E hE2];unfold maxLen;omega
  case b2=>rw [ext_size s j E hE2];omega
  case b3=>exact (zk HB).size
  case next=>
   intro v1 w1 hown1 hg1 hnil1
   clear hnil1
   rw [vN,←sW] at hown1
   have hyl:(xs++sub s.toList j E).length=xs.length+(E-j):=by rw [List.length_append,sub_len s j E hE2]
   rw [←hyl] at hown1
   have hye:(xs++sub s.toList j E).length≤E:=om
   clear hyl
   generalize xs++sub s.toList j E=ys at *
   have hbel1:Below w.heap.size w w1:=(zk HB).grown hg1 (zk HB).size (fun q hq=>((zk HO).lt q hq).1)
   have c1:w1.cell? ⟨b,0,none⟩=some (.string s):=(hbel1.cell (p:=⟨b,0,none⟩) hlt).trans hc
   have a1:w1.cell? ⟨b,1,none⟩=some (.int .i64 k):=(hbel1.cell (p:=⟨b,1,none⟩) hlt).trans ha
   obtain ⟨ao,cap,rfl⟩:=jV hown1
   have HO1:=zm hown1
   have HB1:=zm hbel1
   clear hown1 hbel1 hg1 c0
   by_cases hES:E<s.size
   ·have b1:((E:Int)==(s.size:Int))=false:=beq_eq_false_iff_ne.2 om
    have hgE:=fJ s E hES
    have h6:(E:Int)<s.size:=om
    have HGE:=zm hgE
    clear hgE
    by_cases hq:(s[E].toNat:Int)=34
    ·have q1:((s[E].toNat:Int)==34)=true:=beq_iff_eq.2 hq
     have HQ:Hid (s.toList[E]?=some 34):=by
      show _=_
      rw [zk HGE,byte_of (n:=34) hq]
     clear hq
     have HTX:=zm ((zk HT).close (zk HQ))
     by_cases hy:256<ys.length
     ·have y1:(256:Int)<ys.length:=om
      go_wp2_with fail
      go_ret
      exact post_long (zk HTX) hy (zk HB1)
     ·have y1:¬(256:Int)<ys.length:=om
      have hcv:=conv_own (qN (w':=w1.drew) rfl (zk HO1)) rfl
      go_wp2_with fail
      refine lN 9 zG zG ?_
      simp only [List.take_succ_cons,List.take_zero,List.drop_succ_cons,List.drop_zero]
      repeat still_step
      refine wpStill_nil ?_
      go_wp2_with fail
      refine (add_int b k (E+1) _ om s sv ts 3 0 k ⟨ys.toArray⟩ _ (by exact ((zk H).below (zk HB1)).heap rfl) hn).mono ?_
      rintro e w2 ⟨rfl,sv',hst,hbl⟩
      have HS:=zm hst
      have HBL:=zm hbl
      clear hst hbl
      go_wp2
      go_ret
      refine post_some (zk HTX) hy sv' ?_ ((((zk HB1).mono (Nat.le_of_lt hlt)).drew).trans (zk HBL))
      have e1:k+1+(E+1-(k+1))=E+1:=by have:=(zk HT).1;omega
      rw [e1]
      have e2:=zk HS
      rw [ByteArray.toList_mk] at e2
      exact e2
    ·have q1:((s[E].toNat:Int)==34)=false:=beq_eq_false_iff_ne.2 hq
     have HQ:Hid (s[E]≠34):=fun e=>hq (by rw [e];rfl)
     clear hq
     have HEV:=zm (escape_any b E s w1 hs hES c1)
     cases hes:kY s.toList E with
     | none=>
       rw [hes] at HEV
       have HTX:=zm ((zk HT).bad (zk HGE) (zk HST _ (zk HGE)) (zk HQ) hes)
       clear hes
       go_wp2_with (first | (go_at_call 69;refine (zk HEV).mono ?_;rintro e w' ⟨rfl,hww⟩;have hw2:=hww.symm;clear hww;subst hw2))
       go_ret
       exact tX (zk HTX) (by have:=(zk HT).1;omega) (zk HB1)
     | some x=>
       rw [hes] at HEV
       have HTX:=zm ((zk HT).esc hes)
       have hE2':E+1<s.size:=by
        rcases Nat.lt_or_ge (E+1) s.size with h | h
        ·exact h
        ·rw [esc_out s E om] at hes;cases hes
       clear hes
       go_wp2_with (first | (go_at_call 69;refine (zk HEV).mono ?_;rintro e w' ⟨rfl,hww⟩;have hw2:=hww.symm;clear hww;subst hw2) | (at_builtin;refine wpList_append_lies _ rfl (.tmp 55) (.tmp 57) 46 rfl w.heap.size 5 i0 (.int .u8 0) 1 1 Tryz.underlying46 hi hz0 hz1 hz2 rfl dc _ ys.length (mW ys) rfl ((zk HO1).alloc _) ⟨w1.heap.size,0,none⟩ 1 1 [.int .u8 x.toNat] rfl rfl ?c1 ?c2 dc ?d1 ?d2 ?d3 _ rfl ?next2))
       case c1=>intro q u hq;match q,hq with | 0,hq=>simp at hq;subst hq;simp [Addr.add]
       case c2=>intro u hu;simp at hu;subst hu;rfl
       case d1=>unfold maxLen;omega
       case d2=>omega
       case d3=>have:=(zk HB1).size;simp;omega
       case next2=>
        intro g2 cap2 w2 hown2 hgr2 _ _
        have hbel2:Below w.heap.size w w2:=((zk HB1).alloc (zk HB1).size _).grown hgr2 (by have:=(zk HB1).size;simp;omega) (fun q hq=>((zk HO1).lt q hq).1)
        have HO2:=zm hown2
        have HB2:=zm hbel2
        clear hown2 hbel2 hgr2
        go_wp2_with fail
        exact ⟨⟨E+2,ys++[x],om,by simp;omega,by go_num,by rw [sW,List.length_append];exact zk HO2,zk HB2,zk HTX⟩,by simp [intOf];omega⟩
   ·have b1:((E:Int)==(s.size:Int))=true:=beq_iff_eq.2 om
    have HTX:=zm ((zk HT).out (by rw [yx];omega))
    go_wp2_with fail
    go_ret
    exact tX (zk HTX) (by have:=(zk HT).1;omega) (zk HB1)
end Go.Proofs.YtgbjpnnockoomaaGreatDoor
