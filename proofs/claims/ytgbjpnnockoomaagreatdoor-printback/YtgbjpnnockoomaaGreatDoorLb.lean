import Derived.Test.YtgbjpnnockoomaaGreatDoorLaid
set_option linter.unusedVariables false
set_option linter.unusedSimpArgs false
set_option maxHeartbeats 4000000
set_option maxRecDepth 100000
namespace Go.Proofs.YtgbjpnnockoomaaGreatDoor.Pp
open Go.RowKit Lx Px
def ST (w0:World) (kids kb:List Tree) (ao ao2:Option Addr) (cp cp2 N M:Nat) (X:World):Prop:=Below w0.heap.size w0 X∧VT X∧Jj.aO X (.slice ao kids.length cp) kids∧Jj.aO X (.slice ao2 kb.length cp2) kb∧X.heap[N]?=some (.cells #[.int .i64 1,.string ⟨#[]⟩,.int .i64 0,.int .i64 0,.string ⟨#[]⟩,.int .i64 0,.slice ao kids.length cp] 25)∧X.heap[M]?=some (.cells #[.int .i64 1,.string ⟨#[]⟩,.int .i64 0,.int .i64 0,.string ⟨#[]⟩,.int .i64 0,.slice ao2 kb.length cp2] 25)∧X.heap[M+1]?=some (.cells #[.int .i64 0,.int .i64 0] 27)
theorem ST.on {w0:World} {kids kb:List Tree} {ao ao2:Option Addr} {cp cp2 N M:Nat} {X Y:World} (h:ST w0 kids kb ao ao2 cp cp2 N M X) (hb:Below X.heap.size X Y):ST w0 kids kb ao ao2 cp cp2 N M Y:=
 ⟨h.1.trans (hb.mono h.1.size),h.2.1.on hb,h.2.2.1.grown (grown_of rfl hb),h.2.2.2.1.grown (grown_of rfl hb),(hb.block _ (bG h.2.2.2.2.1)).trans h.2.2.2.2.1,(hb.block _ (bG h.2.2.2.2.2.1)).trans h.2.2.2.2.2.1,(hb.block _ (bG h.2.2.2.2.2.2)).trans h.2.2.2.2.2.2⟩
theorem cells2 {X:World} {M:Nat} {a b:Value} {t:TypeId} (h:X.heap[M]?=some (.cells #[a,b] t)):X.cell? ⟨M,0,none⟩=some a∧X.cell? ⟨M,1,none⟩=some b:=by simp [World.cell?,h]
theorem kbl {X Y:World} {kv:Value} {l:List Tree} (h:Jj.aO X kv l) (k:Below X.heap.size X Y):Jj.aO Y kv l:=h.grown (grown_of rfl k)
theorem same_kc (kids kc:List Tree) (h:kc=kids.map er) (X:World) (ao:Option Addr) (cp:Nat) (ao2:Option Addr) (cp2:Nat) (h3:Jj.aO X (.slice ao kc.length cp) kc) (h4:Jj.aO X (.slice ao2 kc.length cp2) kc):Calls Tryz.prog 7 #[.agg #[.int .i64 1,.string ⟨#[]⟩,.int .i64 0,.int .i64 0,.string ⟨#[]⟩,.int .i64 0,.slice ao kc.length cp],.agg #[.int .i64 1,.string ⟨#[]⟩,.int .i64 0,.int .i64 0,.string ⟨#[]⟩,.int .i64 0,.slice ao2 kc.length cp2]] X fun e w'=>e=.returned (.bool true)∧X.grownBy w' none:=by
 subst h
 exact Jj.same_w _ 1 [] 0 0 _ lr X ao ao2 cp cp2 h3 h4
theorem back_any (s:ByteArray) (w:World) (hv:VT w):Calls Tryz.prog 3 #[.string s] w fun e w'=>e=.returned (.bool true)∧Below w.heap.size w w':=by
 have HV:=zm hv
 clear hv
 go_enter Tryz.func3,Tryz.ntmps3
 go_wp2_with fail
 refine (anchor_any _ (zk HV)).mono ?_
 rintro e w1 ⟨rfl,B1⟩
 have HV1:=zm ((zk HV).on B1)
 by_cases hs:s.size≤4000
 ·have hsz:¬(4000:Int)<(s.size:Int):=om
  have HP:=zm (Parse4 s w1 (zk HV1) hs)
  go_wp2_with fail
  refine (zk HP).mono ?_
  rintro e w2 ⟨B2,hp⟩
  have B3:Below w.heap.size w w2:=B1.trans (B2.mono B1.size)
  rcases hp with ⟨kids,ao,cp,st,k',rfl,hk,ht,h0,hr⟩ | ⟨a,b,rfl,ha,hn⟩
  ·have HPB:=zm (fun X hX=>Parse_back (by rw [yx];exact hs) h0 hr ht X hX)
   have HFi:=zm (fun X ao2 cp2 (hX:VT X) hk2=>ul X 1 [] 0 0 kids ao2 cp2 hk2 hX.2 ht.1 ht.2.1)
   have HT:=zm ht
   have HV2:=zm ((zk HV1).on B2)
   have HB3:=zm B3
   have HK:=zm hk
   obtain ⟨S,hS⟩:∃ S:ByteArray,S=⟨(prt (.mk 1 [] 0 0 kids)).toArray⟩:=⟨_,rfl⟩
   have HSz:Hid (S.size=(prt (.mk 1 [] 0 0 kids)).length):=by rw [hS];rfl
   have HS0:=zm hS
   simp only [←hS] at HPB HFi
   clear HP h0 hr ht hk hS B3
   go_wp2_with fail
   have B4:Below w2.heap.size w2 ((w2.alloc (.cells #[.int .i64 1,.string ⟨#[]⟩,.int .i64 0,.int .i64 0,.string ⟨#[]⟩,.int .i64 0,.slice ao kids.length cp] 25)).alloc (.cells #[.int .i64 0,.int .i64 0] 27)):=((Below.refl _ _).alloc lr _).alloc zK _
   have hvW:=(zk HV2).on B4
   have hkW:=(zk HK).grown (grown_of rfl B4)
   have bnW:((w2.alloc (.cells #[.int .i64 1,.string ⟨#[]⟩,.int .i64 0,.int .i64 0,.string ⟨#[]⟩,.int .i64 0,.slice ao kids.length cp] 25)).alloc (.cells #[.int .i64 0,.int .i64 0] 27)).heap[w2.heap.size]?=some (.cells #[.int .i64 1,.string ⟨#[]⟩,.int .i64 0,.int .i64 0,.string ⟨#[]⟩,.int .i64 0,.slice ao kids.length cp] 25):=fF (yW _ _ rfl) _
   have HX:=zm (And.intro ((zk HB3).trans (B4.mono (zk HB3).size)) (And.intro hvW (And.intro hkW bnW)))
   have zW:w2.heap.size<((w2.alloc (.cells #[.int .i64 1,.string ⟨#[]⟩,.int .i64 0,.int .i64 0,.string ⟨#[]⟩,.int .i64 0,.slice ao kids.length cp] 25)).alloc (.cells #[.int .i64 0,.int .i64 0] 27)).heap.size:=by simp;omega
   have HF:=zm (zk HFi _ ao cp hvW hkW)
   clear hvW hkW bnW B4
   refine (zk HF).mono ?_
   clear HF
   generalize ((w2.alloc (.cells #[.int .i64 1,.string ⟨#[]⟩,.int .i64 0,.int .i64 0,.string ⟨#[]⟩,.int .i64 0,.slice ao kids.length cp] 25)).alloc (.cells #[.int .i64 0,.int .i64 0] 27))=X2 at *
   rintro e w3 ⟨rfl,g3⟩
   have hb3:=blw g3
   have z3:=g3.size
   have HX3:=zm (And.intro ((zk HX).1.trans (hb3.mono (zk HX).1.size)) (And.intro ((zk HX).2.1.on hb3) (And.intro ((zk HX).2.2.1.grown g3) ((hb3.block _ zW).trans (zk HX).2.2.2))))
   have zW3:w2.heap.size<w3.heap.size:=om
   have HQ:=zm (zk HPB w3 (zk HX3).2.1)
   clear HX hb3 g3 z3 zW
   go_wp2_with fail
   refine (zk HQ).mono ?_
   clear HQ
   rintro e w4 ⟨B5,hq⟩
   have HX4:=zm (And.intro ((zk HX3).1.trans (B5.mono (zk HX3).1.size)) (And.intro ((zk HX3).2.1.on B5) (And.intro ((zk HX3).2.2.1.grown (grown_of rfl B5)) ((B5.block _ zW3).trans (zk HX3).2.2.2))))
   have zW4:w2.heap.size<w4.heap.size:=Nat.lt_of_lt_of_le zW3 B5.size
   clear HX3 B5
   rcases hq with ⟨kb,ao2,cp2,rfl,hk2,ht2,hpr,hme⟩ | ⟨b,rfl,hb8⟩ | ⟨b,rfl⟩
   ·have B6:Below w4.heap.size w4 ((w4.alloc (.cells #[.int .i64 1,.string ⟨#[]⟩,.int .i64 0,.int .i64 0,.string ⟨#[]⟩,.int .i64 0,.slice ao2 kb.length cp2] 25)).alloc (.cells #[.int .i64 0,.int .i64 0] 27)):=((Below.refl _ _).alloc lr _).alloc zK _
    have hz:ST w kids kb ao ao2 cp cp2 w2.heap.size w4.heap.size ((w4.alloc (.cells #[.int .i64 1,.string ⟨#[]⟩,.int .i64 0,.int .i64 0,.string ⟨#[]⟩,.int .i64 0,.slice ao2 kb.length cp2] 25)).alloc (.cells #[.int .i64 0,.int .i64 0] 27)):=⟨(zk HX4).1.trans (B6.mono (zk HX4).1.size),(zk HX4).2.1.on B6,(zk HX4).2.2.1.grown (grown_of rfl B6),hk2.grown (grown_of rfl B6),(B6.block _ zW4).trans (zk HX4).2.2.2,fF (yW _ _ rfl) _,yW _ _ (by simp)⟩
    have HZ:=zm hz
    obtain ⟨c0,c1,c2,c3,c4,c5,c6⟩:=gV hz.2.2.2.2.1;obtain ⟨d0,d1,d2,d3,d4,d5,d6⟩:=gV hz.2.2.2.2.2.1;obtain ⟨f0,f1⟩:=cells2 hz.2.2.2.2.2.2
    have HTk:=zm ht2
    obtain ⟨kc,hkc⟩:∃ kc,kc=kids.map er:=⟨_,rfl⟩
    have hkc2:kc=kb.map er:=by rw [hkc,hme]
    have H8n:Hid (∀ X,ST w kids kb ao ao2 cp cp2 w2.heap.size w4.heap.size X→Calls Tryz.prog 8 #[.agg #[.int .i64 1,.string ⟨#[]⟩,.int .i64 0,.int .i64 0,.string ⟨#[]⟩,.int .i64 0,.slice ao kids.length cp]] X fun e w'=>∃ ao3 cp3,e=.returned (.agg #[.int .i64 1,.string ⟨#[]⟩,.int .i64 0,.int .i64 0,.string ⟨#[]⟩,.int .i64 0,.slice ao3 kc.length cp3])∧ST w kids kb ao ao2 cp cp2 w2.heap.size w4.heap.size w'∧Jj.aO w' (.slice ao3 kc.length cp3) kc):=by
     intro X h
     subst hkc
     refine (Jj.bare_w _ 1 [] 0 0 kids lr (zk HT).2.2 X ao cp h.2.2.1).mono ?_
     rintro e w' ⟨g,ao3,cp3,rfl,row⟩
     exact ⟨ao3,cp3,rfl,h.on (blw g),Jj.aO.of row lr⟩
    have H8m:Hid (∀ X,ST w kids kb ao ao2 cp cp2 w2.heap.size w4.heap.size X→Calls Tryz.prog 8 #[.agg #[.int .i64 1,.string ⟨#[]⟩,.int .i64 0,.int .i64 0,.string ⟨#[]⟩,.int .i64 0,.slice ao2 kb.length cp2]] X fun e w'=>∃ ao3 cp3,e=.returned (.agg #[.int .i64 1,.string ⟨#[]⟩,.int .i64 0,.int .i64 0,.string ⟨#[]⟩,.int .i64 0,.slice ao3 kc.length cp3])∧ST w kids kb ao ao2 cp cp2 w2.heap.size w4.heap.size w'∧Jj.aO w' (.slice ao3 kc.length cp3) kc∧Below X.heap.size X w'):=by
     intro X h
     rw [hkc2]
     refine (Jj.bare_w _ 1 [] 0 0 kb lr (zk HTk).2.2 X ao2 cp2 h.2.2.2.1).mono ?_
     rintro e w' ⟨g,ao3,cp3,rfl,row⟩
     exact ⟨ao3,cp3,rfl,h.on (blw g),Jj.aO.of row lr,blw g⟩
    have H7:Hid (∀ X ao3 cp3 ao4 cp4,ST w kids kb ao ao2 cp cp2 w2.heap.size w4.heap.size X→Jj.aO X (.slice ao3 kc.length cp3) kc→Jj.aO X (.slice ao4 kc.length cp4) kc→Calls Tryz.prog 7 #[.agg #[.int .i64 1,.string ⟨#[]⟩,.int .i64 0,.int .i64 0,.string ⟨#[]⟩,.int .i64 0,.slice ao3 kc.length cp3],.agg #[.int .i64 1,.string ⟨#[]⟩,.int .i64 0,.int .i64 0,.string ⟨#[]⟩,.int .i64 0,.slice ao4 kc.length cp4]] X fun e w'=>e=.returned (.bool true)∧ST w kids kb ao ao2 cp cp2 w2.heap.size w4.heap.size w'):=by
     intro X ao3 cp3 ao4 cp4 h h3 h4
     refine (same_kc kids kc hkc X ao3 cp3 ao4 cp4 h3 h4).mono ?_
     rintro e w' ⟨rfl,g⟩
     exact ⟨rfl,h.on (blw g)⟩
    have H6:Hid (∀ X,ST w kids kb ao ao2 cp cp2 w2.heap.size w4.heap.size X→Calls Tryz.prog 6 #[.agg #[.int .i64 1,.string ⟨#[]⟩,.int .i64 0,.int .i64 0,.string ⟨#[]⟩,.int .i64 0,.slice ao2 kb.length cp2]] X fun e w'=>e=.returned (.string S)∧ST w kids kb ao ao2 cp cp2 w2.heap.size w4.heap.size w'):=by
     intro X h
     refine (ul X 1 [] 0 0 kb ao2 cp2 h.2.2.2.1 h.2.1.2 (zk HTk).1 (zk HTk).2.1).mono ?_
     rintro e w' ⟨rfl,g⟩
     exact ⟨by rw [hpr,←zk HS0],h.on (blw g)⟩
    have zN:¬w2.heap.size=w4.heap.size:=om
    have zN2:¬w4.heap.size=w2.heap.size:=om
    clear hz B6 HX4 hk2 ht2 hkc hkc2 hpr hme
    go_wp2_with fail
    generalize ((w4.alloc (.cells #[.int .i64 1,.string ⟨#[]⟩,.int .i64 0,.int .i64 0,.string ⟨#[]⟩,.int .i64 0,.slice ao2 kb.length cp2] 25)).alloc (.cells #[.int .i64 0,.int .i64 0] 27))=X4 at *
    go_region_law (first
     | (go_simp;go_at_call 8;(with_reducible show Calls Tryz.prog 8 #[.agg #[.int .i64 1,.string ⟨#[]⟩,.int .i64 0,.int .i64 0,.string ⟨#[]⟩,.int .i64 0,.slice ao kids.length cp]] _ _);refine (zk H8n _ ((zk HZ).on (by (repeat' (first | exact Below.refl _ _ | refine Below.drew ?_))))).mono ?_;rintro e w5 ⟨ao5,cp5,rfl,hz,hk5⟩;have HZ:=zm hz;have HK5:=zm hk5;obtain ⟨c0,c1,c2,c3,c4,c5,c6⟩:=gV hz.2.2.2.2.1;obtain ⟨d0,d1,d2,d3,d4,d5,d6⟩:=gV hz.2.2.2.2.2.1;obtain ⟨f0,f1⟩:=cells2 hz.2.2.2.2.2.2;clear hz hk5)
     | (go_simp;go_at_call 8;(with_reducible show Calls Tryz.prog 8 #[.agg #[.int .i64 1,.string ⟨#[]⟩,.int .i64 0,.int .i64 0,.string ⟨#[]⟩,.int .i64 0,.slice ao2 kb.length cp2]] _ _);refine (zk H8m _ ((zk HZ).on (by (repeat' (first | exact Below.refl _ _ | refine Below.drew ?_))))).mono ?_;rintro e w6 ⟨ao6,cp6,rfl,hz,hk6,hb6⟩;have HK5:=zm (kbl (kbl (zk HK5) (by (repeat' (first | exact Below.refl _ _ | refine Below.drew ?_)))) hb6);have HZ:=zm hz;have HK6:=zm hk6;obtain ⟨c0,c1,c2,c3,c4,c5,c6⟩:=gV hz.2.2.2.2.1;obtain ⟨d0,d1,d2,d3,d4,d5,d6⟩:=gV hz.2.2.2.2.2.1;obtain ⟨f0,f1⟩:=cells2 hz.2.2.2.2.2.2;clear hz hk6 hb6)
     | (go_simp;go_at_call 7;refine (zk H7 _ ao5 cp5 ao6 cp6 ((zk HZ).on (by (repeat' (first | exact Below.refl _ _ | refine Below.drew ?_)))) (kbl (zk HK5) (by (repeat' (first | exact Below.refl _ _ | refine Below.drew ?_)))) (kbl (zk HK6) (by (repeat' (first | exact Below.refl _ _ | refine Below.drew ?_))))).mono ?_;rintro e w7 ⟨rfl,hz⟩;have HZ:=zm hz;obtain ⟨c0,c1,c2,c3,c4,c5,c6⟩:=gV hz.2.2.2.2.1;obtain ⟨d0,d1,d2,d3,d4,d5,d6⟩:=gV hz.2.2.2.2.2.1;obtain ⟨f0,f1⟩:=cells2 hz.2.2.2.2.2.2;clear hz)
     | (go_simp;go_at_call 6;refine (zk H6 _ ((zk HZ).on (by (repeat' (first | exact Below.refl _ _ | refine Below.drew ?_))))).mono ?_;rintro e w8 ⟨rfl,hz⟩;have HZ:=zm hz;obtain ⟨c0,c1,c2,c3,c4,c5,c6⟩:=gV hz.2.2.2.2.1;obtain ⟨d0,d1,d2,d3,d4,d5,d6⟩:=gV hz.2.2.2.2.2.1;obtain ⟨f0,f1⟩:=cells2 hz.2.2.2.2.2.2;clear hz))
    all_goals
     go_wp2
     exact bodyPost_ret (v:=.bool true) (by simp [results,Tryz.results3,go_sem]) rfl ⟨rfl,((zk HZ).on (by (repeat' (first | exact Below.refl _ _ | refine Below.drew ?_)))).1⟩
   ·have h8:(8192:Int)<S.size:=by rw [zk HSz];omega
    have HE:=zm (zk HX4).1
    clear HX4
    go_wp2
    exact bodyPost_ret (v:=.bool true) (by simp [results,Tryz.results3,go_sem]) rfl ⟨rfl,((zk HE).alloc (zk HE).size _).alloc (by have:=(zk HE).size;simp;omega) _⟩
   ·have HE:=zm (zk HX4).1
    clear HX4
    go_wp2
    exact bodyPost_ret (v:=.bool true) (by simp [results,Tryz.results3,go_sem]) rfl ⟨rfl,((zk HE).alloc (zk HE).size _).alloc (by have:=(zk HE).size;simp;omega) _⟩
  ·have hab:¬(a=0∧b=0):=fun h=>ha h.1
   have hba:(b=0∧a=0)=False:=ef fun h=>ha h.2
   clear HP hn
   go_wp2
   exact bodyPost_ret (v:=.bool true) (by simp [results,Tryz.results3,go_sem]) rfl ⟨rfl,(B3.alloc B3.size _).alloc (by have:=B3.size;simp;omega) _⟩
 ·have hsz:(4000:Int)<(s.size:Int):=om
  go_wp2
  exact bodyPost_ret (v:=.bool true) (by simp [results,Tryz.results3,go_sem]) rfl ⟨rfl,B1⟩
end Go.Proofs.YtgbjpnnockoomaaGreatDoor.Pp
