import Derived.Test.YtgbjpnnockoomaaGreatDoorChecked
import Derived.Test.YtgbjpnnockoomaaGreatDoorParP
import Derived.WalkKit
import Derived.WalkSpells
import Derived.WalkLawsBesides
import Derived.Deep.QuietTactic
import Derived.BigQuiet
set_option maxHeartbeats 1000000
set_option maxRecDepth 100000
set_option maxHeartbeats 400000
namespace Go.Proofs.YtgbjpnnockoomaaGreatDoor
open Go.RowKit Lx
theorem zm {p:Prop} (h:p):Hid p:=h
theorem zk {p:Prop} (h:Hid p):p:=h
theorem eX {a b:Bool} (h:a=b):Ending.returned (.bool a)=.returned (.bool b):=by rw [h]
theorem kD (n:Int) (w:World) (h0:0≤n) (h1:n≤255) :
 Calls Tryz.prog 43 #[.int .u8 n] w fun e w'=>e=.returned (.bool (letZ n))∧w'=w:=by
 go_enter Tryz.func43,Tryz.ntmps43
 go_wp2
 all_goals
  go_ret
  exact ⟨eX (by rw [Bool.eq_iff_iff];simp [letZ];omega),rfl⟩
theorem lq (n:Int) (w:World) (h0:0≤n) (h1:n≤255) :
 Calls Tryz.prog 46 #[.int .u8 n] w fun e w'=>e=.returned (.bool (digZ n))∧w'=w:=by
 go_enter Tryz.func46,Tryz.ntmps46
 go_wp2
 all_goals
  go_ret
  exact ⟨eX (by rw [Bool.eq_iff_iff];simp [digZ];omega),rfl⟩
theorem isPlain_any (n:Int) (w:World) (h0:0≤n) (h1:n≤255) :
 Calls Tryz.prog 68 #[.int .u8 n] w fun e w'=>e=.returned (.bool (plnZ n))∧w'=w:=by
 go_enter Tryz.func68,Tryz.ntmps68
 go_wp2
 all_goals
  go_ret
  exact ⟨eX (by rw [Bool.eq_iff_iff];simp [plnZ];omega),rfl⟩
theorem tV (n:Int) (w:World) :
 Calls Tryz.prog 42 #[.int .u8 n] w fun e w'=>e=.returned (.bool (!decide (n=10)))∧w'=w:=by
 go_enter Tryz.func42,Tryz.ntmps42
 go_wp2
 go_ret
 exact ⟨eX (by rw [Bool.eq_iff_iff];simp),rfl⟩
theorem isNam_any (n:Int) (w:World) (h0:0≤n) (h1:n≤255) :
 Calls Tryz.prog 66 #[.int .u8 n] w fun e w'=>e=.returned (.bool (letZ n||digZ n))∧w'=w:=by
 go_enter Tryz.func66,Tryz.ntmps66
 by_cases hl:letZ n=true
 ·go_wp2_with (first | (go_at_call 43;refine (kD _ _ h0 h1).mono ?_;rintro e w' ⟨rfl,rfl⟩) | (go_at_call 46;refine (lq _ _ h0 h1).mono ?_;rintro e w' ⟨rfl,rfl⟩))
  go_ret
  exact ⟨eX (by rw [hl];rfl),rfl⟩
 ·have hf:letZ n=false:=by simpa using hl
  clear hl
  go_wp2_with (first | (go_at_call 43;refine (kD _ _ h0 h1).mono ?_;rintro e w' ⟨rfl,rfl⟩) | (go_at_call 46;refine (lq _ _ h0 h1).mono ?_;rintro e w' ⟨rfl,rfl⟩))
  go_ret
  exact ⟨eX (by rw [hf];rfl),rfl⟩
theorem gu (s:ByteArray) (w:World) :
 Calls Tryz.prog 87 #[.string s] w fun e w'=>e=.returned (.bool (kE s.toList))∧w'=w:=by
 go_enter Tryz.func87,Tryz.ntmps87
 go_wp2
 all_goals
  go_ret
  exact ⟨eX (by simp_all [kE,iJ]),rfl⟩
theorem uX (s:ByteArray) (w:World) :
 Calls Tryz.prog 72 #[.string s] w fun e w'=>e=.returned (.bool (uY s.toList))∧w'=w:=by
 go_enter Tryz.func72,Tryz.ntmps72
 go_wp2
 all_goals
  go_ret
  exact ⟨eX (by simp_all [uY,endMarks]),rfl⟩
theorem vW (s:ByteArray) (w:World) :
 Calls Tryz.prog 71 #[.string s] w fun e w'=>e=.returned (.bool (oO s.toList))∧w'=w:=by
 go_enter Tryz.func71,Tryz.ntmps71
 go_wp2
 all_goals
  go_ret
  exact ⟨eX (by simp_all [oO,endWords]),rfl⟩
theorem qj (s:ByteArray) (w:World) :
 Calls Tryz.prog 67 #[.string s] w fun e w'=>e=.returned (.bool (eu s.toList))∧w'=w:=by
 go_enter Tryz.func67,Tryz.ntmps67
 go_wp2
 all_goals
  go_ret
  exact ⟨eX (by simp_all [eu,wordList]),rfl⟩
theorem kQ (p:ByteArray) (w:World) :
 Calls Tryz.prog 44 #[.string p,.nilIface] w fun e w'=>e=.returned .nilIface∧w'=w:=by
 go_enter Tryz.func44,Tryz.ntmps44
 go_wp2
 go_ret
 exact ⟨rfl,rfl⟩
theorem kP (p:ByteArray) (v:Value) (w:World) :
 Calls Tryz.prog 44 #[.string p,.iface 57 v] w fun e w'=>e=.returned (.iface 118 (.agg #[.string p,.iface 57 v]))∧w'=w:=by
 go_enter Tryz.func44,Tryz.ntmps44
 go_wp2
 go_ret
 exact ⟨rfl,rfl⟩
open Go.RowKit Lx
theorem iQ {k:IntKind} {a b:Int} (h:a=b):Ending.returned (.int k a)=.returned (.int k b):=by rw [h]
theorem isNam_b (c:UInt8) (w:World):Calls Tryz.prog 66 #[.int .u8 c.toNat] w fun e w'=>e=.returned (.bool (bH c))∧w'=w:=
 isNam_any _ w om (by have:=c.toNat_lt;omega)
theorem fQ (c:UInt8) (w:World):Calls Tryz.prog 46 #[.int .u8 c.toNat] w fun e w'=>e=.returned (.bool (aG c))∧w'=w:=
 lq _ w om (by have:=c.toNat_lt;omega)
theorem tC (c:UInt8) (w:World):Calls Tryz.prog 68 #[.int .u8 c.toNat] w fun e w'=>e=.returned (.bool (dO c))∧w'=w:=
 isPlain_any _ w om (by have:=c.toNat_lt;omega)
theorem cZ (c:UInt8) (w:World):Calls Tryz.prog 43 #[.int .u8 c.toNat] w fun e w'=>e=.returned (.bool (isLet c))∧w'=w:=
 kD _ w om (by have:=c.toNat_lt;omega)
theorem run_notNl (b k:Nat) (s:ByteArray) (w:World) (hs:s.size≤8192) (hk:k≤s.size) (hc:w.cell? ⟨b,0,none⟩=some (.string s)) :
 Calls Tryz.prog 41 #[.pointer (some ⟨b,0,none⟩),.int .i64 k,.func (.func 42) #[] #[]] w fun e w'=>e=.returned (.int .i64 (yL lK s.toList k))∧w'=w:=by
 go_enter Tryz.func41,Tryz.ntmps41
 go_wp2
 go_loop [1] (fun t=>∃ j:Nat,j≤s.size∧t=.int .i64 j∧yL lK s.toList j=yL lK s.toList k) (fun t=>s.size-(intOf t).toNat)
 case atStart=>exact ⟨k,hk,rfl,rfl⟩
 case round=>
  obtain ⟨j,hj,rfl,hr⟩:=hrel
  have HR:=zm hr
  clear hr
  by_cases hlt:j<s.size
  ·have H1:=zm (lU lK s j hlt)
   have H2:=zm (nY lK s j hlt)
   go_wp2_with (first | (go_at_call 42;refine (tV _ _).mono ?_;rintro e w' ⟨rfl,rfl⟩))
   ·go_round
    case rel=>exact ⟨j+1,om,by go_num,(zk H1 zf).trans (zk HR)⟩
    case measure=>simp [intOf];omega
   ·go_ret
    exact ⟨iQ (by rw [←zk HR,zk H2 zf]),rfl⟩
  ·have H3:=zm (pY lK s j om)
   go_wp2_with (first | (go_at_call 42;refine (tV _ _).mono ?_;rintro e w' ⟨rfl,rfl⟩))
   go_ret
   exact ⟨iQ (by rw [←zk HR,zk H3]),rfl⟩
theorem tZ (b k:Nat) (s:ByteArray) (w:World) (hs:s.size≤8192) (hk:k≤s.size) (hc:w.cell? ⟨b,0,none⟩=some (.string s)) :
 Calls Tryz.prog 41 #[.pointer (some ⟨b,0,none⟩),.int .i64 k,.func (.func 66) #[] #[]] w fun e w'=>e=.returned (.int .i64 (yL bH s.toList k))∧w'=w:=by
 go_enter Tryz.func41,Tryz.ntmps41
 go_wp2
 go_loop [1] (fun t=>∃ j:Nat,j≤s.size∧t=.int .i64 j∧yL bH s.toList j=yL bH s.toList k) (fun t=>s.size-(intOf t).toNat)
 case atStart=>exact ⟨k,hk,rfl,rfl⟩
 case round=>
  obtain ⟨j,hj,rfl,hr⟩:=hrel
  have HR:=zm hr
  clear hr
  by_cases hlt:j<s.size
  ·have H1:=zm (lU bH s j hlt)
   have H2:=zm (nY bH s j hlt)
   go_wp2_with (first | (go_at_call 66;refine (isNam_b _ _).mono ?_;rintro e w' ⟨rfl,rfl⟩))
   ·go_round
    case rel=>exact ⟨j+1,om,by go_num,(zk H1 zf).trans (zk HR)⟩
    case measure=>simp [intOf];omega
   ·go_ret
    exact ⟨iQ (by rw [←zk HR,zk H2 zf]),rfl⟩
  ·have H3:=zm (pY bH s j om)
   go_wp2_with (first | (go_at_call 66;refine (isNam_b _ _).mono ?_;rintro e w' ⟨rfl,rfl⟩))
   go_ret
   exact ⟨iQ (by rw [←zk HR,zk H3]),rfl⟩
theorem iD (b k:Nat) (s:ByteArray) (w:World) (hs:s.size≤8192) (hk:k≤s.size) (hc:w.cell? ⟨b,0,none⟩=some (.string s)) :
 Calls Tryz.prog 41 #[.pointer (some ⟨b,0,none⟩),.int .i64 k,.func (.func 46) #[] #[]] w fun e w'=>e=.returned (.int .i64 (yL aG s.toList k))∧w'=w:=by
 go_enter Tryz.func41,Tryz.ntmps41
 go_wp2
 go_loop [1] (fun t=>∃ j:Nat,j≤s.size∧t=.int .i64 j∧yL aG s.toList j=yL aG s.toList k) (fun t=>s.size-(intOf t).toNat)
 case atStart=>exact ⟨k,hk,rfl,rfl⟩
 case round=>
  obtain ⟨j,hj,rfl,hr⟩:=hrel
  have HR:=zm hr
  clear hr
  by_cases hlt:j<s.size
  ·have H1:=zm (lU aG s j hlt)
   have H2:=zm (nY aG s j hlt)
   go_wp2_with (first | (go_at_call 46;refine (fQ _ _).mono ?_;rintro e w' ⟨rfl,rfl⟩))
   ·go_round
    case rel=>exact ⟨j+1,om,by go_num,(zk H1 zf).trans (zk HR)⟩
    case measure=>simp [intOf];omega
   ·go_ret
    exact ⟨iQ (by rw [←zk HR,zk H2 zf]),rfl⟩
  ·have H3:=zm (pY aG s j om)
   go_wp2_with (first | (go_at_call 46;refine (fQ _ _).mono ?_;rintro e w' ⟨rfl,rfl⟩))
   go_ret
   exact ⟨iQ (by rw [←zk HR,zk H3]),rfl⟩
theorem run_isPln (b k:Nat) (s:ByteArray) (w:World) (hs:s.size≤8192) (hk:k≤s.size) (hc:w.cell? ⟨b,0,none⟩=some (.string s)) :
 Calls Tryz.prog 41 #[.pointer (some ⟨b,0,none⟩),.int .i64 k,.func (.func 68) #[] #[]] w fun e w'=>e=.returned (.int .i64 (yL dO s.toList k))∧w'=w:=by
 go_enter Tryz.func41,Tryz.ntmps41
 go_wp2
 go_loop [1] (fun t=>∃ j:Nat,j≤s.size∧t=.int .i64 j∧yL dO s.toList j=yL dO s.toList k) (fun t=>s.size-(intOf t).toNat)
 case atStart=>exact ⟨k,hk,rfl,rfl⟩
 case round=>
  obtain ⟨j,hj,rfl,hr⟩:=hrel
  have HR:=zm hr
  clear hr
  by_cases hlt:j<s.size
  ·have H1:=zm (lU dO s j hlt)
   have H2:=zm (nY dO s j hlt)
   go_wp2_with (first | (go_at_call 68;refine (tC _ _).mono ?_;rintro e w' ⟨rfl,rfl⟩))
   ·go_round
    case rel=>exact ⟨j+1,om,by go_num,(zk H1 zf).trans (zk HR)⟩
    case measure=>simp [intOf];omega
   ·go_ret
    exact ⟨iQ (by rw [←zk HR,zk H2 zf]),rfl⟩
  ·have H3:=zm (pY dO s j om)
   go_wp2_with (first | (go_at_call 68;refine (tC _ _).mono ?_;rintro e w' ⟨rfl,rfl⟩))
   go_ret
   exact ⟨iQ (by rw [←zk HR,zk H3]),rfl⟩
theorem jL (k n a:Int) (s:ByteArray) (w:World) :
 Calls Tryz.prog 50 #[.agg #[.int .i64 k,.string s,.int .i64 n,.int .i64 a]] w fun e w'=>e=.returned (.bool (dX k s.toList))∧w'=w.alloc (.cells #[.int .i64 k,.string s,.int .i64 n,.int .i64 a] 85):=by
 go_enter Tryz.func50,Tryz.ntmps50
 go_wp2_with (first | (go_at_call 71;refine (vW _ _).mono ?_;rintro e w' ⟨rfl,rfl⟩) | (go_at_call 72;refine (uX _ _).mono ?_;rintro e w' ⟨rfl,rfl⟩))
 all_goals
  go_ret
  exact ⟨eX (by simp_all [dX]),rfl⟩
open Go.RowKit Lx
theorem fV (s:ByteArray) (a b:Nat):(s.extract a b).toList=sub s.toList a b:=by
 unfold sub
 rw [ByteArray.toList_eq,ByteArray.toList_eq,Lib.extract_data]
theorem cmt_of (s:ByteArray) (k:Nat):((s.extract k (k+2)).toList==[47,47])=cmt s.toList k:=by
 rw [fV s k (k+2)]
 simp [cmt,sub]
theorem cmt_no (s:ByteArray) (k:Nat) (h:s.size≤k+1):false=cmt s.toList k:=by
 have hl:((s.toList.drop k).take 2).length≤1:=by rw [List.length_take,List.length_drop,yx];omega
 unfold cmt
 generalize (s.toList.drop k).take 2=t at hl
 match t,hl with
 | [],_=>rfl
 | [x],_=>simp
theorem eF (b k:Nat) (s:ByteArray) (w:World) (hs:s.size≤8192) (hk:k<s.size) (hc:w.cell? ⟨b,0,none⟩=some (.string s)) (ha:w.cell? ⟨b,1,none⟩=some (.int .i64 k)) :
 Calls Tryz.prog 40 #[.pointer (some ⟨b,0,none⟩)] w fun e w'=>e=.returned (.bool (cmt s.toList k))∧∃ n,w'=w.drewN n:=by
 by_cases hlt:k+1<s.size
 ·have h1:(k:Int)+1<s.size:=om
  go_enter Tryz.func40,Tryz.ntmps40
  go_wp2
  go_quiet (fail)
  go_wp2
  go_ret
  exact ⟨eX (cmt_of s k),_,rfl⟩
 ·have h1:decide ((k:Int)+1<s.size)=false:=by simp;omega
  go_enter Tryz.func40,Tryz.ntmps40
  go_wp2
  go_quiet (fail)
  go_wp2
  go_ret
  exact ⟨eX (cmt_no s k om),_,rfl⟩
theorem byte_of {c n:UInt8} (h:(c.toNat:Int)=(n.toNat:Int)):c=n:=UInt8.toNat_inj.1 om
theorem ji {c n:UInt8} (h:¬(c.toNat:Int)=(n.toNat:Int)):¬some c=some n:=fun e=>h (by rw [Option.some.inj e])
theorem pW {c n:UInt8} (h:(c.toNat:Int)=(n.toNat:Int)):some c=some n:=by rw [byte_of h]
theorem esc_off (s:ByteArray) (k:Nat) (hk:k<s.size) (h:¬(s[k].toNat:Int)=92):kY s.toList k=none:=by
 unfold kY;rw [fJ s k hk,if_neg (ji (n:=92) h)]
theorem esc_out (s:ByteArray) (k:Nat) (hlt:¬k+1<s.size):kY s.toList k=none:=by
 have h:s.toList[k+1]?=none:=List.getElem?_eq_none (by rw [yx];omega)
 unfold kY;rw [h];simp
theorem esc_on (s:ByteArray) (k:Nat) (hk:k<s.size) (hlt:k+1<s.size) (h:(s[k].toNat:Int)=92):kY s.toList k=if some s[k+1]=some 110 then some 10 else if some s[k+1]=some 34 then some 34 else if some s[k+1]=some 92 then some 92 else none:=by
 unfold kY;rw [fJ s k hk,if_pos (pW (n:=92) h),fJ s (k+1) hlt]
theorem escape_any (b k:Nat) (s:ByteArray) (w:World) (hs:s.size≤8192) (hk:k<s.size) (hc:w.cell? ⟨b,0,none⟩=some (.string s)) :
 Calls Tryz.prog 69 #[.pointer (some ⟨b,0,none⟩),.int .i64 k] w fun e w'=>e=.returned (.tuple #[.int .u8 (((kY s.toList k).getD 0).toNat:Int),.bool (kY s.toList k).isSome])∧w'=w:=by
 have E0:=zm (esc_off s k hk)
 by_cases hlt:k+1<s.size
 ·have E1:=zm (esc_on s k hk hlt)
  go_enter Tryz.func69,Tryz.ntmps69
  go_wp2
  ·go_ret2
   have e:kY s.toList k=some 10:=by rw [zk E1 zf,if_pos (pW (n:=110) (eq_of_beq zf))]
   rw [e];exact ⟨rfl,rfl⟩
  ·go_ret2
   have t2:(s[k+1].toNat:Int)=34:=eq_of_beq zf
   have e:kY s.toList k=some 34:=by rw [zk E1 zf,if_neg (ji (n:=110) (by simp only [t2];decide)),if_pos (pW (n:=34) t2)]
   rw [e,byte_of (n:=34) t2];exact ⟨rfl,rfl⟩
  ·go_ret2
   have t2:(s[k+1].toNat:Int)=92:=eq_of_beq zf
   have e:kY s.toList k=some 92:=by rw [zk E1 zf,if_neg (ji (n:=110) (by simp only [t2];decide)),if_neg (ji (n:=34) (by simp only [t2];decide)),if_pos (pW (n:=92) t2)]
   rw [e,byte_of (n:=92) t2];exact ⟨rfl,rfl⟩
  ·go_ret2
   have t1:((s[k+1].toNat:Int)==110)=false:=by assumption
   have t2:((s[k+1].toNat:Int)==34)=false:=by assumption
   have t3:((s[k+1].toNat:Int)==92)=false:=by assumption
   have e:kY s.toList k=none:=by rw [zk E1 zf,if_neg (ji (n:=110) (ne_of_beq_false t1)),if_neg (ji (n:=34) (ne_of_beq_false t2)),if_neg (ji (n:=92) (ne_of_beq_false t3))]
   rw [e];exact ⟨rfl,rfl⟩
  ·go_ret2
   rw [zk E0 zf];exact ⟨rfl,rfl⟩
 ·have E1:=zm (esc_out s k hlt)
  go_enter Tryz.func69,Tryz.ntmps69
  go_wp2
  all_goals
   go_ret2
   rw [zk E1];exact ⟨rfl,rfl⟩
open Go.RowKit Lx
theorem oP (c:UInt8):wrap64 (c.toNat:Int)=c.toNat:=by have:=c.toNat_lt;unfold wrap64;omega
theorem ml_cons (s:ByteArray) (h:0<s.size):∃ r,s.toList=s[0]::r:=⟨_,by simpa using eH s.toList 0 s[0] (fJ s 0 h)⟩
theorem ml_val (s:ByteArray) (h:0<s.size):jA s.toList=if iI s[0].toNat=2 then (if kE (s.extract 0 2).toList=true then 2 else if s[0]=124 then 0 else 1) else if iI s[0].toNat=1 then 1 else 0:=by
 obtain ⟨r,hr⟩:=ml_cons s h
 rw [fV s 0 2,hr]
 rfl
theorem qP (t:List UInt8) (h:kE t=true):t.length=2:=by
 simp [kE,iJ] at h
 rcases h with h | h | h | h | h | h | h | h | h | h | h | h | h <;> subst h <;> rfl
theorem mTab_hi (n:Nat) (h:128≤n):iI n=0:=by
 unfold iI
 rw [List.getD_eq_getElem?_getD,List.getElem?_eq_none (by exact h)];rfl
theorem rW (s:ByteArray) (w:World) (_hs:s.size≤8192) (hk:0<s.size) (h128:128≤(s[0].toNat:Int)) :
 Calls Tryz.prog 70 #[.string s] w fun e w'=>e=.returned (.int .i64 0)∧w'=w:=by
 have h2:=oP s[0]
 go_enter Tryz.func70,Tryz.ntmps70
 go_wp2_with (first | (go_at_call 87;refine (gu _ _).mono ?_;rintro e w' ⟨rfl,rfl⟩))
 go_ret
 exact ⟨rfl,rfl⟩
theorem rX (s:ByteArray) (w:World) (_hs:s.size≤8192) (hk:0<s.size) (m:Int) (h128:(s[0].toNat:Int)<128) (hg:w.cell? ⟨1,s[0].toNat,none⟩=some (.int .i8 m)) (n2:(m==2)=false) :
 Calls Tryz.prog 70 #[.string s] w fun e w'=>e=.returned (.int .i64 (if m=1 then 1 else 0))∧w'=w:=by
 have h2:=oP s[0]
 by_cases h1:m=1
 ·subst h1
  go_enter Tryz.func70,Tryz.ntmps70
  go_wp2_with (first | (go_at_call 87;refine (gu _ _).mono ?_;rintro e w' ⟨rfl,rfl⟩))
  go_ret
  exact ⟨rfl,rfl⟩
 ·have n1:(m==1)=false:=beq_eq_false_iff_ne.2 h1
  rw [if_neg h1]
  clear h1
  go_enter Tryz.func70,Tryz.ntmps70
  go_wp2_with (first | (go_at_call 87;refine (gu _ _).mono ?_;rintro e w' ⟨rfl,rfl⟩))
  go_ret
  exact ⟨rfl,rfl⟩
theorem qH (s:ByteArray) (w:World) (hs:s.size≤8192) (hk:0<s.size) (h128:(s[0].toNat:Int)<128) (hg:w.cell? ⟨1,s[0].toNat,none⟩=some (.int .i8 2)) :
 Calls Tryz.prog 70 #[.string s] w fun e w'=>e=.returned (.int .i64 (if kE (s.extract 0 2).toList=true then 2 else if s[0]=124 then 0 else 1))∧w'=w:=by
 have h2:=oP s[0]
 by_cases hp:kE (s.extract 0 2).toList=true
 ·have hl:1<s.size:=by
   have:=qP _ hp
   rw [fV] at this
   simp [sub,yx] at this
   omega
  rw [if_pos hp]
  go_enter Tryz.func70,Tryz.ntmps70
  go_wp2_with (first | (go_at_call 87;refine (gu _ _).mono ?_;rintro e w' ⟨rfl,rfl⟩))
  go_ret
  exact ⟨rfl,rfl⟩
 ·rw [if_neg hp]
  have hpf:kE (s.extract 0 2).toList=false:=by simpa using hp
  clear hp
  by_cases hl:1<s.size
  ·by_cases h4:(s[0].toNat:Int)=124
   ·rw [if_pos (byte_of (n:=124) h4)]
    have h5:((s[0].toNat:Int)==124)=true:=beq_iff_eq.2 h4
    clear h4
    go_enter Tryz.func70,Tryz.ntmps70
    go_wp2_with (first | (go_at_call 87;refine (gu _ _).mono ?_;rintro e w' ⟨rfl,rfl⟩))
    go_ret
    exact ⟨rfl,rfl⟩
   ·rw [if_neg (fun e=>ji (n:=124) h4 (congrArg some e))]
    have h5:((s[0].toNat:Int)==124)=false:=beq_eq_false_iff_ne.2 h4
    clear h4
    go_enter Tryz.func70,Tryz.ntmps70
    go_wp2_with (first | (go_at_call 87;refine (gu _ _).mono ?_;rintro e w' ⟨rfl,rfl⟩))
    go_ret
    exact ⟨rfl,rfl⟩
  ·by_cases h4:(s[0].toNat:Int)=124
   ·rw [if_pos (byte_of (n:=124) h4)]
    have h5:((s[0].toNat:Int)==124)=true:=beq_iff_eq.2 h4
    clear h4
    go_enter Tryz.func70,Tryz.ntmps70
    go_wp2_with (first | (go_at_call 87;refine (gu _ _).mono ?_;rintro e w' ⟨rfl,rfl⟩))
    go_ret
    exact ⟨rfl,rfl⟩
   ·rw [if_neg (fun e=>ji (n:=124) h4 (congrArg some e))]
    have h5:((s[0].toNat:Int)==124)=false:=beq_eq_false_iff_ne.2 h4
    clear h4
    go_enter Tryz.func70,Tryz.ntmps70
    go_wp2_with (first | (go_at_call 87;refine (gu _ _).mono ?_;rintro e w' ⟨rfl,rfl⟩))
    go_ret
    exact ⟨rfl,rfl⟩
theorem lI (s:ByteArray) (w:World) (hs:s.size≤8192) (hk:0<s.size) (hg:∀ i,i<128→w.cell? ⟨1,i,none⟩=some (.int .i8 (iI i))) :
 Calls Tryz.prog 70 #[.string s] w fun e w'=>e=.returned (.int .i64 (jA s.toList))∧w'=w:=by
 rw [ml_val s hk]
 by_cases h:s[0].toNat<128
 ·have hg':=hg _ h
  by_cases h2:iI s[0].toNat=2
  ·rw [h2] at hg'
   rw [if_pos h2]
   refine (qH s w hs hk om hg').mono ?_
   rintro e w' ⟨rfl,rfl⟩
   refine ⟨iQ ?_,rfl⟩
   split
   ·rfl
   ·split <;> rfl
  ·rw [if_neg h2]
   refine (rX s w hs hk _ om hg' (beq_eq_false_iff_ne.2 h2)).mono ?_
   rintro e w' ⟨rfl,rfl⟩
   refine ⟨iQ ?_,rfl⟩
   split <;> rfl
 ·have h0:=mTab_hi s[0].toNat om
  rw [h0]
  exact rW s w hs hk om
end Go.Proofs.YtgbjpnnockoomaaGreatDoor
