import Derived.Test.YtgbjpnnockoomaaGreatDoorSteps
set_option maxHeartbeats 400000
set_option maxRecDepth 100000
namespace Go.Proofs.YtgbjpnnockoomaaGreatDoor
open Go.RowKit Lx
def dV (b:Nat) (s:ByteArray) (w:World) (r:Sum Nat (Nat × List Tok)) (ev:Ending) (w':World):Prop:=
 match r with
 | .inl p=>(∃ nm,ev=.returned (.iface 118 (.agg #[.string nm,.iface 57 (.agg #[.int .i64 (p:Int)])])))∧Below b w w'
 | .inr q=>ev=.returned .nilIface∧∃ sv',St w' b s q.1 sv' q.2∧Below b w w'
theorem nJ {b p:Nat} {s:ByteArray} {w w':World} {r:Sum Nat (Nat × List Tok)} (nm:ByteArray) (h:r=.inl p) (hb:Below b w w'):dV b s w r (.returned (.iface 118 (.agg #[.string nm,.iface 57 (.agg #[.int .i64 (p:Int)])]))) w':=by
 subst h;exact ⟨⟨nm,rfl⟩,hb⟩
theorem ja {b:Nat} {q:Nat × List Tok} {s:ByteArray} {w w':World} {r:Sum Nat (Nat × List Tok)} (h:r=.inr q) (sv':Value) (hst:St w' b s q.1 sv' q.2) (hb:Below b w w'):dV b s w r (.returned .nilIface) w':=by
 subst h;exact ⟨rfl,sv',hst,hb⟩
theorem St.atOf {w W:World} {b k:Nat} {s:ByteArray} {sv:Value} {ts:List Tok} (h:St w b s k sv ts) (hh:W.heap=w.heap) (k':Nat) (v:Int) (hv:v=(k':Int)):St (W.setCell ⟨b,1,none⟩ (.int .i64 v)) b s k' sv ts:=by
 subst hv
 have h':=h.heap hh
 exact ⟨by rw [iE h'.blk 1 _];rfl,ownsRow_setCell_below h'.own (Nat.lt_succ_self b) _⟩
theorem part_sp (b k:Nat) (s:ByteArray) (sv:Value) (ts:List Tok) (w:World) (h:St w b s k sv ts) (hs:s.size≤8192) (hk:k<s.size) (t32:((s[k].toNat:Int)==32)=true) :
 Calls Tryz.prog 25 #[.pointer (some ⟨b,0,none⟩)] w (dV b s w (.inr (k+1,ts))):=by
 have hc:w.cell? ⟨b,0,none⟩=some (.string s):=zv h.blk 0
 have ha:w.cell? ⟨b,1,none⟩=some (.int .i64 k):=zv h.blk 1
 have hf:w.frozen? ⟨b,1,none⟩=false:=yT h.blk 1
 have h4:(k:Int)<s.size:=om
 have h5:(0:Int)≤k:=om
 have H:=zm h
 clear h
 go_enter Tryz.func25,Tryz.ntmps25
 go_wp2
 go_quiet (fail)
 go_wp2
 go_ret
 refine ja rfl sv ?_ ?_
 ·exact (zk H).atOf (by rfl) (k+1) _ om
 ·exact (yf b w _).setCell (Nat.le_refl b) _
theorem part_tab (b k:Nat) (s:ByteArray) (sv:Value) (ts:List Tok) (w:World) (h:St w b s k sv ts) (hs:s.size≤8192) (hk:k<s.size) (t32:((s[k].toNat:Int)==32)=false) (t9:((s[k].toNat:Int)==9)=true) :
 Calls Tryz.prog 25 #[.pointer (some ⟨b,0,none⟩)] w (dV b s w (.inr (k+1,ts))):=by
 have hc:w.cell? ⟨b,0,none⟩=some (.string s):=zv h.blk 0
 have ha:w.cell? ⟨b,1,none⟩=some (.int .i64 k):=zv h.blk 1
 have hf:w.frozen? ⟨b,1,none⟩=false:=yT h.blk 1
 have h4:(k:Int)<s.size:=om
 have h5:(0:Int)≤k:=om
 have H:=zm h
 clear h
 go_enter Tryz.func25,Tryz.ntmps25
 go_wp2
 go_quiet (fail)
 go_wp2
 go_ret
 refine ja rfl sv ?_ ?_
 ·exact (zk H).atOf (by rfl) (k+1) _ om
 ·exact (yf b w _).setCell (Nat.le_refl b) _
theorem part_nl (b k:Nat) (s:ByteArray) (sv:Value) (ts:List Tok) (w:World) (h:St w b s k sv ts) (hn:ts.length≤100000) (hs:s.size≤8192) (hk:k<s.size) (t32:((s[k].toNat:Int)==32)=false) (t9:((s[k].toNat:Int)==9)=false) (t10:((s[k].toNat:Int)==10)=true) :
 Calls Tryz.prog 25 #[.pointer (some ⟨b,0,none⟩)] w (dV b s w (.inr (k+1,kS ts k))):=by
 have hc:w.cell? ⟨b,0,none⟩=some (.string s):=zv h.blk 0
 have ha:w.cell? ⟨b,1,none⟩=some (.int .i64 k):=zv h.blk 1
 have hf:w.frozen? ⟨b,1,none⟩=false:=yT h.blk 1
 have h4:(k:Int)<s.size:=om
 have h5:(0:Int)≤k:=om
 have H:=zm h
 clear h
 go_enter Tryz.func25,Tryz.ntmps25
 go_wp2
 go_quiet (fail)
 go_wp2_with fail
 refine (oU b k s sv ts _ zW hn).mono ?_
 rintro e w1 ⟨rfl,sv1,hst,hbl⟩
 have a1:w1.cell? ⟨b,1,none⟩=some (.int .i64 k):=zv hst.blk 1
 have f1:w1.frozen? ⟨b,1,none⟩=false:=yT hst.blk 1
 have HS:=zm hst
 have HBL:=zm hbl
 clear hst hbl
 go_wp2
 go_ret
 refine ja rfl sv1 ?_ ?_
 ·exact (zk HS).atOf (by rfl) (k+1) _ om
 ·exact ((yf b w _).trans (zk HBL)).setCell (Nat.le_refl b) _
theorem part_cmt (b k:Nat) (s:ByteArray) (sv:Value) (ts:List Tok) (w:World) (h:St w b s k sv ts) (hs:s.size≤8192) (hk:k<s.size) (t32:((s[k].toNat:Int)==32)=false) (t9:((s[k].toNat:Int)==9)=false) (t10:((s[k].toNat:Int)==10)=false) (tc:cmt s.toList k=true) :
 Calls Tryz.prog 25 #[.pointer (some ⟨b,0,none⟩)] w (dV b s w (.inr (yL lK s.toList k,ts))):=by
 have hc:w.cell? ⟨b,0,none⟩=some (.string s):=zv h.blk 0
 have ha:w.cell? ⟨b,1,none⟩=some (.int .i64 k):=zv h.blk 1
 have hf:w.frozen? ⟨b,1,none⟩=false:=yT h.blk 1
 have h4:(k:Int)<s.size:=om
 have h5:(0:Int)≤k:=om
 have H:=zm h
 clear h
 go_enter Tryz.func25,Tryz.ntmps25
 go_wp2
 go_quiet (fail)
 go_wp2_with (first | (go_at_call 40;refine (eF b k s _ hs hk (by exact hc) (by exact ha)).mono ?_;rintro e w' ⟨rfl,nq2,rfl⟩) | (go_at_call 41;refine (run_notNl b k s _ hs (Nat.le_of_lt hk) (by exact hc)).mono ?_;rintro e w' ⟨rfl,hww⟩;have hw2:=hww.symm;clear hww;subst hw2))
 go_ret
 refine ja rfl sv ?_ ?_
 ·exact (zk H).atOf (by rfl) _ _ rfl
 ·exact (yf b w _).setCell (Nat.le_refl b) _
theorem vw (b k:Nat) (s:ByteArray) (sv:Value) (ts:List Tok) (w:World) (h:St w b s k sv ts) (hn:ts.length≤100000) (hs:s.size≤8192) (hk:k<s.size) (t32:((s[k].toNat:Int)==32)=false) (t9:((s[k].toNat:Int)==9)=false) (t10:((s[k].toNat:Int)==10)=false) (tc:cmt s.toList k=false) (tl:isLet s[k]=true) (p:Nat) (hr:lJ s.toList k ts=.inl p) :
 Calls Tryz.prog 25 #[.pointer (some ⟨b,0,none⟩)] w (dV b s w (lJ s.toList k ts)):=by
 have hc:w.cell? ⟨b,0,none⟩=some (.string s):=zv h.blk 0
 have ha:w.cell? ⟨b,1,none⟩=some (.int .i64 k):=zv h.blk 1
 have hf:w.frozen? ⟨b,1,none⟩=false:=yT h.blk 1
 have h4:(k:Int)<s.size:=om
 have h5:(0:Int)≤k:=om
 have H:=zm h
 clear h
 have HR:=zm hr
 clear hr
 go_enter Tryz.func25,Tryz.ntmps25
 go_wp2
 go_quiet (fail)
 go_wp2_with (first | (go_at_call 40;refine (eF b k s _ hs hk (by exact hc) (by exact ha)).mono ?_;rintro e w' ⟨rfl,nq2,rfl⟩) | (go_at_call 43;refine (cZ _ _).mono ?_;rintro e w' ⟨rfl,hww⟩;have hw2:=hww.symm;clear hww;subst hw2) | (go_at_call 46;refine (fQ _ _).mono ?_;rintro e w' ⟨rfl,hww⟩;have hw2:=hww.symm;clear hww;subst hw2))
 refine (tK b k s sv ts _ zW hn hs hk).mono ?_
 intro e w1 hp
 rw [zk HR] at hp
 obtain ⟨rfl,hbl⟩:=hp
 have HBL:=zm hbl
 clear hbl
 go_wp2_with (first | (go_at_call 44;refine (kP _ _ _).mono ?_;rintro e w' ⟨rfl,hww⟩;have hw2:=hww.symm;clear hww;subst hw2))
 go_ret
 exact nJ _ (zk HR) ((yf b w _).trans (zk HBL))
theorem vz (b k:Nat) (s:ByteArray) (sv:Value) (ts:List Tok) (w:World) (h:St w b s k sv ts) (hn:ts.length≤100000) (hs:s.size≤8192) (hk:k<s.size) (t32:((s[k].toNat:Int)==32)=false) (t9:((s[k].toNat:Int)==9)=false) (t10:((s[k].toNat:Int)==10)=false) (tc:cmt s.toList k=false) (tl:isLet s[k]=true) (q:Nat × List Tok) (hr:lJ s.toList k ts=.inr q) :
 Calls Tryz.prog 25 #[.pointer (some ⟨b,0,none⟩)] w (dV b s w (lJ s.toList k ts)):=by
 have hc:w.cell? ⟨b,0,none⟩=some (.string s):=zv h.blk 0
 have ha:w.cell? ⟨b,1,none⟩=some (.int .i64 k):=zv h.blk 1
 have hf:w.frozen? ⟨b,1,none⟩=false:=yT h.blk 1
 have h4:(k:Int)<s.size:=om
 have h5:(0:Int)≤k:=om
 have H:=zm h
 clear h
 have HR:=zm hr
 clear hr
 go_enter Tryz.func25,Tryz.ntmps25
 go_wp2
 go_quiet (fail)
 go_wp2_with (first | (go_at_call 40;refine (eF b k s _ hs hk (by exact hc) (by exact ha)).mono ?_;rintro e w' ⟨rfl,nq2,rfl⟩) | (go_at_call 43;refine (cZ _ _).mono ?_;rintro e w' ⟨rfl,hww⟩;have hw2:=hww.symm;clear hww;subst hw2) | (go_at_call 46;refine (fQ _ _).mono ?_;rintro e w' ⟨rfl,hww⟩;have hw2:=hww.symm;clear hww;subst hw2))
 refine (tK b k s sv ts _ zW hn hs hk).mono ?_
 intro e w1 hp
 rw [zk HR] at hp
 obtain ⟨rfl,sv1,hst,hbl⟩:=hp
 have HS:=zm hst
 have HBL:=zm hbl
 clear hst hbl
 go_wp2_with (first | (go_at_call 44;refine (kQ _ _).mono ?_;rintro e w' ⟨rfl,hww⟩;have hw2:=hww.symm;clear hww;subst hw2))
 go_ret
 exact ja (zk HR) sv1 (zk HS) ((yf b w _).trans (zk HBL))
theorem part_num_no (b k:Nat) (s:ByteArray) (sv:Value) (ts:List Tok) (w:World) (h:St w b s k sv ts) (hn:ts.length≤100000) (hs:s.size≤8192) (hk:k<s.size) (t32:((s[k].toNat:Int)==32)=false) (t9:((s[k].toNat:Int)==9)=false) (t10:((s[k].toNat:Int)==10)=false) (tc:cmt s.toList k=false) (tl:isLet s[k]=false) (td:aG s[k]=true) (p:Nat) (hr:kJ s.toList k ts=.inl p) :
 Calls Tryz.prog 25 #[.pointer (some ⟨b,0,none⟩)] w (dV b s w (kJ s.toList k ts)):=by
 have hc:w.cell? ⟨b,0,none⟩=some (.string s):=zv h.blk 0
 have ha:w.cell? ⟨b,1,none⟩=some (.int .i64 k):=zv h.blk 1
 have hf:w.frozen? ⟨b,1,none⟩=false:=yT h.blk 1
 have h4:(k:Int)<s.size:=om
 have h5:(0:Int)≤k:=om
 have H:=zm h
 clear h
 have HR:=zm hr
 clear hr
 go_enter Tryz.func25,Tryz.ntmps25
 go_wp2
 go_quiet (fail)
 go_wp2_with (first | (go_at_call 40;refine (eF b k s _ hs hk (by exact hc) (by exact ha)).mono ?_;rintro e w' ⟨rfl,nq2,rfl⟩) | (go_at_call 43;refine (cZ _ _).mono ?_;rintro e w' ⟨rfl,hww⟩;have hw2:=hww.symm;clear hww;subst hw2) | (go_at_call 46;refine (fQ _ _).mono ?_;rintro e w' ⟨rfl,hww⟩;have hw2:=hww.symm;clear hww;subst hw2))
 refine (oZ b k s sv ts _ zW hn hs hk td).mono ?_
 intro e w1 hp
 rw [zk HR] at hp
 obtain ⟨rfl,hbl⟩:=hp
 have HBL:=zm hbl
 clear hbl
 go_wp2_with (first | (go_at_call 44;refine (kP _ _ _).mono ?_;rintro e w' ⟨rfl,hww⟩;have hw2:=hww.symm;clear hww;subst hw2))
 go_ret
 exact nJ _ (zk HR) ((yf b w _).trans (zk HBL))
theorem part_num_ok (b k:Nat) (s:ByteArray) (sv:Value) (ts:List Tok) (w:World) (h:St w b s k sv ts) (hn:ts.length≤100000) (hs:s.size≤8192) (hk:k<s.size) (t32:((s[k].toNat:Int)==32)=false) (t9:((s[k].toNat:Int)==9)=false) (t10:((s[k].toNat:Int)==10)=false) (tc:cmt s.toList k=false) (tl:isLet s[k]=false) (td:aG s[k]=true) (q:Nat × List Tok) (hr:kJ s.toList k ts=.inr q) :
 Calls Tryz.prog 25 #[.pointer (some ⟨b,0,none⟩)] w (dV b s w (kJ s.toList k ts)):=by
 have hc:w.cell? ⟨b,0,none⟩=some (.string s):=zv h.blk 0
 have ha:w.cell? ⟨b,1,none⟩=some (.int .i64 k):=zv h.blk 1
 have hf:w.frozen? ⟨b,1,none⟩=false:=yT h.blk 1
 have h4:(k:Int)<s.size:=om
 have h5:(0:Int)≤k:=om
 have H:=zm h
 clear h
 have HR:=zm hr
 clear hr
 go_enter Tryz.func25,Tryz.ntmps25
 go_wp2
 go_quiet (fail)
 go_wp2_with (first | (go_at_call 40;refine (eF b k s _ hs hk (by exact hc) (by exact ha)).mono ?_;rintro e w' ⟨rfl,nq2,rfl⟩) | (go_at_call 43;refine (cZ _ _).mono ?_;rintro e w' ⟨rfl,hww⟩;have hw2:=hww.symm;clear hww;subst hw2) | (go_at_call 46;refine (fQ _ _).mono ?_;rintro e w' ⟨rfl,hww⟩;have hw2:=hww.symm;clear hww;subst hw2))
 refine (oZ b k s sv ts _ zW hn hs hk td).mono ?_
 intro e w1 hp
 rw [zk HR] at hp
 obtain ⟨rfl,sv1,hst,hbl⟩:=hp
 have HS:=zm hst
 have HBL:=zm hbl
 clear hst hbl
 go_wp2_with (first | (go_at_call 44;refine (kQ _ _).mono ?_;rintro e w' ⟨rfl,hww⟩;have hw2:=hww.symm;clear hww;subst hw2))
 go_ret
 exact ja (zk HR) sv1 (zk HS) ((yf b w _).trans (zk HBL))
theorem vC (b k:Nat) (s:ByteArray) (sv:Value) (ts:List Tok) (w:World) (h:St w b s k sv ts) (hn:ts.length≤100000) (hs:s.size≤8192) (hk:k<s.size) (t32:((s[k].toNat:Int)==32)=false) (t9:((s[k].toNat:Int)==9)=false) (t10:((s[k].toNat:Int)==10)=false) (tc:cmt s.toList k=false) (tl:isLet s[k]=false) (td:aG s[k]=false) (t34:((s[k].toNat:Int)==34)=true) (p:Nat) (hr:textF s.toList k ts=.inl p) :
 Calls Tryz.prog 25 #[.pointer (some ⟨b,0,none⟩)] w (dV b s w (textF s.toList k ts)):=by
 have hc:w.cell? ⟨b,0,none⟩=some (.string s):=zv h.blk 0
 have ha:w.cell? ⟨b,1,none⟩=some (.int .i64 k):=zv h.blk 1
 have hf:w.frozen? ⟨b,1,none⟩=false:=yT h.blk 1
 have h4:(k:Int)<s.size:=om
 have h5:(0:Int)≤k:=om
 have H:=zm h
 clear h
 have HR:=zm hr
 clear hr
 go_enter Tryz.func25,Tryz.ntmps25
 go_wp2
 go_quiet (fail)
 go_wp2_with (first | (go_at_call 40;refine (eF b k s _ hs hk (by exact hc) (by exact ha)).mono ?_;rintro e w' ⟨rfl,nq2,rfl⟩) | (go_at_call 43;refine (cZ _ _).mono ?_;rintro e w' ⟨rfl,hww⟩;have hw2:=hww.symm;clear hww;subst hw2) | (go_at_call 46;refine (fQ _ _).mono ?_;rintro e w' ⟨rfl,hww⟩;have hw2:=hww.symm;clear hww;subst hw2))
 refine (uj b k s sv ts _ zW hn hs hk).mono ?_
 intro e w1 hp
 rw [zk HR] at hp
 obtain ⟨rfl,hbl⟩:=hp
 have HBL:=zm hbl
 clear hbl
 go_wp2_with (first | (go_at_call 44;refine (kP _ _ _).mono ?_;rintro e w' ⟨rfl,hww⟩;have hw2:=hww.symm;clear hww;subst hw2))
 go_ret
 exact nJ _ (zk HR) ((yf b w _).trans (zk HBL))
theorem vF (b k:Nat) (s:ByteArray) (sv:Value) (ts:List Tok) (w:World) (h:St w b s k sv ts) (hn:ts.length≤100000) (hs:s.size≤8192) (hk:k<s.size) (t32:((s[k].toNat:Int)==32)=false) (t9:((s[k].toNat:Int)==9)=false) (t10:((s[k].toNat:Int)==10)=false) (tc:cmt s.toList k=false) (tl:isLet s[k]=false) (td:aG s[k]=false) (t34:((s[k].toNat:Int)==34)=true) (q:Nat × List Tok) (hr:textF s.toList k ts=.inr q) :
 Calls Tryz.prog 25 #[.pointer (some ⟨b,0,none⟩)] w (dV b s w (textF s.toList k ts)):=by
 have hc:w.cell? ⟨b,0,none⟩=some (.string s):=zv h.blk 0
 have ha:w.cell? ⟨b,1,none⟩=some (.int .i64 k):=zv h.blk 1
 have hf:w.frozen? ⟨b,1,none⟩=false:=yT h.blk 1
 have h4:(k:Int)<s.size:=om
 have h5:(0:Int)≤k:=om
 have H:=zm h
 clear h
 have HR:=zm hr
 clear hr
 go_enter Tryz.func25,Tryz.ntmps25
 go_wp2
 go_quiet (fail)
 go_wp2_with (first | (go_at_call 40;refine (eF b k s _ hs hk (by exact hc) (by exact ha)).mono ?_;rintro e w' ⟨rfl,nq2,rfl⟩) | (go_at_call 43;refine (cZ _ _).mono ?_;rintro e w' ⟨rfl,hww⟩;have hw2:=hww.symm;clear hww;subst hw2) | (go_at_call 46;refine (fQ _ _).mono ?_;rintro e w' ⟨rfl,hww⟩;have hw2:=hww.symm;clear hww;subst hw2))
 refine (uj b k s sv ts _ zW hn hs hk).mono ?_
 intro e w1 hp
 rw [zk HR] at hp
 obtain ⟨rfl,sv1,hst,hbl⟩:=hp
 have HS:=zm hst
 have HBL:=zm hbl
 clear hst hbl
 go_wp2_with (first | (go_at_call 44;refine (kQ _ _).mono ?_;rintro e w' ⟨rfl,hww⟩;have hw2:=hww.symm;clear hww;subst hw2))
 go_ret
 exact ja (zk HR) sv1 (zk HS) ((yf b w _).trans (zk HBL))
theorem vg (b k:Nat) (s:ByteArray) (sv:Value) (ts:List Tok) (w:World) (h:St w b s k sv ts) (hn:ts.length≤100000) (hs:s.size≤8192) (hk:k<s.size) (t32:((s[k].toNat:Int)==32)=false) (t9:((s[k].toNat:Int)==9)=false) (t10:((s[k].toNat:Int)==10)=false) (tc:cmt s.toList k=false) (tl:isLet s[k]=false) (td:aG s[k]=false) (t34:((s[k].toNat:Int)==34)=false) (HG:Hid (∀ i,i<128→w.cell? ⟨1,i,none⟩=some (.int .i8 (iI i)))) (p:Nat) (hr:lH s.toList k ts=.inl p) :
 Calls Tryz.prog 25 #[.pointer (some ⟨b,0,none⟩)] w (dV b s w (lH s.toList k ts)):=by
 have hc:w.cell? ⟨b,0,none⟩=some (.string s):=zv h.blk 0
 have ha:w.cell? ⟨b,1,none⟩=some (.int .i64 k):=zv h.blk 1
 have hf:w.frozen? ⟨b,1,none⟩=false:=yT h.blk 1
 have h4:(k:Int)<s.size:=om
 have h5:(0:Int)≤k:=om
 have H:=zm h
 clear h
 have HR:=zm hr
 clear hr
 go_enter Tryz.func25,Tryz.ntmps25
 go_wp2
 go_quiet (fail)
 go_wp2_with (first | (go_at_call 40;refine (eF b k s _ hs hk (by exact hc) (by exact ha)).mono ?_;rintro e w' ⟨rfl,nq2,rfl⟩) | (go_at_call 43;refine (cZ _ _).mono ?_;rintro e w' ⟨rfl,hww⟩;have hw2:=hww.symm;clear hww;subst hw2) | (go_at_call 46;refine (fQ _ _).mono ?_;rintro e w' ⟨rfl,hww⟩;have hw2:=hww.symm;clear hww;subst hw2))
 refine (tJ b k s sv ts _ zW hn hs hk (by exact zk HG)).mono ?_
 intro e w1 hp
 rw [zk HR] at hp
 obtain ⟨rfl,hbl⟩:=hp
 have HBL:=zm hbl
 clear hbl
 go_wp2_with (first | (go_at_call 44;refine (kP _ _ _).mono ?_;rintro e w' ⟨rfl,hww⟩;have hw2:=hww.symm;clear hww;subst hw2))
 go_ret
 exact nJ _ (zk HR) ((yf b w _).trans (zk HBL))
theorem vk (b k:Nat) (s:ByteArray) (sv:Value) (ts:List Tok) (w:World) (h:St w b s k sv ts) (hn:ts.length≤100000) (hs:s.size≤8192) (hk:k<s.size) (t32:((s[k].toNat:Int)==32)=false) (t9:((s[k].toNat:Int)==9)=false) (t10:((s[k].toNat:Int)==10)=false) (tc:cmt s.toList k=false) (tl:isLet s[k]=false) (td:aG s[k]=false) (t34:((s[k].toNat:Int)==34)=false) (HG:Hid (∀ i,i<128→w.cell? ⟨1,i,none⟩=some (.int .i8 (iI i)))) (q:Nat × List Tok) (hr:lH s.toList k ts=.inr q) :
 Calls Tryz.prog 25 #[.pointer (some ⟨b,0,none⟩)] w (dV b s w (lH s.toList k ts)):=by
 have hc:w.cell? ⟨b,0,none⟩=some (.string s):=zv h.blk 0
 have ha:w.cell? ⟨b,1,none⟩=some (.int .i64 k):=zv h.blk 1
 have hf:w.frozen? ⟨b,1,none⟩=false:=yT h.blk 1
 have h4:(k:Int)<s.size:=om
 have h5:(0:Int)≤k:=om
 have H:=zm h
 clear h
 have HR:=zm hr
 clear hr
 go_enter Tryz.func25,Tryz.ntmps25
 go_wp2
 go_quiet (fail)
 go_wp2_with (first | (go_at_call 40;refine (eF b k s _ hs hk (by exact hc) (by exact ha)).mono ?_;rintro e w' ⟨rfl,nq2,rfl⟩) | (go_at_call 43;refine (cZ _ _).mono ?_;rintro e w' ⟨rfl,hww⟩;have hw2:=hww.symm;clear hww;subst hw2) | (go_at_call 46;refine (fQ _ _).mono ?_;rintro e w' ⟨rfl,hww⟩;have hw2:=hww.symm;clear hww;subst hw2))
 refine (tJ b k s sv ts _ zW hn hs hk (by exact zk HG)).mono ?_
 intro e w1 hp
 rw [zk HR] at hp
 obtain ⟨rfl,sv1,hst,hbl⟩:=hp
 have HS:=zm hst
 have HBL:=zm hbl
 clear hst hbl
 go_wp2_with (first | (go_at_call 44;refine (kQ _ _).mono ?_;rintro e w' ⟨rfl,hww⟩;have hw2:=hww.symm;clear hww;subst hw2))
 go_ret
 exact ja (zk HR) sv1 (zk HS) ((yf b w _).trans (zk HBL))
end Go.Proofs.YtgbjpnnockoomaaGreatDoor
