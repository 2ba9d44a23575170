/- New, Of, Size, At, Put, Cut where there is room. -/
import Derived.Test.YtkclpbbpcicpiaaDoorL3
namespace Go.Proofs.YtkclpbbpcicpiaaDoor
open Go.RowKit Go.Proofs.YtkclpbbpcicpiaaDoor.Hp
variable {w0 w w' w1 w2 : World} {B : HB} {n p : Nat} {A A' A1 A2 : Nat → Kd} {wd wd' wd1 wd2 : Nat → Int} {hv hv1 hv2 : Value} {held : List Int} {cnt cnt' : Nat} {a b lo N c k : Nat} {f : Nat → Int} {z : Int}
theorem mks_to {k s m : Int} {v : Value} (h : MkS n A wd held cnt k s m v A' wd' cnt') (hR : Right k s m) (hp : ¬ NoPlace n A (1 + s.toNat)) : ∃ a : Nat, v = .tuple #[.int .i64 (a : Int), .bool true] ∧ Goes n A (1 + s.toNat) a A' ∧ wd' = newW wd a (1 + s.toNat) (hdr k s m) ∧ cnt' = cnt := by
  cases h with
  | no hr => exact absurd hR hr
  | at_ hr a _ g => exact ⟨a, rfl, g, rfl, rfl⟩
  | gc hr hn => exact absurd hn hp
  | full hr hn => exact absurd hn hp
theorem tup_inj {x y : Int} {c d : Bool} (h : Value.tuple #[.int .i64 x, .bool c] = .tuple #[.int .i64 y, .bool d]) : x = y ∧ c = d := by
  simp at h
  exact h
theorem Olds.but {L : Nat → Prop} (h1 : Olds L A wd A1 wd1) (h2 : Olds (· = b) A1 wd1 A2 wd2) (nb : roomN A b = 0) : Olds L A wd A2 wd2 := by
  have h3 : Olds (fun x => L x ∨ x = b) A wd A2 wd2 := (h1.mono fun _ _ x => .inl x).trans (h2.mono fun _ _ x => .inr x)
  exact h3.mono fun x hx e => e.elim id fun e => absurd (e ▸ nb) hx
theorem slF0 : ∀ (x0 x1 x2 x3 : Int) (w : World), (Instr.field 54 (.agg #[.int .i64 x0, .int .i64 x1, .int .i64 x2, .int .i64 x3]) 0).run Tryd.prog w = .ok (.int .i64 x0) w := fun _ _ _ _ _ => by kernel_rfl
/-- A slice of a new array. -/
structure Two (n : Nat) (A : Nat → Kd) (wd : Nat → Int) (A2 : Nat → Kd) (wd2 : Nat → Int) (a b k N c : Nat) (f : Nat → Int) : Prop where
  go : ∃ A1, Goes n A (1 + c) b A1 ∧ Goes n A1 5 a A2
  sl : SlAt A2 wd2 a b 0 N c
  ar : ArAt A2 wd2 b k c f
  olds : Olds (fun _ => False) A wd A2 wd2
  nb : roomN A b = 0
def FtP (w : World) (B : HB) (n p : Nat) (A : Nat → Kd) (wd : Nat → Int) (hv : Value) (held : List Int) (cnt N c k : Nat) (f : Nat → Int) (e : Ending) (w' : World) : Prop :=
  ∃ (a b : Nat) (A2 : Nat → Kd) (wd2 : Nat → Int) (hv' : Value), e = .returned (.tuple #[.int .i64 (a : Int), .bool true]) ∧ Two n A wd A2 wd2 a b k N c f ∧ Sp w' B n p A2 wd2 hv' held cnt ∧ To B p w hv w' hv'
/-- There is room for an array and a slice. -/
def Roomy (n : Nat) (A : Nat → Kd) (c : Nat) : Prop := ¬ NoPlace n A (1 + c) ∧ ∀ b A1, Goes n A (1 + c) b A1 → ¬ NoPlace n A1 5
theorem fresh_to (h : Sp w B n p A wd hv held cnt) (hc : cnt < 90000) (hl : held.length < 900) (N c : Nat) (hcap : c ≤ 16384) (r : Bool) (hp : Roomy n A c) :
    Calls Tryd.prog 38 #[.pointer (some ⟨p, 0, none⟩), .int .i64 N, .int .i64 c, .bool r] w fun e w' => FtP w B n p A wd hv held cnt N c (kdR r) (fun _ => 0) e w' := by
  have hR1 := ar_right (kdR_or r) hcap
  have hR2 : Right 4 4 1 := by unfold Right; omega
  have e1 : 1 + ((c : Nat) : Int).toNat = 1 + c := by omega
  have e2 : 1 + (4 : Int).toNat = 5 := rfl
  refine (fresh_any h hc hl N c hcap r).mono ?_
  rintro e w' (⟨a, b, A1, wd1, cnt1, A2, wd2, cnt2, hv', rfl, h1, h2, hI, _, hs, ht⟩ | ⟨A1, wd1, cnt1, rfl, h1, hs, ht⟩ | ⟨b, A1, wd1, cnt1, A2, wd2, cnt2, rb, A3, hv', rfl, h1, h2, hI, hI2, hg, hs, ht⟩)
  · obtain ⟨b', eb, g1, rfl, rfl⟩ := mks_to h1 hR1 (by rw [e1]; exact hp.1)
    obtain rfl : b = b' := by have := (tup_inj eb).1; omega
    rw [e1] at g1
    obtain ⟨a', ea, g2, rfl, rfl⟩ := mks_to h2 hR2 (by rw [e2]; exact hp.2 _ _ g1)
    obtain rfl : a = a' := by have := (tup_inj ea).1; omega
    rw [e2] at g2
    rw [e1, e2] at hs
    have ho := sl_olds (fun _ => False) hI hs.inv g2 (newW wd b (1 + c) (hdr (kdR r) c 0)) b 0 N c
    exact ⟨a, b, A2, _, hv', rfl, ⟨⟨A1, g1, g2⟩, sl_new hI g2 _ b 0 N c, (ar_new (kdR_or r) hcap h.inv g1 wd).keep ho id, (Olds.new _ h.inv hI g1 (by omega) _).trans ho, (room_goes h.inv g1).1⟩, hs, ht⟩
  · obtain ⟨b', eb, _⟩ := mks_to h1 hR1 (by rw [e1]; exact hp.1)
    cases (tup_inj eb).2
  · obtain ⟨b', eb, g1, rfl, rfl⟩ := mks_to h1 hR1 (by rw [e1]; exact hp.1)
    rw [e1] at g1
    obtain ⟨a', ea, _⟩ := mks_to h2 hR2 (by rw [e2]; exact hp.2 _ _ g1)
    cases (tup_inj ea).2
set_option maxRecDepth 100000 in
set_option maxHeartbeats 4000000 in
theorem New_to (h : Sp w B n p A wd hv held cnt) (hc : cnt < 90000) (hl : held.length < 900) (N : Nat) (hcap : N ≤ 16384) (r : Bool) (hp : Roomy n A N) :
    Calls Tryd.prog 19 #[.pointer (some ⟨p, 0, none⟩), .int .i64 N, .bool r] w fun e w' => FtP w B n p A wd hv held cnt N N (kdR r) (fun _ => 0) e w' := by
  have HF := hide (fresh_to h hc hl N N hcap r hp)
  clear h hp
  go_enter Tryd.func19, Tryd.ntmps19
  go_wp2_with fail
  refine (unhide HF).mono ?_
  rintro e w' ⟨a, b, A2, wd2, hv', rfl, h2⟩
  have HE := hide h2
  clear h2 HF
  go_wp2
  go_ret2
  exact ⟨a, b, A2, wd2, hv', rfl, unhide HE⟩
set_option maxRecDepth 100000 in
set_option maxHeartbeats 4000000 in
theorem Of_to (h : Sp w B n p A wd hv held cnt) (hc : cnt < 90000) (hl : held.length < 900) (ao : Option Addr) (len cp : Nat) (zs : List Int) (hlen : zs.length = len) (hit : ItAt w B p hv ao zs) (hcap : len ≤ 16384) (r : Bool) (hp : Roomy n A len) :
    Calls Tryd.prog 18 #[.pointer (some ⟨p, 0, none⟩), .slice ao len cp, .bool r] w fun e w' => FtP w B n p A wd hv held cnt len len (kdR r) (fun j => zs.getD j 0) e w' := by
  have HN := hide (New_to h hc hl len hcap r hp)
  have HI := hide hit
  have HL := hide hlen
  have hf0 := slF0
  clear h hp hit hlen
  go_enter Tryd.func18, Tryd.ntmps18
  go_wp2_with fail
  refine (unhide HN).mono ?_
  rintro e w1 ⟨a, b, A2, wd2, hv', rfl, h2, hs, ht⟩
  have HO := hide (open_any hs a)
  have HT := hide ht
  have HS := hide hs
  have H2 := hide h2
  rw [h2.sl.get.1, h2.sl.get.2.1, h2.sl.get.2.2.1, h2.sl.get.2.2.2] at HO
  unfold slV at HO
  clear ht hs h2 HN
  go_wp2_with fail
  refine (unhide HO).mono ?_
  rintro e w2 ⟨rfl, hF2⟩
  have HT2 := hide ((unhide HT).trans (To.quiet hF2))
  have hW := write_any ((unhide HS).quiet hF2) b 0 ao len cp zs (unhide HL) (unhide H2).ar.room (by rw [(unhide H2).ar.sz]; omega) (by omega) ((unhide HI).to (unhide HT2))
  have HW := hide hW
  clear hF2 hW HO
  go_wp2_with fail
  refine (unhide HW).mono ?_
  rintro e w3 ⟨rfl, hs3, ht3⟩
  have HE : Hid (FtP w B n p A wd hv held cnt len len (kdR r) (fun j => zs.getD j 0) (.returned (.tuple #[.int .i64 (a : Int), .bool true])) w3) := hide (by
    have h2 := unhide H2
    have hl := unhide HL
    subst hl
    have hI := (unhide HS).inv
    refine ⟨a, b, A2, _, hv', rfl, ⟨h2.go, ?_, ?_, ?_, h2.nb⟩, hs3, (unhide HT2).trans ht3⟩
    · exact h2.sl.keep (h2.ar.wr_olds (K := (· = b)) hI rfl 0 zs (by omega)) (h2.sl.ne h2.ar)
    · exact (h2.ar.wr 0 zs).ext fun j hj => by rw [if_pos (by omega), Nat.sub_zero]
    · exact h2.olds.but (h2.ar.wr_olds (K := (· = b)) hI rfl 0 zs (by omega)) h2.nb)
  clear hs3 ht3 HW
  go_wp2
  go_ret2
  exact unhide HE
/-- The word z is a slice, or nil. -/
def SlOf (A : Nat → Kd) (wd : Nat → Int) (z : Int) (b lo N c : Nat) : Prop := (z = 0 ∧ b = 0 ∧ lo = 0 ∧ N = 0 ∧ c = 0) ∨ ∃ a : Nat, z = a ∧ SlAt A wd a b lo N c
theorem SlOf.get (h : SlOf A wd z b lo N c) (hI : Inv n A) : getI A wd z 0 = b ∧ getI A wd z 1 = lo ∧ getI A wd z 2 = N ∧ getI A wd z 3 = c := by
  rcases h with ⟨rfl, rfl, rfl, rfl, rfl⟩ | ⟨a, rfl, h⟩
  · exact ⟨get_nil hI 0, get_nil hI 1, get_nil hI 2, get_nil hI 3⟩
  · exact h.get
theorem open_to (h : Sp w B n p A wd hv held cnt) (hs : SlOf A wd z b lo N c) :
    Calls Tryd.prog 28 #[.pointer (some ⟨p, 0, none⟩), .int .i64 z] w fun e w' => e = .returned (.agg #[.int .i64 b, .int .i64 lo, .int .i64 N, .int .i64 c]) ∧ Fr (fun _ => False) w w' := by
  obtain ⟨e0, e1, e2, e3⟩ := hs.get h.inv
  have := open_any h z
  rw [e0, e1, e2, e3] at this
  exact this
set_option maxRecDepth 100000 in
set_option maxHeartbeats 4000000 in
theorem Size_to (h : Sp w B n p A wd hv held cnt) (hs : SlOf A wd z b lo N c) :
    Calls Tryd.prog 20 #[.pointer (some ⟨p, 0, none⟩), .int .i64 z] w fun e w' => e = .returned (.tuple #[.int .i64 N, .int .i64 c]) ∧ Fr (fun _ => False) w w' := by
  have HO : Hid (∀ W, Fr (fun _ => False) w W → Calls Tryd.prog 28 #[.pointer (some ⟨p, 0, none⟩), .int .i64 z] W fun e w' => e = .returned (.agg #[.int .i64 b, .int .i64 lo, .int .i64 N, .int .i64 c]) ∧ Fr (fun _ => False) w w') := hide fun W hF => (open_to (h.quiet hF) hs).mono fun _ _ x => ⟨x.1, hF.trans x.2⟩
  clear h hs
  go_enter Tryd.func20, Tryd.ntmps20
  go_wp2_with fail
  refine (unhide HO _ (Fr.refl _ _)).mono ?_
  rintro e w1 ⟨rfl, hF1⟩
  have HF1 := hide (hF1.alloc (slO b lo N c))
  clear hF1
  go_wp2
  go_region
  go_wp2
  go_ret2
  exact ⟨rfl, (unhide HF1).drew⟩
set_option maxRecDepth 100000 in
set_option maxHeartbeats 4000000 in
theorem At_out (h : Sp w B n p A wd hv held cnt) (hs : SlOf A wd z b lo N c) (i : Int) (hi : i < 0 ∨ (N : Int) ≤ i) :
    Calls Tryd.prog 15 #[.pointer (some ⟨p, 0, none⟩), .int .i64 z, .int .i64 i] w fun e w' => e = .returned (.tuple #[.int .i64 0, .bool false]) ∧ Fr (fun _ => False) w w' := by
  have HO := hide (open_to h hs)
  have HH : Hid (∀ W, Calls Tryd.prog 33 #[.agg #[.int .i64 b, .int .i64 lo, .int .i64 N, .int .i64 c], .int .i64 i] W fun e w' => e = .returned (.bool false) ∧ Fr (fun _ => False) W w') := hide fun W => by
    have := shas2_any b lo N c i W
    rw [show (decide (0 ≤ i) && decide (i < (N : Int))) = false by simp; omega] at this
    exact this
  clear h hs hi
  go_enter Tryd.func15, Tryd.ntmps15
  go_wp2_with fail
  refine (unhide HO).mono ?_
  rintro e w1 ⟨rfl, hF1⟩
  have HF1 := hide (hF1.alloc (slO b lo N c))
  clear hF1 HO
  go_wp2_with fail
  refine (unhide HH _).mono ?_
  rintro e w2 ⟨rfl, hF2⟩
  have HF2 := hide ((unhide HF1).trans hF2)
  clear hF2 HH
  go_wp2
  go_ret2
  exact ⟨rfl, unhide HF2⟩
set_option maxRecDepth 100000 in
set_option maxHeartbeats 4000000 in
theorem At_in (h : Sp w B n p A wd hv held cnt) (hs : SlOf A wd z b lo N c) {C i : Nat} (ha : ArAt A wd b k C f) (hi : i < N) (hl : lo + N ≤ C) :
    Calls Tryd.prog 15 #[.pointer (some ⟨p, 0, none⟩), .int .i64 z, .int .i64 i] w fun e w' => e = .returned (.tuple #[.int .i64 (f (lo + i)), .bool true]) ∧ Fr (fun _ => False) w w' := by
  have HO := hide (open_to h hs)
  have HH : Hid (∀ W, Calls Tryd.prog 33 #[.agg #[.int .i64 b, .int .i64 lo, .int .i64 N, .int .i64 c], .int .i64 i] W fun e w' => e = .returned (.bool true) ∧ Fr (fun _ => False) W w') := hide fun W => by
    have := shas2_any b lo N c i W
    rw [show (decide (0 ≤ (i : Int)) && decide ((i : Int) < (N : Int))) = true by simp; omega] at this
    exact this
  have HG : Hid (∀ W, Fr (fun _ => False) w W → Calls Tryd.prog 16 #[.pointer (some ⟨p, 0, none⟩), .int .i64 b, .int .i64 ((lo : Int) + i)] W fun e w' => e = .returned (.int .i64 (f (lo + i))) ∧ Fr (fun _ => False) w w') := hide fun W hF => by
    have := Get_any (h.quiet hF) b ((lo : Int) + i)
    rw [show (lo : Int) + i = ((lo + i : Nat) : Int) by omega, ha.get (by omega)] at this
    rw [show (lo : Int) + i = ((lo + i : Nat) : Int) by omega]
    exact this.mono fun _ _ x => ⟨x.1, hF.trans x.2⟩
  have hC := ha.le
  have hb1 : (lo : Int) + i < 9223372036854775808 := by omega
  clear h hs ha
  generalize f (lo + i) = v at *
  go_enter Tryd.func15, Tryd.ntmps15
  go_wp2_with fail
  refine (unhide HO).mono ?_
  rintro e w1 ⟨rfl, hF1⟩
  have HF1 := hide (hF1.alloc (slO b lo N c))
  have HC1 := hide (SlC.new w1 b lo N c)
  clear hF1 HO
  go_wp2_with fail
  refine (unhide HH _).mono ?_
  rintro e w2 ⟨rfl, hF2⟩
  have HF2 := hide ((unhide HF1).trans hF2)
  have cc := ((unhide HC1).quiet hF2).cells
  clear hF2 HH HC1
  generalize w1.heap.size = M at *
  go_wp2_with fail
  refine (unhide HG _ (unhide HF2)).mono ?_
  rintro e w3 ⟨rfl, hF3⟩
  have HF3 := hide hF3
  clear hF3 HG
  go_wp2
  go_ret2
  exact ⟨rfl, unhide HF3⟩
end Go.Proofs.YtkclpbbpcicpiaaDoor
