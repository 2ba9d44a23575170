/- extend, grow, Append where there is room. -/
import Derived.Test.YtkclpbbpcicpiaaDoorL5
namespace Go.Proofs.YtkclpbbpcicpiaaDoor
open Go.RowKit Go.Proofs.YtkclpbbpcicpiaaDoor.Hp
variable {w0 w w' w1 w2 : World} {B : HB} {n p : Nat} {A A' A1 A2 : Nat → Kd} {wd wd' wd1 wd2 : Nat → Int} {hv hv1 hv2 : Value} {held : List Int} {cnt cnt' : Nat} {a b lo N c k : Nat} {f : Nat → Int} {z : Int}
/-- What is put behind. -/
def behF (f : Nat → Int) (o : Nat) (zs : List Int) : Nat → Int := fun j => if o ≤ j ∧ j < o + zs.length then zs.getD (j - o) 0 else f j
/-- A slice of the same array, with items behind. -/
structure Ext (n : Nat) (A : Nat → Kd) (wd : Nat → Int) (A2 : Nat → Kd) (wd2 : Nat → Int) (a b lo N c k C : Nat) (f : Nat → Int) : Prop where
  go : Goes n A 5 a A2
  sl : SlAt A2 wd2 a b lo N c
  ar : ArAt A2 wd2 b k C f
  olds : Olds (· = b) A wd A2 wd2
def ExP (w : World) (B : HB) (n p : Nat) (A : Nat → Kd) (wd : Nat → Int) (hv : Value) (held : List Int) (cnt b lo N c k C : Nat) (f : Nat → Int) (e : Ending) (w' : World) : Prop :=
  ∃ (a : Nat) (A2 : Nat → Kd) (wd2 : Nat → Int) (hv' : Value), e = .returned (.tuple #[.int .i64 (a : Int), .bool true]) ∧ Ext n A wd A2 wd2 a b lo N c k C f ∧ Sp w' B n p A2 wd2 hv' held cnt ∧ To B p w hv w' hv'
set_option maxRecDepth 100000 in
set_option maxHeartbeats 4000000 in
theorem extend_to (h : Sp w B n p A wd hv held cnt) (hc : cnt < 90000) (hl : held.length < 900) {C : Nat} (ha : ArAt A wd b k C f) (hb : b < 100000) (ao : Option Addr) (len cp : Nat) (zs : List Int) (hlen : zs.length = len) (hit : ItAt w B p hv ao zs) (hN : N + len ≤ c) (hC : lo + c ≤ C) (hp : ¬ NoPlace n A 5) :
    Calls Tryd.prog 29 #[.pointer (some ⟨p, 0, none⟩), .agg #[.int .i64 b, .int .i64 lo, .int .i64 N, .int .i64 c], .slice ao len cp] w fun e w' => ExP w B n p A wd hv held cnt b lo (N + len) c k C (behF f (lo + N) zs) e w' := by
  have hF0 := (Fr.refl (fun _ => False) w).alloc (slO b lo N c)
  have HT0 := hide (To.quiet (B := B) (p := p) (hv := hv) hF0)
  have HC0 := hide (SlC.new w b lo N c)
  have HN0 : Hid (w.heap.size < (w.alloc (slO b lo N c)).heap.size ∧ ¬ SpK B p hv w.heap.size) := hide ⟨by simp, fun k => by have := (h.lt k).2; omega⟩
  have HB := hide (block_to (h.quiet hF0) hc hl b lo (N + len) c hb hp lo ((N : Int) + len) c rfl (by omega) rfl)
  have HI := hide (hit.to (unhide HT0))
  have HL := hide hlen
  have HA := hide ha
  have hCl := ha.le
  clear h ha hF0 hit hlen
  go_enter Tryd.func29, Tryd.ntmps29
  go_wp2_with fail
  refine (unhide HB).mono ?_
  rintro e w1 ⟨a, A2, wd2, hv1, rfl, ho, hs1, ht1⟩
  have HC1 := hide ((unhide HC0).to ht1 (unhide HN0).2)
  have hA1 := (unhide HA).keep ho.olds id
  have hW := write_any hs1 b (lo + N) ao len cp zs (unhide HL) hA1.room (by rw [hA1.sz]; omega) (by omega) ((unhide HI).to ht1)
  rw [show ((lo + N : Nat) : Int) = (lo : Int) + N by omega] at hW
  have HW := hide hW
  have HT1 := hide ((unhide HT0).trans ht1)
  have HO := hide ho
  have HA1 := hide hA1
  have HI1 := hide hs1.inv
  have cc := (unhide HC1).cells
  clear hs1 ht1 ho hA1 hW HB HI
  generalize w.heap.size = M at *
  go_wp2_with fail
  refine (unhide HW).mono ?_
  rintro e w2 ⟨rfl, hs2, ht2⟩
  have HE : Hid (ExP w B n p A wd hv held cnt b lo (N + len) c k C (behF f (lo + N) zs) (.returned (.tuple #[.int .i64 (a : Int), .bool true])) w2) := hide (by
    have hl := unhide HL
    subst hl
    have h1 := unhide HA1
    have hw := h1.wr_olds (K := (· = b)) (unhide HI1) rfl (lo + N) zs (by omega)
    rw [show b + 1 + (lo + N) = b + 1 + (lo + N) from rfl] at hs2
    exact ⟨a, A2, _, hv1, rfl, ⟨(unhide HO).go, (unhide HO).sl.keep hw ((unhide HO).sl.ne h1), h1.wr (lo + N) zs, ((unhide HO).olds.mono fun _ _ x => x.elim).trans hw⟩, hs2, (unhide HT1).trans ht2⟩)
  clear hs2 ht2 HW cc
  go_wp2
  go_ret2
  exact unhide HE
/-- The items of both. -/
def groF (f : Nat → Int) (lo N : Nat) (zs : List Int) : Nat → Int := fun j => if j < N then f (lo + j) else if j < N + zs.length then zs.getD (j - N) 0 else 0
def capG (c t : Nat) : Nat := max (2 * c) t
theorem map_getD (f : Nat → Int) (N k : Nat) (hk : k < N) : ((List.range N).map f).getD k 0 = f k := by
  rw [List.getD_eq_getElem?_getD, List.getElem?_map, List.getElem?_range hk]; rfl
set_option maxRecDepth 100000 in
set_option maxHeartbeats 8000000 in
theorem grow_to (h : Sp w B n p A wd hv held cnt) (hc : cnt < 90000) (hl : held.length < 900) {C : Nat} (ha : 0 < N → ArAt A wd b k C f ∧ lo + N ≤ C) (ao : Option Addr) (len cp : Nat) (zs : List Int) (hlen : zs.length = len) (hit : ItAt w B p hv ao zs) (ht : N + len ≤ 16384) (h2c : 2 * c ≤ 16384) (hlo : lo ≤ 16384) (r : Bool) (hp : Roomy n A (capG c (N + len))) :
    Calls Tryd.prog 30 #[.pointer (some ⟨p, 0, none⟩), .agg #[.int .i64 b, .int .i64 lo, .int .i64 N, .int .i64 c], .slice ao len cp, .bool r] w fun e w' => FtP w B n p A wd hv held cnt (N + len) (capG c (N + len)) (kdR r) (groF f lo N zs) e w' := by
  have hcl : capG c (N + len) ≤ 16384 := by unfold capG; omega
  have hct : N + len ≤ capG c (N + len) := by unfold capG; omega
  have hcz : (2 * (c : Int) < (N : Int) + len ∧ ((capG c (N + len) : Nat) : Int) = (N : Int) + len) ∨ ((N : Int) + len ≤ 2 * c ∧ ((capG c (N + len) : Nat) : Int) = 2 * c) := by
    unfold capG
    omega
  have hF0 := (Fr.refl (fun _ => False) w).alloc (slO b lo N c)
  have HT0 := hide (To.quiet (B := B) (p := p) (hv := hv) hF0)
  have HC0 := hide (SlC.new w b lo N c)
  have HN0 : Hid (w.heap.size < (w.alloc (slO b lo N c)).heap.size ∧ ¬ SpK B p hv w.heap.size) := hide ⟨by simp, fun k => by have := (h.lt k).2; omega⟩
  have hFr := fresh_to (h.quiet hF0) hc hl (N + len) (capG c (N + len)) hcl r hp
  rw [show ((N + len : Nat) : Int) = (N : Int) + len by omega] at hFr
  have HI := hide (hit.to (unhide HT0))
  have HL := hide hlen
  have HA := hide ha
  have hf0 := slF0
  clear h hp ha hlen hit hF0
  generalize capG c (N + len) = d at *
  have hb1 : (N : Int) + len ≤ 16384 := by omega
  have hb2 : 2 * (c : Int) ≤ 16384 := by omega
  have HFr := hide hFr
  clear hFr
  rcases hcz with ⟨hcz, hcd⟩ | ⟨hcz, hcd⟩
  all_goals
    have HD := hide hcd
    rw [hcd] at HFr
    clear hcd
    go_enter Tryd.func30, Tryd.ntmps30
    go_wp2_with fail
    refine (unhide HFr).mono ?_
    rintro e w1 ⟨a, b', A2, wd2, hv1, rfl, h2, hs1, ht1⟩
    have HC1 := hide ((unhide HC0).to ht1 (unhide HN0).2)
    have HN1 := hide (ht1.off (unhide HN0).1 (unhide HN0).2)
    have HO := hide (open_to hs1 (.inr ⟨a, rfl, h2.sl⟩))
    have HS1 := hide hs1
    have HT1 := hide ((unhide HT0).trans ht1)
    have HI1 := hide ((unhide HI).to ht1)
    have H2 := hide h2
    clear h2 hs1 ht1 HFr
    generalize w.heap.size = M at *
    go_wp2_with fail
    refine (unhide HO).mono ?_
    rintro e w2 ⟨rfl, hF2⟩
    have HC2 := hide ((unhide HC1).quiet hF2)
    have HS2 := hide ((unhide HS1).quiet hF2)
    have HT2 := hide ((unhide HT1).trans (To.quiet hF2))
    have HN2 := hide ((To.quiet (B := B) (p := p) (hv := hv1) hF2).off (unhide HN1).1 (unhide HN1).2)
    have HI2 := hide ((unhide HI1).to (To.quiet hF2))
    have HG : Hid (∀ W (j : Nat), j < N → Sp W B n p A2 (wrW wd2 (b' + 1 + 0) ((List.range N).map fun j => f (lo + j)) j) hv1 held cnt → Calls Tryd.prog 16 #[.pointer (some ⟨p, 0, none⟩), .int .i64 b, .int .i64 ((lo : Int) + j)] W fun e w' => e = .returned (.int .i64 (f (lo + j))) ∧ Fr (fun _ => False) W w') := hide fun W j hj hs => by
      obtain ⟨ha, hC⟩ := unhide HA (by omega)
      have h2 := unhide H2
      have hne : ¬ b = b' := fun e => ha.room (by rw [e]; exact h2.nb)
      have hw : Olds (· = b') A2 wd2 A2 (wrW wd2 (b' + 1 + 0) ((List.range N).map fun j => f (lo + j)) j) := Olds.put hs.inv h2.ar.room rfl fun x hx => wrW_out (by have := h2.ar.big; omega)
      have h3 := (ha.keep h2.olds id).keep hw hne
      have := Get_any hs b ((lo : Int) + j)
      rw [show (lo : Int) + j = ((lo + j : Nat) : Int) by omega, h3.get (by omega)] at this
      rw [show (lo : Int) + j = ((lo + j : Nat) : Int) by omega]
      exact this
    have HSt : Hid (∀ W (j : Nat), j < N → Sp W B n p A2 (wrW wd2 (b' + 1 + 0) ((List.range N).map fun j => f (lo + j)) j) hv1 held cnt → Calls Tryd.prog 10 #[.pointer (some ⟨p, 0, none⟩), .int .i64 b', .int .i64 (j : Int), .int .i64 (f (lo + j))] W fun e w' => e = .returned (.bool true) ∧ Sp w' B n p A2 (wrW wd2 (b' + 1 + 0) ((List.range N).map fun j => f (lo + j)) (j + 1)) hv1 held cnt ∧ To B p W hv1 w' hv1) := hide fun W j hj hs => by
      have h2 := unhide H2
      have := SetS hs (j : Int) (f (lo + j)) j rfl h2.ar.room (by rw [wrW_out (by omega), h2.ar.sz]; omega)
      rw [show b' + (1 + j) = b' + 1 + 0 + j by omega, show f (lo + j) = ((List.range N).map fun j => f (lo + j)).getD j 0 from (map_getD (fun j => f (lo + j)) N j hj).symm, wrW_succ, map_getD (fun j => f (lo + j)) N j hj] at this
      exact this
    have HWr : Hid (∀ W, Sp W B n p A2 (wrW wd2 (b' + 1 + 0) ((List.range N).map fun j => f (lo + j)) N) hv1 held cnt → To B p w2 hv1 W hv1 → Calls Tryd.prog 37 #[.pointer (some ⟨p, 0, none⟩), .int .i64 b', .int .i64 N, .slice ao len cp] W fun e w' => e = .returned (.tuple #[]) ∧ FtP w B n p A wd hv held cnt (N + len) d (kdR r) (groF f lo N zs) (.returned (.tuple #[.int .i64 (a : Int), .bool true])) w') := hide fun W hs hT => by
      have h2 := unhide H2
      have hl := unhide HL
      subst hl
      have hg : ((List.range N).map fun j => f (lo + j)).length = N := by simp
      have ha1 := h2.ar.wr 0 ((List.range N).map fun j => f (lo + j))
      have hw1 := h2.ar.wr_olds (K := (· = b')) (unhide HS1).inv rfl 0 ((List.range N).map fun j => f (lo + j)) (by omega)
      rw [hg] at ha1 hw1
      refine (write_any hs b' N ao zs.length cp zs rfl ha1.room (by rw [ha1.sz]; omega) (by omega) ((unhide HI2).to hT)).mono ?_
      rintro e w' ⟨rfl, hs3, ht3⟩
      have hw2 := ha1.wr_olds (K := (· = b')) (unhide HS1).inv rfl N zs (by omega)
      refine ⟨rfl, a, b', A2, _, hv1, rfl, ⟨h2.go, (h2.sl.keep hw1 (h2.sl.ne h2.ar)).keep hw2 (h2.sl.ne h2.ar), (ha1.wr N zs).ext fun j hj => ?_, (h2.olds.but hw1 h2.nb).but hw2 h2.nb, h2.nb⟩, hs3, ((unhide HT2).trans hT).trans ht3⟩
      unfold groF
      by_cases e1 : j < N
      · rw [if_neg (by omega), if_pos (by omega), if_pos e1, Nat.sub_zero, map_getD (fun j => f (lo + j)) N j e1]
      · by_cases e2 : j < N + zs.length
        · rw [if_pos (by omega), if_neg e1, if_pos e2]
        · rw [if_neg (by omega), if_neg (by omega), if_neg e1, if_neg e2]
    have HS0 : Hid (Sp w2 B n p A2 (wrW wd2 (b' + 1 + 0) ((List.range N).map fun j => f (lo + j)) 0) hv1 held cnt) := hide (by rw [wrW_zero]; exact unhide HS2)
    have HCC : Hid (∀ W, To B p w2 hv1 W hv1 → SlC W M b lo N c) := hide fun W hT => (unhide HC2).to hT (unhide HN2).2
    have cc := (unhide HC2).cells
    clear hF2 HO HC2 HS2
    go_wp2
    go_loopw [41] (fun i wr => ∃ j : Nat, j ≤ N ∧ i = .int .i64 j ∧ Hid (Sp wr B n p A2 (wrW wd2 (b' + 1 + 0) ((List.range N).map fun j => f (lo + j)) j) hv1 held cnt ∧ To B p w2 hv1 wr hv1)) (fun i _ => N - (intOf i).toNat)
    case atStart => exact ⟨0, Nat.zero_le _, rfl, hide ⟨unhide HS0, To.refl _ _ _ _⟩⟩
    case round =>
      obtain ⟨j, hj, rfl, hK⟩ := hrel
      clear cc
      have cc := (unhide HCC _ (unhide hK).2).cells
      by_cases hlt : j < N
      · have HG1 := hide (unhide HG wr j hlt (unhide hK).1)
        have hb3 : (lo : Int) + j < 9223372036854775808 := by omega
        go_wp2_with fail
        refine (unhide HG1).mono ?_
        rintro e w3 ⟨rfl, hF3⟩
        have HT := hide (unhide HSt w3 j hlt ((unhide hK).1.quiet hF3))
        have HQ := hide ((unhide hK).2.trans (To.quiet hF3))
        clear hF3
        go_wp2_with fail
        refine (unhide HT).mono ?_
        rintro e w4 ⟨rfl, hs4, ht4⟩
        have HS4 := hide (And.intro hs4 ((unhide HQ).trans ht4))
        clear hs4 ht4
        go_wp2
        go_roundw
        case rel => exact ⟨j + 1, by omega, by go_num, HS4⟩
        case measure => simp [intOf]; omega
      · have hge : ¬ (j : Int) < N := by omega
        have hge2 : decide ((j : Int) < N) = false := decide_eq_false hge
        obtain rfl : j = N := by omega
        have HW := hide (unhide HWr _ (unhide hK).1 (unhide hK).2)
        clear hlt
        go_wp2_with fail
        refine (unhide HW).mono ?_
        rintro e w5 ⟨rfl, hE⟩
        have HE := hide hE
        clear hE
        go_wp2
        go_ret2
        exact unhide HE
end Go.Proofs.YtkclpbbpcicpiaaDoor
