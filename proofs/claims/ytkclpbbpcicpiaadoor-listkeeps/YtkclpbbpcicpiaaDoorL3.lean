/- fresh, write. -/
import Derived.Test.YtkclpbbpcicpiaaDoorL2
namespace Go.Proofs.YtkclpbbpcicpiaaDoor
open Go.RowKit Go.Proofs.YtkclpbbpcicpiaaDoor.Hp
variable {w0 w w' w1 w2 : World} {B : HB} {n p : Nat} {A A' : Nat → Kd} {wd wd' : Nat → Int} {hv hv1 hv2 : Value} {held : List Int} {cnt : Nat}
def kdR (r : Bool) : Nat := if r then 2 else 1
theorem kdR_or (r : Bool) : kdR r = 1 ∨ kdR r = 2 := by cases r <;> simp [kdR]
/-- What fresh answers. -/
inductive FsV (w : World) (B : HB) (n p : Nat) (A : Nat → Kd) (wd : Nat → Int) (hv : Value) (held : List Int) (cnt N c k : Nat) (e : Ending) (w' : World) : Prop
  | yes (a b : Nat) (A1 : Nat → Kd) (wd1 : Nat → Int) (cnt1 : Nat) (A2 : Nat → Kd) (wd2 : Nat → Int) (cnt2 : Nat) (hv' : Value) (he : e = .returned (.tuple #[.int .i64 (a : Int), .bool true])) (h1 : MkS n A wd held cnt k c 0 (.tuple #[.int .i64 (b : Int), .bool true]) A1 wd1 cnt1) (h2 : MkS n A1 wd1 (held ++ [(b : Int)]) cnt1 4 4 1 (.tuple #[.int .i64 (a : Int), .bool true]) A2 wd2 cnt2) (hI : Inv n A1) (hc : cnt2 ≤ cnt + 2) (hs : Sp w' B n p A2 (slW wd2 a b 0 N c) hv' held cnt2) (ht : To B p w hv w' hv')
  | no1 (A1 : Nat → Kd) (wd1 : Nat → Int) (cnt1 : Nat) (he : e = .returned (.tuple #[.int .i64 0, .bool false])) (h1 : MkS n A wd held cnt k c 0 (.tuple #[.int .i64 0, .bool false]) A1 wd1 cnt1) (hs : Sp w' B n p A1 wd1 hv held cnt1) (ht : To B p w hv w' hv)
  | no2 (b : Nat) (A1 : Nat → Kd) (wd1 : Nat → Int) (cnt1 : Nat) (A2 : Nat → Kd) (wd2 : Nat → Int) (cnt2 : Nat) (rb : Nat → Bool) (A3 : Nat → Kd) (hv' : Value) (he : e = .returned (.tuple #[.int .i64 0, .bool false])) (h1 : MkS n A wd held cnt k c 0 (.tuple #[.int .i64 (b : Int), .bool true]) A1 wd1 cnt1) (h2 : MkS n A1 wd1 (held ++ [(b : Int)]) cnt1 4 4 1 (.tuple #[.int .i64 0, .bool false]) A2 wd2 cnt2) (hI : Inv n A1) (hI2 : Inv n A2) (hg : Gc n A2 wd2 held rb A3) (hs : Sp w' B n p A3 wd2 hv' held (cnt2 + 1)) (ht : To B p w hv w' hv')
set_option maxRecDepth 100000 in
set_option maxHeartbeats 4000000 in
theorem fresh_any (h : Sp w B n p A wd hv held cnt) (hc : cnt < 90000) (hl : held.length < 900) (N c : Nat) (hcap : c ≤ 16384) (r : Bool) :
    Calls Tryd.prog 38 #[.pointer (some ⟨p, 0, none⟩), .int .i64 N, .int .i64 c, .bool r] w fun e w' => FsV w B n p A wd hv held cnt N c (kdR r) e w' := by
  have HM := hide (MakeV h (by omega) (ar_right (kdR_or r) hcap))
  clear h
  generalize hk : kdR r = k at *
  have ek : (k : Int) = if r = true then 2 else 1 := by rw [← hk]; cases r <;> rfl
  clear hk
  cases r
  all_goals
    simp only [Bool.false_eq_true, if_false, if_true] at ek
    rw [ek] at HM
    go_enter Tryd.func38, Tryd.ntmps38
    go_wp2_with fail
    refine (unhide HM).mono ?_
    rintro e w1 ⟨A1, wd1, cnt1, hm, hs1, ht1⟩
    rw [← ek] at hm
    clear HM ek
    cases hm with
    | no he hm hcn =>
      subst he
      have HE := hide (FsV.no1 (N := N) A1 wd1 cnt1 rfl hm hs1 ht1)
      clear hm hs1 ht1 hcn
      go_wp2
      go_ret2
      exact unhide HE
    | yes b he hm hr hsz hcn =>
      subst he
      have hb := room_in hs1.inv hr
      have hhi := hs1.hi
      have HB := hide (block_any hs1 (by omega) hl (b : Int) 0 (N : Int) (c : Int) (by omega))
      have HI1 := hide hs1.inv
      have HMk := hide hm
      have HT1 := hide ht1
      clear hm hs1 ht1 hr hsz hb hhi
      go_wp2_with fail
      refine (unhide HB).mono ?_
      rintro e w2 hb
      clear HB
      cases hb with
      | yes a A2 wd2 cnt2 hv2 he hm2 hcn2 hs2 ht2 =>
        subst he
        have HE := hide (FsV.yes a b A1 wd1 cnt1 A2 wd2 cnt2 hv2 rfl (unhide HMk) hm2 (unhide HI1) (by omega) hs2 ((unhide HT1).trans ht2))
        clear hm2 hs2 ht2 hcn2 hcn
        go_wp2
        go_ret2
        exact unhide HE
      | no A2 wd2 cnt2 hv2 he hm2 hcn2 hs2 ht2 =>
        subst he
        have HC := hide (SCollect_any hs2 (by omega))
        have HI2 := hide hs2.inv
        have HMk2 := hide hm2
        have HT2 := hide ((unhide HT1).trans ht2)
        clear hm2 hs2 ht2 hcn2 hcn
        go_wp2_with fail
        refine (unhide HC).mono ?_
        rintro e w3 ⟨rb, A3, hg, rfl, hs3, hF3⟩
        have HE := hide (FsV.no2 (N := N) b A1 wd1 cnt1 A2 wd2 cnt2 rb A3 hv2 rfl (unhide HMk) (unhide HMk2) (unhide HI1) (unhide HI2) hg hs3 ((unhide HT2).trans (.of hF3)))
        clear hg hs3 hF3 HC
        go_wp2
        go_ret2
        exact unhide HE
/-- Items in a slice that is none of the space's. -/
def ItAt (w : World) (B : HB) (p : Nat) (hv : Value) (ao : Option Addr) (zs : List Int) : Prop := ∃ g off, ao = some ⟨g, off, none⟩ ∧ g < w.heap.size ∧ ¬ SpK B p hv g ∧ ∀ j, j < zs.length → w.cell? ⟨g, off + j, none⟩ = some (.int .i64 (zs.getD j 0))
theorem ItAt.to {ao : Option Addr} {zs : List Int} (h : ItAt w B p hv ao zs) (k : To B p w hv w' hv1) : ItAt w' B p hv1 ao zs := by
  obtain ⟨g, off, e, h1, h2, h3⟩ := h
  exact ⟨g, off, e, (k.off h1 h2).1, (k.off h1 h2).2, fun j hj => k.cell h1 h2 (h3 j hj)⟩
set_option maxRecDepth 100000 in
set_option maxHeartbeats 4000000 in
theorem write_any (h : Sp w B n p A wd hv held cnt) (b lo : Nat) (ao : Option Addr) (len cp : Nat) (zs : List Int) (hlen : zs.length = len) (hb : roomN A b ≠ 0) (hS : ((lo + len : Nat) : Int) ≤ hS (wd b)) (hlo : lo + len ≤ 16384) (hit : ItAt w B p hv ao zs) :
    Calls Tryd.prog 37 #[.pointer (some ⟨p, 0, none⟩), .int .i64 b, .int .i64 lo, .slice ao len cp] w fun e w' => e = .returned (.tuple #[]) ∧ Sp w' B n p A (wrW wd (b + 1 + lo) zs len) hv held cnt ∧ To B p w hv w' hv := by
  have HSt : Hid (∀ W (k : Nat), k < len → Sp W B n p A (wrW wd (b + 1 + lo) zs k) hv held cnt → Calls Tryd.prog 10 #[.pointer (some ⟨p, 0, none⟩), .int .i64 b, .int .i64 ((lo : Int) + k), .int .i64 (zs.getD k 0)] W fun e w' => e = .returned (.bool true) ∧ Sp w' B n p A (wrW wd (b + 1 + lo) zs (k + 1)) hv held cnt ∧ To B p W hv w' hv) := hide fun W k hk hs => by
    have := SetS hs ((lo : Int) + k) (zs.getD k 0) (lo + k) (by omega) hb (by rw [wrW_out (by omega)]; omega)
    rw [show b + (1 + (lo + k)) = b + 1 + lo + k by omega, wrW_succ] at this
    exact this
  obtain ⟨g, off, rfl, hg1, hg2, hg3⟩ := hit
  rw [hlen] at hg3
  have HI : Hid (∀ W k, To B p w hv W hv → k < len → W.cell? ⟨g, off + k, none⟩ = some (.int .i64 (zs.getD k 0))) := hide fun W k hT hk => hT.cell hg1 hg2 (hg3 k hk)
  have HS0 := hide h
  clear h hlen hb hS hg1 hg2 hg3
  generalize zs.getD = f at *
  go_enter Tryd.func37, Tryd.ntmps37
  go_wp2
  go_loopw [12] (fun i wr => ∃ k : Nat, k ≤ len ∧ i = .int .i64 k ∧ Hid (Sp wr B n p A (wrW wd (b + 1 + lo) zs k) hv held cnt ∧ To B p w hv wr hv)) (fun i _ => len - (intOf i).toNat)
  case atStart => exact ⟨0, Nat.zero_le _, rfl, hide ⟨by rw [wrW_zero]; exact unhide HS0, To.refl _ _ _ _⟩⟩
  case round =>
    obtain ⟨k, hk, rfl, hK⟩ := hrel
    by_cases hlt : k < len
    · have HT := hide (unhide HSt wr k hlt (unhide hK).1)
      have hcell := unhide HI _ k (unhide hK).2 hlt
      have HRel : Hid (∀ W', Sp W' B n p A (wrW wd (b + 1 + lo) zs (k + 1)) hv held cnt → To B p wr hv W' hv → Sp W' B n p A (wrW wd (b + 1 + lo) zs (k + 1)) hv held cnt ∧ To B p w hv W' hv) := hide fun W' h1 h2 => ⟨h1, (unhide hK).2.trans h2⟩
      go_wp2_with fail
      refine (unhide HT).mono ?_
      rintro e w3 ⟨rfl, hs3, ht3⟩
      have HS3 := hide (unhide HRel _ hs3 ht3)
      clear hs3 ht3
      go_wp2
      go_roundw
      case rel => exact ⟨k + 1, by omega, by go_num, HS3⟩
      case measure => simp [intOf]; omega
    · have hge : ¬ (k : Int) < len := by omega
      have hge2 : decide ((k : Int) < len) = false := decide_eq_false hge
      obtain rfl : k = len := by omega
      clear hlt
      go_wp2
      go_end0
      exact ⟨rfl, (unhide hK).1, (unhide hK).2⟩
end Go.Proofs.YtkclpbbpcicpiaaDoor
