/- ListFull, walked. -/
import Derived.Test.YtkclpbbpcicpiaaDoorRo
namespace Go.Proofs.YtkclpbbpcicpiaaDoor
open Go.RowKit Go.Proofs.YtkclpbbpcicpiaaDoor.Hp
variable {w0 w w' w1 w2 : World} {B : HB} {n p m d q : Nat} {A A' A1 A2 : Nat → Kd} {wd wd' wd1 wd2 : Nat → Int} {hv hv1 hv2 : Value} {held : List Int} {cnt cnt' : Nat} {a b lo N c k x : Nat} {f : Nat → Int} {z y : Int} {rb : Nat → Bool}
theorem mks_yes {kk s mm : Int} (hM : MkS n A wd held cnt kk s mm (.tuple #[.int .i64 (a : Int), .bool true]) A' wd' cnt') (hI : Inv n A) : ∃ A0, Inv n A0 ∧ Goes n A0 (1 + s.toNat) a A' ∧ wd' = newW wd a (1 + s.toNat) (hdr kk s mm) ∧ (A0 = A ∨ ∃ rb, Gc n A wd held rb A0) := by
  generalize hv : Value.tuple #[.int .i64 (a : Int), .bool true] = v at hM
  cases hM with
  | no _ => exact absurd (tup_inj hv).2 (by decide)
  | at_ _ x _ g =>
    obtain rfl : a = x := by have := (tup_inj hv).1; omega
    exact ⟨A, hI, g, rfl, .inl rfl⟩
  | gc _ _ rb A1 hg x _ g =>
    obtain rfl : a = x := by have := (tup_inj hv).1; omega
    exact ⟨A1, hg.inv, g, rfl, .inr ⟨rb, hg⟩⟩
  | full _ _ rb _ hg _ => exact absurd (tup_inj hv).2 (by decide)
set_option maxRecDepth 100000 in
set_option maxHeartbeats 4000000 in
theorem New_any2 (h : Sp w B n p A wd hv held cnt) (hc : cnt < 90000) (hl : held.length < 900) (N : Nat) (hcap : N ≤ 16384) (r : Bool) :
    Calls Tryd.prog 19 #[.pointer (some ⟨p, 0, none⟩), .int .i64 N, .bool r] w fun e w' => FsV w B n p A wd hv held cnt N N (kdR r) e w' := by
  have HF := hide (fresh_any h hc hl N N hcap r)
  clear h
  go_enter Tryd.func19, Tryd.ntmps19
  go_wp2_with fail
  refine (unhide HF).mono ?_
  rintro e w' hE
  have HE := hide hE
  cases hE with
  | yes a b A1 wd1 cnt1 A2 wd2 cnt2 hv' he h1 h2 hI hc hs ht =>
    subst he
    clear h1 h2 hI hc hs ht HF
    go_wp2
    go_ret2
    exact unhide HE
  | no1 A1 wd1 cnt1 he h1 hs ht =>
    subst he
    clear h1 hs ht HF
    go_wp2
    go_ret2
    exact unhide HE
  | no2 b A1 wd1 cnt1 A2 wd2 cnt2 rb A3 hv' he h1 h2 hI hI2 hg hs ht =>
    subst he
    clear h1 h2 hI hI2 hg hs ht HF
    go_wp2
    go_ret2
    exact unhide HE
/-- A new slice, or none; what is held stays. -/
def NewF (w0 : World) (B : HB) (n p a b : Nat) (N : Nat) (e : Ending) (w' : World) : Prop :=
  ∃ (z : Int) (r : Bool) (x : Nat) (A' : Nat → Kd) (wd' : Nat → Int) (hv' : Value) (cnt' : Nat), e = .returned (.tuple #[.int .i64 z, .bool r]) ∧ Lw w0 w' B n p A' wd' hv' [(a : Int)] cnt' ∧ Kf A' wd' a b 0 1 1 1 1 (fun j => [7].getD j 0) ∧ ((r = true ∧ SlOf A' wd' z x 0 N N) ∨ (r = false ∧ z = 0))
theorem new_full (h : Lw w0 w B n p A wd hv [(a : Int)] 0) (hK : Kf A wd a b 0 1 1 1 1 (fun j => [7].getD j 0)) (N : Nat) (hN : N ≤ 16384) :
    Calls Tryd.prog 19 #[.pointer (some ⟨p, 0, none⟩), .int .i64 N, .bool true] w fun e w' => NewF w0 B n p a b N e w' := by
  refine (New_any2 h.sp (by omega) (by simp) N hN true).mono ?_
  rintro e w' (⟨x, b2, A1, wd1, cnt1, A2, wd2, cnt2, hv', rfl, h1, h2, hI, _, hs, ht⟩ | ⟨A1, wd1, cnt1, rfl, h1, hs, ht⟩ | ⟨b2, A1, wd1, cnt1, A2, wd2, cnt2, rb, A3, hv', rfl, h1, h2, hI, hI2, hg, hs, ht⟩)
  · have k1 := hK.made h1 h.sp.inv hI (by simp)
    obtain ⟨A0, hI0, g, rfl, hA⟩ := mks_yes h2 hI
    have k2 : Kf A0 wd1 a b 0 1 1 1 1 (fun j => [7].getD j 0) := by
      rcases hA with rfl | ⟨rb, hg⟩
      · exact k1
      · exact k1.gc hg (by simp)
    exact ⟨x, true, b2, A2, _, hv', cnt2, rfl, h.step hs ht, k2.keep (sl_olds _ hI0 hs.inv g wd1 b2 0 N N), .inl ⟨rfl, .inr ⟨x, rfl, sl_new hI0 g wd1 b2 0 N N⟩⟩⟩
  · exact ⟨0, false, 0, A1, wd1, hv, cnt1, rfl, h.step hs ht, hK.made h1 h.sp.inv hs.inv (by simp), .inr ⟨rfl, rfl⟩⟩
  · have k1 := hK.made h1 h.sp.inv hI (by simp)
    have k2 := k1.made h2 hI hI2 (by simp)
    exact ⟨0, false, 0, A3, wd2, hv', cnt2 + 1, rfl, h.step hs ht, k2.gc hg (by simp), .inr ⟨rfl, rfl⟩⟩
set_option maxRecDepth 100000 in
set_option maxHeartbeats 8000000 in
theorem full_big (x q : Int) (w : World) (hV : Vars w) (hx : x < 0 ∨ (0 ≤ x ∧ 3000 < x) ∨ (0 ≤ x ∧ x ≤ 3000 ∧ q < 192) ∨ (0 ≤ x ∧ x ≤ 3000 ∧ 192 ≤ q ∧ 2048 < q)) :
    Calls Tryd.prog 4 #[.int .i64 x, .int .i64 q] w fun e w' => e = .returned (.bool true) ∧ Fr (fun _ => False) w w' := by
  have HA := hide (anchor_any w hV)
  clear hV
  rcases hx with h1 | ⟨h1, h2⟩ | ⟨h1, h2, h3⟩ | ⟨h1, h2, h3, h4⟩
  all_goals
    go_enter Tryd.func4, Tryd.ntmps4
    go_wp2_with fail
    refine (unhide HA).mono ?_
    rintro e w1 ⟨rfl, hF1, _⟩
    have HF1 := hide hF1
    clear hF1
    go_wp2
    go_ret
    exact ⟨rfl, unhide HF1⟩
set_option maxRecDepth 100000 in
set_option maxHeartbeats 16000000 in
theorem full_main (x q : Nat) (w : World) (hV : Vars w) (hx : x ≤ 3000) (hq : 192 ≤ q) (hq2 : q ≤ 2048) :
    Calls Tryd.prog 4 #[.int .i64 x, .int .i64 q] w fun e w' => e = .returned (.bool true) ∧ Fr (fun _ => False) w w' := by
  have HA := hide (anchor_any w hV)
  have k1 : (0 : Int) ≤ x := by omega
  have k2 : (x : Int) ≤ 3000 := by omega
  have k3 : (192 : Int) ≤ q := by omega
  have k4 : (q : Int) ≤ 2048 := by omega
  clear hV
  go_enter Tryd.func4, Tryd.ntmps4
  go_wp2_with fail
  refine (unhide HA).mono ?_
  rintro e w1 ⟨rfl, hF1, hV1⟩
  have HF1 := hide hF1
  have HN := hide (SNew_any q w1 (by omega) (by omega) hV1)
  clear hF1 HA hV1
  go_wp2_with fail
  refine (unhide HN).mono ?_
  rintro e w2 ⟨B, p, rfl, hL⟩
  have HL := hide hL
  have hq1 := (Fr.refl (fun _ => False) w2).alloc (.cells #[.int .i64 7] 3)
  have HO := hide (Of_to (hL.sp.quiet hq1) (by omega) (by simp) (some ⟨w2.heap.size, 0, none⟩) 1 1 [7] rfl (it_one hL.sp 7 3) (by omega) false ((Suf.start (q / 64)).roomy (d := 1) (by omega) (by omega) (by omega)))
  clear hL HN hq1
  go_wp2_with fail
  refine (unhide HO).mono ?_
  rintro e w3 ⟨a, b, A3, wd3, hv3, rfl, h3, hs3, ht3⟩
  have HL3 := hide (((unhide HL).quiet ((Fr.refl (fun _ => False) w2).alloc (.cells #[.int .i64 7] 3))).step hs3 ht3)
  have HK : Hid (Kf A3 wd3 a b 0 1 1 1 1 (fun j => [7].getD j 0)) := hide ⟨h3.sl, h3.ar⟩
  have haz := hs3.b_lt h3.sl.room
  have HH := hide (HoldT hs3 a (by omega) (by simp))
  clear h3 hs3 ht3 HO HL
  go_wp2_with fail
  refine (unhide HH).mono ?_
  rintro e w4 ⟨hv4, rfl, hs4, ht4⟩
  have HNw := hide (new_full ((unhide HL3).step hs4 ht4) (unhide HK) x (by omega))
  clear hs4 ht4 HH HK HL3
  go_wp2_with fail
  refine (unhide HNw).mono ?_
  rintro e w5 ⟨z, r, b5, A5, wd5, hv5, cnt5, rfl, hL5, hK5, hz⟩
  have hAt := At_in hL5.sp (.inr ⟨a, rfl, hK5.sl⟩) (i := 0) hK5.ar (by omega) (by omega)
  have HAt : Hid (Calls Tryd.prog 15 #[.pointer (some ⟨p, 0, none⟩), .int .i64 a, .int .i64 0] w5 fun e w' => e = .returned (.tuple #[.int .i64 7, .bool true]) ∧ Fr (fun _ => False) w5 w') := hide hAt
  have HL5 := hide hL5
  clear hL5 hK5 hAt HNw
  go_wp2_with fail
  refine (unhide HAt).mono ?_
  rintro e w6 ⟨rfl, hF6⟩
  have HL6 := hide ((unhide HL5).quiet hF6)
  clear hF6 HAt HL5
  rcases hz with ⟨rfl, hz⟩ | ⟨rfl, rfl⟩
  · have HS := hide (Size_to (unhide HL6).sp hz)
    clear hz
    go_wp2_with fail
    refine (unhide HS).mono ?_
    rintro e w7 ⟨rfl, hF7⟩
    have HF7 := hide ((unhide HF1).trans ((unhide HL6).quiet hF7).far)
    clear hF7 HS
    go_wp2
    go_ret
    exact ⟨rfl, unhide HF7⟩
  · have HS := hide (Size_to (z := 0) (unhide HL6).sp (.inl ⟨rfl, rfl, rfl, rfl, rfl⟩))
    go_wp2_with fail
    refine (unhide HS).mono ?_
    rintro e w7 ⟨rfl, hF7⟩
    have HF7 := hide ((unhide HF1).trans ((unhide HL6).quiet hF7).far)
    clear hF7 HS
    go_wp2
    go_ret
    exact ⟨rfl, unhide HF7⟩
theorem lfull_any (x q : Int) (w : World) (hV : Vars w) (_hx : -9223372036854775808 ≤ x ∧ x < 9223372036854775808) (_hq : -9223372036854775808 ≤ q ∧ q < 9223372036854775808) :
    Calls Tryd.prog 4 #[.int .i64 x, .int .i64 q] w fun e w' => e = .returned (.bool true) ∧ Below w.heap.size w w' := by
  have key : Calls Tryd.prog 4 #[.int .i64 x, .int .i64 q] w fun e w' => e = .returned (.bool true) ∧ Fr (fun _ => False) w w' := by
    by_cases h : x < 0 ∨ 3000 < x ∨ q < 192 ∨ 2048 < q
    · exact full_big x q w hV (by omega)
    · obtain ⟨m, rfl⟩ := Int.eq_ofNat_of_zero_le (show 0 ≤ x by omega)
      obtain ⟨k, rfl⟩ := Int.eq_ofNat_of_zero_le (show 0 ≤ q by omega)
      exact full_main m k w hV (by omega) (by omega) (by omega)
  exact key.mono fun _ _ h => ⟨h.1, h.2.below (Nat.le_refl _) (fun _ x => x.elim)⟩
end Go.Proofs.YtkclpbbpcicpiaaDoor
