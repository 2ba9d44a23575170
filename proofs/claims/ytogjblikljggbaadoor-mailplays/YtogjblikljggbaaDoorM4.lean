/- Push, Shift, Items, New. -/
import Derived.Test.YtogjblikljggbaaDoorM3
namespace Go.Proofs.YtogjblikljggbaaDoor
open Go.RowKit Go.Proofs.YtogjblikljggbaaDoor.Hp
variable {w0 w w' w1 w2 : World} {B : HB} {n p : Nat} {A A' : Nat → Kd} {wd wd' : Nat → Int} {hv hv1 hv2 : Value} {held : List Int} {cnt : Nat} {a P b cl : Nat} {r : Bool} {l : List Int}
set_option maxRecDepth 100000 in
set_option maxHeartbeats 4000000 in
theorem Push_no {z : Int} {N : Nat} (h : Sp w B n p A wd hv held cnt) (hc : ChOf A wd z b N N) (v : Int) :
    Calls Tryd.prog 11 #[.pointer (some ⟨p, 0, none⟩), .int .i64 z, .int .i64 v] w fun e w' => e = .returned (.bool false) ∧ Fr (fun _ => False) w w' := by
  have HO := hide (open_of h hc)
  clear h hc
  go_enter Tryd.func11, Tryd.ntmps11
  go_wp2_with fail
  refine (unhide HO _ (Fr.refl _ _)).mono ?_
  rintro e w1 ⟨rfl, hF1⟩
  have HF1 := hide (hF1.alloc (chO b N N))
  clear hF1
  go_wp2
  go_ret
  exact ⟨rfl, unhide HF1⟩
set_option maxRecDepth 100000 in
set_option maxHeartbeats 4000000 in
theorem Push_yes (h : Sp w B n p A wd hv held cnt) (hc : ChAt A wd a P r cl b l) (hl : l.length < P) (v : Int) :
    Calls Tryd.prog 11 #[.pointer (some ⟨p, 0, none⟩), .int .i64 a, .int .i64 v] w fun e w' => e = .returned (.bool true) ∧ To B p w hv w' hv ∧ Sp w' B n p A (puW wd a P b l.length v) hv held cnt := by
  have HO := hide (open_ch h hc)
  have hb := hc.bl (by omega)
  have hP := hc.le
  have hm := Nat.mod_lt (b + l.length) (show 0 < P by omega)
  have HI : Hid (∀ W, Calls Tryd.prog 26 #[.agg #[.int .i64 b, .int .i64 l.length, .int .i64 P], .int .i64 l.length] W fun e w' => e = .returned (.int .i64 ((4 + (b + l.length) % P : Nat) : Int)) ∧ Fr (fun _ => False) W w') := hide fun W => item_any b l.length l.length P W (by omega) (by omega) (by omega) (by omega)
  have HS : Hid (∀ W, Fr (fun _ => False) w W → Calls Tryd.prog 24 #[.pointer (some ⟨p, 0, none⟩), .int .i64 a, .int .i64 ((4 + (b + l.length) % P : Nat) : Int), .int .i64 v] W fun e w' => e = .returned (.bool true) ∧ Sp w' B n p A (upd wd (a + (1 + (4 + (b + l.length) % P))) v) hv held cnt ∧ To B p W hv w' hv) := hide fun W hW => by
    refine (SetS (h.quiet hW) _ v (4 + (b + l.length) % P) rfl hc.room (by rw [hc.sz]; omega)).mono ?_
    rintro e w' ⟨rfl, hs, ht⟩
    exact ⟨rfl, hs, ht⟩
  have HS2 : Hid (∀ W, Sp W B n p A (upd wd (a + (1 + (4 + (b + l.length) % P))) v) hv held cnt → To B p w hv W hv → Calls Tryd.prog 24 #[.pointer (some ⟨p, 0, none⟩), .int .i64 a, .int .i64 2, .int .i64 ((l.length : Int) + 1)] W fun e w' => e = .returned (.bool true) ∧ To B p w hv w' hv ∧ Sp w' B n p A (puW wd a P b l.length v) hv held cnt) := hide fun W hs ht => by
    refine (SetS hs 2 _ 2 rfl hc.room (by rw [upd_ne _ _ (by omega), hc.sz]; omega)).mono ?_
    rintro e w' ⟨rfl, hs, ht2⟩
    exact ⟨rfl, ht.trans ht2, hs⟩
  have HN : Hid (∀ N, w.heap.size ≤ N → ¬ SpK B p hv N) := hide fun N hN k => by have := (h.lt k).2; omega
  have hne : ¬ (l.length : Int) = P := by omega
  have hr : -9223372036854775808 ≤ (l.length : Int) + 1 ∧ (l.length : Int) + 1 < 9223372036854775808 := by omega
  generalize l.length = N at *
  generalize 4 + (b + N) % P = q at *
  clear h hc hb hP hm hl
  generalize (N : Int) = x1 at *
  generalize (P : Int) = x2 at *
  generalize (b : Int) = x0 at *
  generalize ((q : Nat) : Int) = q' at *
  go_enter Tryd.func11, Tryd.ntmps11
  go_wp2_with fail
  refine (unhide HO).mono ?_
  rintro e w1 ⟨rfl, hF1⟩
  have HF1 := hide (hF1.alloc (chO x0 x1 x2))
  have HC1 := hide (ChC.new w1 x0 x1 x2)
  have HM := hide (unhide HN w1.heap.size hF1.size)
  clear hF1 HO HN
  go_wp2_with fail
  refine (unhide HI _).mono ?_
  rintro e w2 ⟨rfl, hF2⟩
  have HF2 := hide ((unhide HF1).trans hF2)
  have HC2 := hide ((unhide HC1).quiet hF2)
  clear hF2 HI HF1 HC1
  generalize w1.heap.size = M at *
  go_wp2_with fail
  refine (unhide HS _ (unhide HF2)).mono ?_
  rintro e w3 ⟨rfl, hs3, ht3⟩
  have HC3 := hide ((unhide HC2).to ht3 (unhide HM))
  have HQ := hide (unhide HS2 _ hs3 ((To.quiet (unhide HF2)).trans ht3))
  have cc := (unhide HC3).cells
  clear hs3 ht3 HS HS2
  go_wp2_with fail
  refine (unhide HQ).mono ?_
  rintro e w4 ⟨rfl, hE⟩
  have HE := hide hE
  clear hE HQ cc
  go_wp2
  go_ret
  exact ⟨rfl, unhide HE⟩
set_option maxRecDepth 100000 in
set_option maxHeartbeats 4000000 in
theorem Shift_no {z : Int} (h : Sp w B n p A wd hv held cnt) (hc : ChOf A wd z b 0 P) :
    Calls Tryd.prog 12 #[.pointer (some ⟨p, 0, none⟩), .int .i64 z] w fun e w' => e = .returned (.tuple #[.int .i64 0, .bool false]) ∧ Fr (fun _ => False) w w' := by
  have HO := hide (open_of h hc)
  clear h hc
  go_enter Tryd.func12, Tryd.ntmps12
  go_wp2_with fail
  refine (unhide HO _ (Fr.refl _ _)).mono ?_
  rintro e w1 ⟨rfl, hF1⟩
  have HF1 := hide (hF1.alloc (chO b (0 : Nat) P))
  clear hF1
  go_wp2
  go_ret2
  exact ⟨rfl, unhide HF1⟩
set_option maxRecDepth 100000 in
set_option maxHeartbeats 4000000 in
theorem Shift_yes {x : Int} (h : Sp w B n p A wd hv held cnt) (hc : ChAt A wd a P r cl b (x :: l)) :
    Calls Tryd.prog 12 #[.pointer (some ⟨p, 0, none⟩), .int .i64 a] w fun e w' => e = .returned (.tuple #[.int .i64 x, .bool true]) ∧ To B p w hv w' hv ∧ Sp w' B n p A (shW wd a P b (l.length + 1)) hv held cnt := by
  have HO := hide (open_ch h hc)
  have hcn := hc.cnt
  rw [List.length_cons] at HO hcn
  have hb := hc.bl (by omega)
  have hP := hc.le
  have hm := Nat.mod_lt (b + 0) (show 0 < P by omega)
  have hm1 := Nat.mod_lt (b + 1) (show 0 < P by omega)
  have HI : Hid (∀ W, Calls Tryd.prog 26 #[.agg #[.int .i64 b, .int .i64 ((l.length + 1 : Nat) : Int), .int .i64 P], .int .i64 0] W fun e w' => e = .returned (.int .i64 ((4 + (b + 0) % P : Nat) : Int)) ∧ Fr (fun _ => False) W w') := hide fun W => item_any b (l.length + 1) 0 P W (by omega) (by omega) (by omega) (by omega)
  have HPl : Hid (∀ W, Calls Tryd.prog 27 #[.agg #[.int .i64 b, .int .i64 ((l.length + 1 : Nat) : Int), .int .i64 P], .int .i64 1] W fun e w' => e = .returned (.int .i64 ((b + 1) % P : Nat)) ∧ Fr (fun _ => False) W w') := hide fun W => plc_any b (l.length + 1) 1 P W (by omega) (by omega) (by omega)
  have HG := hide (Get_at h a ((4 + (b + 0) % P : Nat) : Int) x (by have := hc.getIt (k := 0) (by simp); exact this))
  have HS : Hid (∀ W, Fr (fun _ => False) w W → Calls Tryd.prog 24 #[.pointer (some ⟨p, 0, none⟩), .int .i64 a, .int .i64 ((4 + (b + 0) % P : Nat) : Int), .int .i64 0] W fun e w' => e = .returned (.bool true) ∧ Sp w' B n p A (upd wd (a + (1 + (4 + (b + 0) % P))) 0) hv held cnt ∧ To B p W hv w' hv) := hide fun W hW => by
    refine (SetS (h.quiet hW) _ 0 (4 + (b + 0) % P) rfl hc.room (by rw [hc.sz]; omega)).mono ?_
    rintro e w' ⟨rfl, hs, ht⟩
    exact ⟨rfl, hs, ht⟩
  have HS2 : Hid (∀ W, Sp W B n p A (upd wd (a + (1 + (4 + (b + 0) % P))) 0) hv held cnt → Calls Tryd.prog 24 #[.pointer (some ⟨p, 0, none⟩), .int .i64 a, .int .i64 1, .int .i64 ((b + 1) % P : Nat)] W fun e w' => e = .returned (.bool true) ∧ Sp w' B n p A (upd (upd wd (a + (1 + (4 + (b + 0) % P))) 0) (a + (1 + 1)) (((b + 1) % P : Nat) : Int)) hv held cnt ∧ To B p W hv w' hv) := hide fun W hs => by
    refine (SetS hs 1 _ 1 rfl hc.room (by rw [upd_ne _ _ (by omega), hc.sz]; omega)).mono ?_
    rintro e w' ⟨rfl, hs, ht2⟩
    exact ⟨rfl, hs, ht2⟩
  have HS3 : Hid (∀ W, Sp W B n p A (upd (upd wd (a + (1 + (4 + (b + 0) % P))) 0) (a + (1 + 1)) (((b + 1) % P : Nat) : Int)) hv held cnt → To B p w hv W hv → Calls Tryd.prog 24 #[.pointer (some ⟨p, 0, none⟩), .int .i64 a, .int .i64 2, .int .i64 (((l.length + 1 : Nat) : Int) - 1)] W fun e w' => e = .returned (.bool true) ∧ To B p w hv w' hv ∧ Sp w' B n p A (shW wd a P b (l.length + 1)) hv held cnt) := hide fun W hs ht => by
    refine (SetS hs 2 _ 2 rfl hc.room (by rw [upd_ne _ _ (by omega), upd_ne _ _ (by omega), hc.sz]; omega)).mono ?_
    rintro e w' ⟨rfl, hs, ht2⟩
    exact ⟨rfl, ht.trans ht2, hs⟩
  have HN : Hid (∀ N, w.heap.size ≤ N → ¬ SpK B p hv N) := hide fun N hN k => by have := (h.lt k).2; omega
  have hne : ¬ ((l.length + 1 : Nat) : Int) = 0 := by omega
  have hr : -9223372036854775808 ≤ ((l.length + 1 : Nat) : Int) - 1 ∧ ((l.length + 1 : Nat) : Int) - 1 < 9223372036854775808 := by omega
  generalize l.length + 1 = N at *
  generalize 4 + (b + 0) % P = q at *
  generalize (b + 1) % P = b1 at *
  clear h hc hb hP hm hm1 hcn
  generalize (N : Int) = x1 at *
  generalize (P : Int) = x2 at *
  generalize (b : Int) = x0 at *
  generalize ((q : Nat) : Int) = q' at *
  generalize ((b1 : Nat) : Int) = b1' at *
  go_enter Tryd.func12, Tryd.ntmps12
  go_wp2_with fail
  refine (unhide HO).mono ?_
  rintro e w1 ⟨rfl, hF1⟩
  have HF1 := hide (hF1.alloc (chO x0 x1 x2))
  have HC1 := hide (ChC.new w1 x0 x1 x2)
  have HM := hide (unhide HN w1.heap.size hF1.size)
  clear hF1 HO HN
  go_wp2_with fail
  refine (unhide HI _).mono ?_
  rintro e w2 ⟨rfl, hF2⟩
  have HF2 := hide ((unhide HF1).trans hF2)
  have HC2 := hide ((unhide HC1).quiet hF2)
  clear hF2 HF1 HC1
  generalize w1.heap.size = M at *
  go_wp2_with fail
  refine (unhide HG _ (unhide HF2)).mono ?_
  rintro e w3 ⟨rfl, hF3⟩
  have HF3 := hide ((unhide HF2).trans hF3)
  have HC3 := hide ((unhide HC2).quiet hF3)
  have cc := (unhide HC3).cells
  clear hF3 HF2 HC2 HG
  go_wp2_with fail
  clear cc
  refine (unhide HI _).mono ?_
  rintro e w4 ⟨rfl, hF4⟩
  have HF4 := hide ((unhide HF3).trans hF4)
  have HC4 := hide ((unhide HC3).quiet hF4)
  clear hF4 HF3 HC3 HI
  go_wp2_with fail
  refine (unhide HS _ (unhide HF4)).mono ?_
  rintro e w5 ⟨rfl, hs5, ht5⟩
  have HC5 := hide ((unhide HC4).to ht5 (unhide HM))
  have HT5 := hide ((To.quiet (unhide HF4)).trans ht5)
  have HS5 := hide hs5
  have cc := (unhide HC5).cells
  clear hs5 ht5 HS HC4
  go_wp2_with fail
  clear cc
  refine (unhide HPl _).mono ?_
  rintro e w6 ⟨rfl, hF6⟩
  have HC6 := hide ((unhide HC5).quiet hF6)
  have HT6 := hide ((unhide HT5).trans (To.quiet hF6))
  have HS6 := hide ((unhide HS5).quiet hF6)
  clear hF6 HPl HT5 HS5 HC5
  go_wp2_with fail
  refine (unhide HS2 _ (unhide HS6)).mono ?_
  rintro e w7 ⟨rfl, hs7, ht7⟩
  have HC7 := hide ((unhide HC6).to ht7 (unhide HM))
  have HQ := hide (unhide HS3 _ hs7 ((unhide HT6).trans ht7))
  have cc := (unhide HC7).cells
  clear hs7 ht7 HS2 HS3 HC6
  go_wp2_with fail
  refine (unhide HQ).mono ?_
  rintro e w8 ⟨rfl, hE⟩
  have HE := hide hE
  clear hE HQ cc
  go_wp2
  go_ret2
  exact ⟨rfl, unhide HE⟩
end Go.Proofs.YtogjblikljggbaaDoor
