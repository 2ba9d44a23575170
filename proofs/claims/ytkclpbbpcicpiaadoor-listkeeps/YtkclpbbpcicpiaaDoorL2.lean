/- block, fresh, write. -/
import Derived.Test.YtkclpbbpcicpiaaDoorL1
namespace Go.Proofs.YtkclpbbpcicpiaaDoor
open Go.RowKit Go.Proofs.YtkclpbbpcicpiaaDoor.Hp
variable {w0 w w' w1 w2 : World} {B : HB} {n p : Nat} {A A' : Nat → Kd} {wd wd' : Nat → Int} {hv hv1 hv2 : Value} {held : List Int} {cnt : Nat}
theorem HoldT (h : Sp w B n p A wd hv held cnt) (z : Int) (hz : -9223372036854775808 ≤ z ∧ z < 9223372036854775808) (hl : held.length < 900) :
    Calls Tryd.prog 11 #[.pointer (some ⟨p, 0, none⟩), .int .i64 z] w fun e w' => ∃ hv', e = .returned (.tuple #[]) ∧ Sp w' B n p A wd hv' (held ++ [z]) cnt ∧ To B p w hv w' hv' := by
  refine (Hold_any h z hz hl).mono ?_
  rintro e w' ⟨hv', rfl, hs, hF, hg⟩
  exact ⟨hv', rfl, hs, hF, hg⟩
theorem DropT (h : Sp w B n p A wd hv held cnt) (z : Int) (hz : -9223372036854775808 ≤ z ∧ z < 9223372036854775808) :
    Calls Tryd.prog 13 #[.pointer (some ⟨p, 0, none⟩), .int .i64 z] w fun e w' => ∃ hv', e = .returned (.tuple #[]) ∧ Sp w' B n p A wd hv' (held.take (leftN held.length z)) cnt ∧ To B p w hv w' hv' := by
  refine (Drop_any h z hz).mono ?_
  rintro e w' ⟨hv', rfl, hs, hF, hg⟩
  exact ⟨hv', rfl, hs, hF.mono fun k e => .inr (.inl e), fun g e => .inl (by rw [← hg]; exact e)⟩
theorem drop_last (l : List Int) (z : Int) : (l ++ [z]).take (leftN (l ++ [z]).length 1) = l := by
  have : leftN (l ++ [z]).length 1 = l.length := by unfold leftN; simp
  rw [this]; simp
theorem DropL {z : Int} (h : Sp w B n p A wd hv (held ++ [z]) cnt) :
    Calls Tryd.prog 13 #[.pointer (some ⟨p, 0, none⟩), .int .i64 1] w fun e w' => ∃ hv', e = .returned (.tuple #[]) ∧ Sp w' B n p A wd hv' held cnt ∧ To B p w hv w' hv' := by
  have := DropT h 1 (by omega)
  rw [drop_last] at this
  exact this
theorem SetS (h : Sp w B n p A wd hv held cnt) {x : Nat} (q v : Int) (q' : Nat) (e : q = q') (hx : roomN A x ≠ 0) (hq : (q' : Int) < hS (wd x)) :
    Calls Tryd.prog 10 #[.pointer (some ⟨p, 0, none⟩), .int .i64 x, .int .i64 q, .int .i64 v] w fun e w' => e = .returned (.bool true) ∧ Sp w' B n p A (upd wd (x + (1 + q')) v) hv held cnt ∧ To B p w hv w' hv := by
  subst e
  have hb := has_of hx hq
  refine (Set_any h x q' v).mono ?_
  rintro e w' ⟨rfl, hs, hF⟩
  unfold putW at hs
  rw [if_pos hb] at hs
  exact ⟨ret_bool hb, hs, .of (hF.mono fun k hk => .inl hk)⟩
/-- What Make answers. -/
inductive MkV (n : Nat) (A : Nat → Kd) (wd : Nat → Int) (held : List Int) (cnt : Nat) (k s m : Int) (e : Ending) (A' : Nat → Kd) (wd' : Nat → Int) (cnt' : Nat) : Prop
  | yes (a : Nat) (he : e = .returned (.tuple #[.int .i64 (a : Int), .bool true])) (h : MkS n A wd held cnt k s m (.tuple #[.int .i64 (a : Int), .bool true]) A' wd' cnt') (hr : roomN A' a ≠ 0) (hs : hS (wd' a) = s) (hc : cnt' ≤ cnt + 1)
  | no (he : e = .returned (.tuple #[.int .i64 0, .bool false])) (h : MkS n A wd held cnt k s m (.tuple #[.int .i64 0, .bool false]) A' wd' cnt') (hc : cnt' ≤ cnt + 1)
theorem MakeV (h : Sp w B n p A wd hv held cnt) (hc : cnt < 100000) {k s m : Int} (hR : Right k s m) :
    Calls Tryd.prog 9 #[.pointer (some ⟨p, 0, none⟩), .int .i64 k, .int .i64 s, .int .i64 m] w fun e w' => ∃ A' wd' cnt', MkV n A wd held cnt k s m e A' wd' cnt' ∧ Sp w' B n p A' wd' hv held cnt' ∧ To B p w hv w' hv := by
  refine (Make_any h hc k s m).mono ?_
  rintro e w' ⟨v, A', wd', cnt', hm, rfl, hs, hF⟩
  have hm' := hm
  obtain ⟨_, _, hS1, _⟩ := hdr_open hR
  cases hm with
  | no hr => exact absurd hR hr
  | at_ hr a _ g => exact ⟨_, _, _, .yes a rfl hm' (newW_room h.inv g (by omega)).1 ((congrArg hS newW_at).trans hS1) (by omega), hs, .of hF⟩
  | gc hr hn rb A1 hg a _ g => exact ⟨_, _, _, .yes a rfl hm' (newW_room hg.inv g (by omega)).1 ((congrArg hS newW_at).trans hS1) (by omega), hs, .of hF⟩
  | full hr hn rb A1 hg g => exact ⟨_, _, _, .no rfl hm' (by omega), hs, .of hF⟩
/-- What block answers. -/
inductive BkV (w : World) (B : HB) (n p : Nat) (A : Nat → Kd) (wd : Nat → Int) (hv : Value) (held : List Int) (cnt : Nat) (x0 x1 x2 x3 : Int) (e : Ending) (w' : World) : Prop
  | yes (a : Nat) (A' : Nat → Kd) (wd1 : Nat → Int) (cnt' : Nat) (hv' : Value) (he : e = .returned (.tuple #[.int .i64 (a : Int), .bool true])) (h : MkS n A wd (held ++ [x0]) cnt 4 4 1 (.tuple #[.int .i64 (a : Int), .bool true]) A' wd1 cnt') (hc : cnt' ≤ cnt + 1) (hs : Sp w' B n p A' (slW wd1 a x0 x1 x2 x3) hv' held cnt') (ht : To B p w hv w' hv')
  | no (A' : Nat → Kd) (wd1 : Nat → Int) (cnt' : Nat) (hv' : Value) (he : e = .returned (.tuple #[.int .i64 0, .bool false])) (h : MkS n A wd (held ++ [x0]) cnt 4 4 1 (.tuple #[.int .i64 0, .bool false]) A' wd1 cnt') (hc : cnt' ≤ cnt + 1) (hs : Sp w' B n p A' wd1 hv' held cnt') (ht : To B p w hv w' hv')
set_option maxRecDepth 100000 in
set_option maxHeartbeats 4000000 in
theorem block_any (h : Sp w B n p A wd hv held cnt) (hc : cnt < 100000) (hl : held.length < 900) (x0 x1 x2 x3 : Int) (hx : -9223372036854775808 ≤ x0 ∧ x0 < 9223372036854775808) :
    Calls Tryd.prog 39 #[.pointer (some ⟨p, 0, none⟩), slV x0 x1 x2 x3] w fun e w' => BkV w B n p A wd hv held cnt x0 x1 x2 x3 e w' := by
  have hF0 := (Fr.refl (fun _ => False) w).alloc (slO x0 x1 x2 x3)
  have HT0 := hide (To.quiet (B := B) (p := p) (hv := hv) hF0)
  have HS0 := hide (h.quiet hF0)
  have HC0 := hide (SlC.new w x0 x1 x2 x3)
  have HN0 : Hid (¬ SpK B p hv w.heap.size) := hide fun k => by have := (h.lt k).2; omega
  have hsz : w.heap.size < (w.alloc (slO x0 x1 x2 x3)).heap.size := by simp
  have HZ0 := hide hsz
  have HH := hide (HoldT (unhide HS0) x0 hx hl)
  clear h hF0 hsz
  go_enter Tryd.func39, Tryd.ntmps39
  go_wp2_with fail
  refine (unhide HH).mono ?_
  rintro e w1 ⟨hv1, rfl, hs1, ht1⟩
  have HN1 := hide (ht1.off (unhide HZ0) (unhide HN0))
  have HC1 := hide ((unhide HC0).to ht1 (unhide HN0))
  have HT1 := hide ((unhide HT0).trans ht1)
  have HM := hide (MakeV hs1 hc (show Right 4 4 1 by unfold Right; omega))
  clear ht1 hs1 HH
  generalize w.heap.size = N at *
  have cc := (unhide HC1).cells
  go_wp2_with fail
  clear cc
  refine (unhide HM).mono ?_
  rintro e w2 ⟨A', wd', cnt', hm, hs2, ht2⟩
  have HN2 := hide (ht2.off (unhide HN1).1 (unhide HN1).2)
  have HC2 := hide ((unhide HC1).to ht2 (unhide HN1).2)
  have HT2 := hide ((unhide HT1).trans ht2)
  have HD := hide (DropL hs2)
  clear ht2 hs2 HM
  cases hm with
  | yes a he hm hr hs hcn =>
    subst he
    have HMk := hide hm
    clear hm
    go_wp2_with fail
    refine (unhide HD).mono ?_
    rintro e w3 ⟨hv3, rfl, hs3, ht3⟩
    have HN3 := hide (ht3.off (unhide HN2).1 (unhide HN2).2)
    have HC3 := hide ((unhide HC2).to ht3 (unhide HN2).2)
    have HT3 := hide ((unhide HT2).trans ht3)
    have HS3 := hide (SetS hs3 0 x0 0 rfl hr (by rw [hs]; decide))
    clear ht3 hs3 HD
    have cc := (unhide HC3).cells
    go_wp2_with fail
    clear cc
    refine (unhide HS3).mono ?_
    rintro e w4 ⟨rfl, hs4, ht4⟩
    have HN4 := hide (ht4.off (unhide HN3).1 (unhide HN3).2)
    have HC4 := hide ((unhide HC3).to ht4 (unhide HN3).2)
    have HT4 := hide ((unhide HT3).trans ht4)
    have HS4 := hide (SetS hs4 1 x1 1 rfl hr (by rw [upd_ne _ _ (by omega), hs]; decide))
    clear ht4 hs4 HS3
    have cc := (unhide HC4).cells
    go_wp2_with fail
    clear cc
    refine (unhide HS4).mono ?_
    rintro e w5 ⟨rfl, hs5, ht5⟩
    have HN5 := hide (ht5.off (unhide HN4).1 (unhide HN4).2)
    have HC5 := hide ((unhide HC4).to ht5 (unhide HN4).2)
    have HT5 := hide ((unhide HT4).trans ht5)
    have HS5 := hide (SetS hs5 2 x2 2 rfl hr (by rw [upd_ne _ _ (by omega), upd_ne _ _ (by omega), hs]; decide))
    clear ht5 hs5 HS4
    have cc := (unhide HC5).cells
    go_wp2_with fail
    clear cc
    refine (unhide HS5).mono ?_
    rintro e w6 ⟨rfl, hs6, ht6⟩
    have HN6 := hide (ht6.off (unhide HN5).1 (unhide HN5).2)
    have HC6 := hide ((unhide HC5).to ht6 (unhide HN5).2)
    have HT6 := hide ((unhide HT5).trans ht6)
    have HS6 := hide (SetS hs6 3 x3 3 rfl hr (by rw [upd_ne _ _ (by omega), upd_ne _ _ (by omega), upd_ne _ _ (by omega), hs]; decide))
    clear ht6 hs6 HS5
    have cc := (unhide HC6).cells
    go_wp2_with fail
    clear cc
    refine (unhide HS6).mono ?_
    rintro e w7 ⟨rfl, hs7, ht7⟩
    have HE := hide (BkV.yes a A' wd' cnt' hv3 rfl (unhide HMk) hcn hs7 ((unhide HT6).trans ht7))
    clear ht7 hs7 HS6 hcn hs hr
    go_wp2
    go_ret2
    exact unhide HE
  | no he hm hcn =>
    subst he
    have HMk := hide hm
    clear hm
    go_wp2_with fail
    refine (unhide HD).mono ?_
    rintro e w3 ⟨hv3, rfl, hs3, ht3⟩
    have HE := hide (BkV.no (x1 := x1) (x2 := x2) (x3 := x3) A' wd' cnt' hv3 rfl (unhide HMk) hcn hs3 ((unhide HT2).trans ht3))
    clear ht3 hs3 HD hcn
    go_wp2
    go_ret2
    exact unhide HE
end Go.Proofs.YtkclpbbpcicpiaaDoor
