/- place, item, Count, Closed, Close. -/
import Derived.Test.YtogjblikljggbaaDoorM2
namespace Go.Proofs.YtogjblikljggbaaDoor
open Go.RowKit Go.Proofs.YtogjblikljggbaaDoor.Hp
variable {w0 w w' w1 w2 : World} {B : HB} {n p : Nat} {A A' : Nat → Kd} {wd wd' : Nat → Int} {hv hv1 hv2 : Value} {held : List Int} {cnt : Nat} {a P b cl : Nat} {r : Bool} {l : List Int}
set_option maxRecDepth 100000 in
set_option maxHeartbeats 2000000 in
theorem plc_any (b N k P : Nat) (w : World) (hP : 0 < P) (hb : b ≤ 2000) (hk : k ≤ 2000) :
    Calls Tryd.prog 27 #[.agg #[.int .i64 b, .int .i64 N, .int .i64 P], .int .i64 k] w fun e w' => e = .returned (.int .i64 ((b + k) % P : Nat)) ∧ Fr (fun _ => False) w w' := by
  have HF := hide ((Fr.refl (fun _ => False) w).alloc (chO b N P))
  have h0 : ¬ P = 0 := by omega
  have h1 : ¬ (P : Int) = 0 := by omega
  have hw : (b : Int) + k = ((b + k : Nat) : Int) := by omega
  have hc : ((b + k : Nat) : Int) < 9223372036854775808 := by omega
  generalize b + k = q at *
  go_enter Tryd.func27, Tryd.ntmps27
  go_wp2
  go_ret
  exact ⟨rfl, unhide HF⟩
set_option maxRecDepth 100000 in
set_option maxHeartbeats 2000000 in
theorem item_any (b N k P : Nat) (w : World) (hP : 0 < P) (hb : b ≤ 2000) (hk : k ≤ 2000) (hP2 : P ≤ 2000) :
    Calls Tryd.prog 26 #[.agg #[.int .i64 b, .int .i64 N, .int .i64 P], .int .i64 k] w fun e w' => e = .returned (.int .i64 ((4 + (b + k) % P : Nat) : Int)) ∧ Fr (fun _ => False) w w' := by
  have hF := ((Fr.refl (fun _ => False) w).alloc (chO b N P))
  have HP : Hid (∀ W, Fr (fun _ => False) w W → Calls Tryd.prog 27 #[.agg #[.int .i64 b, .int .i64 N, .int .i64 P], .int .i64 k] W fun e w' => e = .returned (.int .i64 ((b + k) % P : Nat)) ∧ Fr (fun _ => False) w w') := hide fun W hW => (plc_any b N k P W hP hb hk).mono fun _ _ x => ⟨x.1, hW.trans x.2⟩
  have HF := hide hF
  have hm := Nat.mod_lt (b + k) hP
  generalize (b + k) % P = q at *
  have hw : 4 + (q : Int) = ((4 + q : Nat) : Int) := by omega
  have hc : ((4 + q : Nat) : Int) < 9223372036854775808 := by omega
  generalize 4 + q = q2 at *
  clear hF hm
  go_enter Tryd.func26, Tryd.ntmps26
  go_wp2_with fail
  refine (unhide HP _ (unhide HF)).mono ?_
  rintro e w1 ⟨rfl, hF1⟩
  have HF1 := hide hF1
  clear hF1 HP
  go_wp2
  go_ret
  exact ⟨rfl, unhide HF1⟩
/-- The word z is a channel, or nil. -/
def ChOf (A : Nat → Kd) (wd : Nat → Int) (z : Int) (b N P : Nat) : Prop := (z = 0 ∧ b = 0 ∧ N = 0 ∧ P = 0) ∨ ∃ (a : Nat) (r : Bool) (cl : Nat) (l : List Int), z = a ∧ N = l.length ∧ ChAt A wd a P r cl b l
theorem open_of {z : Int} {N : Nat} (h : Sp w B n p A wd hv held cnt) (hc : ChOf A wd z b N P) :
    ∀ W, Fr (fun _ => False) w W → Calls Tryd.prog 25 #[.pointer (some ⟨p, 0, none⟩), .int .i64 z] W fun e w' => e = .returned (.agg #[.int .i64 b, .int .i64 N, .int .i64 P]) ∧ Fr (fun _ => False) w w' := by
  intro W hW
  rcases hc with ⟨rfl, rfl, rfl, rfl⟩ | ⟨a, r, cl, l, rfl, rfl, hc⟩
  · exact (open_nil (h.quiet hW)).mono fun _ _ x => ⟨x.1, hW.trans x.2⟩
  · exact (open_ch (h.quiet hW) hc).mono fun _ _ x => ⟨x.1, hW.trans x.2⟩
set_option maxRecDepth 100000 in
set_option maxHeartbeats 4000000 in
theorem Count_of {z : Int} {N : Nat} (h : Sp w B n p A wd hv held cnt) (hc : ChOf A wd z b N P) :
    Calls Tryd.prog 14 #[.pointer (some ⟨p, 0, none⟩), .int .i64 z] w fun e w' => e = .returned (.tuple #[.int .i64 N, .int .i64 P]) ∧ Fr (fun _ => False) w w' := by
  have HO := hide (open_of h hc)
  clear h hc
  go_enter Tryd.func14, Tryd.ntmps14
  go_wp2_with fail
  refine (unhide HO _ (Fr.refl _ _)).mono ?_
  rintro e w1 ⟨rfl, hF1⟩
  have HF1 := hide (hF1.alloc (chO b N P))
  clear hF1
  go_wp2
  go_region
  go_wp2
  go_ret2
  exact ⟨rfl, (unhide HF1).drew⟩
set_option maxRecDepth 100000 in
set_option maxHeartbeats 4000000 in
theorem Closed_any {z v : Int} (h : Sp w B n p A wd hv held cnt) (e : getI A wd z 0 = v) :
    Calls Tryd.prog 16 #[.pointer (some ⟨p, 0, none⟩), .int .i64 z] w fun e w' => e = .returned (.bool (v == 1)) ∧ Fr (fun _ => False) w w' := by
  have HG := hide (Get_at h z 0 v e)
  clear h e
  go_enter Tryd.func16, Tryd.ntmps16
  go_wp2_with fail
  refine (unhide HG _ (Fr.refl _ _)).mono ?_
  rintro e w1 ⟨rfl, hF1⟩
  have HF1 := hide hF1
  clear hF1
  go_wp2
  go_ret
  exact ⟨rfl, unhide HF1⟩
set_option maxRecDepth 100000 in
set_option maxHeartbeats 4000000 in
theorem Close_nil (h : Sp w B n p A wd hv held cnt) :
    Calls Tryd.prog 13 #[.pointer (some ⟨p, 0, none⟩), .int .i64 0] w fun e w' => e = .returned (.bool false) ∧ To B p w hv w' hv ∧ Sp w' B n p A wd hv held cnt := by
  have HC := hide (Closed_any h (get_nil h.inv 0))
  have HS : Hid (∀ W, Fr (fun _ => False) w W → Calls Tryd.prog 24 #[.pointer (some ⟨p, 0, none⟩), .int .i64 0, .int .i64 0, .int .i64 1] W fun e w' => e = .returned (.bool false) ∧ To B p w hv w' hv ∧ Sp w' B n p A wd hv held cnt) := hide fun W hW => by
    have hn := has_nil (wd := wd) h.inv 0
    refine (Set_any (h.quiet hW) 0 0 1).mono ?_
    rintro e w' ⟨rfl, hs, hF⟩
    unfold putW at hs
    rw [hn] at hs ⊢
    rw [if_neg (by simp)] at hs
    exact ⟨rfl, (To.quiet hW).trans (.of (hF.mono fun k hk => .inl hk)), hs⟩
  clear h
  go_enter Tryd.func13, Tryd.ntmps13
  go_wp2_with fail
  refine (unhide HC).mono ?_
  rintro e w1 ⟨rfl, hF1⟩
  have HF1 := hide hF1
  clear hF1 HC
  go_wp2_with fail
  refine (unhide HS _ (unhide HF1)).mono ?_
  rintro e w2 ⟨rfl, hE⟩
  have HE := hide hE
  clear hE HS
  go_wp2
  go_ret
  exact ⟨rfl, unhide HE⟩
set_option maxRecDepth 100000 in
set_option maxHeartbeats 4000000 in
theorem Close_yes (h : Sp w B n p A wd hv held cnt) (hc : ChAt A wd a P r 0 b l) :
    Calls Tryd.prog 13 #[.pointer (some ⟨p, 0, none⟩), .int .i64 a] w fun e w' => e = .returned (.bool true) ∧ To B p w hv w' hv ∧ Sp w' B n p A (upd wd (a + (1 + 0)) 1) hv held cnt := by
  have HC := hide (Closed_any h hc.get.1)
  have HS : Hid (∀ W, Fr (fun _ => False) w W → Calls Tryd.prog 24 #[.pointer (some ⟨p, 0, none⟩), .int .i64 a, .int .i64 0, .int .i64 1] W fun e w' => e = .returned (.bool true) ∧ To B p w hv w' hv ∧ Sp w' B n p A (upd wd (a + (1 + 0)) 1) hv held cnt) := hide fun W hW => by
    refine (SetS (h.quiet hW) 0 1 0 rfl hc.room (by rw [hc.sz]; omega)).mono ?_
    rintro e w' ⟨rfl, hs, ht⟩
    exact ⟨rfl, (To.quiet hW).trans ht, hs⟩
  clear h hc
  go_enter Tryd.func13, Tryd.ntmps13
  go_wp2_with fail
  refine (unhide HC).mono ?_
  rintro e w1 ⟨rfl, hF1⟩
  have HF1 := hide hF1
  clear hF1 HC
  go_wp2_with fail
  refine (unhide HS _ (unhide HF1)).mono ?_
  rintro e w2 ⟨rfl, hE⟩
  have HE := hide hE
  clear hE HS
  go_wp2
  go_ret
  exact ⟨rfl, unhide HE⟩
set_option maxRecDepth 100000 in
set_option maxHeartbeats 4000000 in
theorem Close_no (h : Sp w B n p A wd hv held cnt) (hc : ChAt A wd a P r 1 b l) :
    Calls Tryd.prog 13 #[.pointer (some ⟨p, 0, none⟩), .int .i64 a] w fun e w' => e = .returned (.bool false) ∧ Fr (fun _ => False) w w' := by
  have HC := hide (Closed_any h hc.get.1)
  clear h hc
  go_enter Tryd.func13, Tryd.ntmps13
  go_wp2_with fail
  refine (unhide HC).mono ?_
  rintro e w1 ⟨rfl, hF1⟩
  have HF1 := hide hF1
  clear hF1 HC
  go_wp2
  go_ret
  exact ⟨rfl, unhide HF1⟩
end Go.Proofs.YtogjblikljggbaaDoor
