/- New of a string. -/
import Derived.Test.YthfccidjckbcbaaDoorX3
namespace Go.Proofs.YthfccidjckbcbaaDoor
open Go.RowKit Go.Proofs.YthfccidjckbcbaaDoor.Hp
variable {w w' : World} {B : HB} {n p : Nat} {A : Nat → Kd} {wd : Nat → Int} {hv : Value} {held : List Int} {cnt : Nat}
theorem has_of {A : Nat → Kd} {wd : Nat → Int} {x q : Nat} (hx : roomN A x ≠ 0) (hq : (q : Int) < hS (wd x)) : hasB A wd x q = true := by
  have hr : roomI A (x : Int) ≠ 0 := by unfold roomI; rw [if_pos (by omega), Int.toNat_natCast]; exact hx
  unfold hasB sizI
  rw [if_pos hr, Int.toNat_natCast]
  simp; omega
theorem SetS (h : Sp w B n p A wd hv held cnt) {x : Nat} (q v : Int) (q' : Nat) (e : q = q') (hx : roomN A x ≠ 0) (hq : (q' : Int) < hS (wd x)) :
    Calls Tryd.prog 16 #[.pointer (some ⟨p, 0, none⟩), .int .i64 x, .int .i64 q, .int .i64 v] w fun e w' => e = .returned (.bool true) ∧ Sp w' B n p A (upd wd (x + (1 + q')) v) hv held cnt ∧ Fr (SpK B p hv) w w' := by
  subst e
  have hb := has_of hx hq
  refine (Set_any h x q' v).mono ?_
  rintro e w' ⟨rfl, hs, hF⟩
  unfold putW at hs
  rw [if_pos hb] at hs
  exact ⟨ret_bool hb, hs, hF.mono fun k hk => .inl hk⟩
/-- Eight bytes of a string. -/
def chunk (s : ByteArray) (k : Nat) : List UInt8 := (s.extract (8 * k) (min (8 * k + 8) s.size)).toList
/-- The words of a block that has the first k words of a string. -/
def txtK (wd : Nat → Int) (a : Nat) (s : ByteArray) (k : Nat) : Nat → Int := fun x => if x = a + 1 then (s.size : Int) else if a + 2 ≤ x ∧ x < a + 2 + k then packI (chunk s (x - (a + 2))) else wd x
theorem txtK_zero (wd : Nat → Int) (a : Nat) (s : ByteArray) : upd wd (a + (1 + 0)) (s.size : Int) = txtK wd a s 0 := by
  funext x
  unfold txtK
  by_cases e : x = a + 1
  · subst e; rw [if_pos rfl]; exact upd_same _ _ _
  · rw [if_neg e, if_neg (by omega), upd_ne _ _ (by omega)]
theorem txtK_succ (wd : Nat → Int) (a : Nat) (s : ByteArray) (k : Nat) : upd (txtK wd a s k) (a + (1 + (1 + k))) (packI (chunk s k)) = txtK wd a s (k + 1) := by
  funext x
  by_cases e : x = a + (1 + (1 + k))
  · subst e
    rw [upd_same]
    unfold txtK
    rw [if_neg (by omega), if_pos (by omega), show a + (1 + (1 + k)) - (a + 2) = k by omega]
  · rw [upd_ne _ _ e]
    unfold txtK
    by_cases e1 : x = a + 1
    · rw [if_pos e1, if_pos e1]
    · rw [if_neg e1, if_neg e1]
      by_cases e2 : a + 2 ≤ x ∧ x < a + 2 + k
      · rw [if_pos e2, if_pos (by omega)]
      · rw [if_neg e2, if_neg (by omega)]
theorem txtK_head (wd : Nat → Int) (a : Nat) (s : ByteArray) (k : Nat) : txtK wd a s k a = wd a := by
  unfold txtK
  rw [if_neg (by omega), if_neg (by omega)]
/-- The words that a string's bytes want. -/
def wsz (s : ByteArray) : Nat := (s.size + 7) / 8
/-- What New leaves. -/
inductive NwT (n : Nat) (A : Nat → Kd) (wd : Nat → Int) (held : List Int) (cnt : Nat) (s : ByteArray) : Value → (Nat → Kd) → (Nat → Int) → Nat → Prop
  | nil (h : s.size = 0) : NwT n A wd held cnt s (.tuple #[.int .i64 0, .bool true]) A wd cnt
  | long (h : 16384 < s.size) : NwT n A wd held cnt s (.tuple #[.int .i64 0, .bool false]) A wd cnt
  | at_ (h : 0 < s.size) (h2 : s.size ≤ 16384) (a : Nat) (A' : Nat → Kd) (g : Goes n A (2 + wsz s) a A') : NwT n A wd held cnt s (.tuple #[.int .i64 (a : Int), .bool true]) A' (txtK (newW wd a (2 + wsz s) (hdr 1 (1 + wsz s : Nat) 0)) a s (wsz s)) cnt
  | gc (h : 0 < s.size) (h2 : s.size ≤ 16384) (hn : NoPlace n A (2 + wsz s)) (rb : Nat → Bool) (A1 : Nat → Kd) (hg : Gc n A wd held rb A1) (a : Nat) (A' : Nat → Kd) (g : Goes n A1 (2 + wsz s) a A') : NwT n A wd held cnt s (.tuple #[.int .i64 (a : Int), .bool true]) A' (txtK (newW wd a (2 + wsz s) (hdr 1 (1 + wsz s : Nat) 0)) a s (wsz s)) (cnt + 1)
  | full (h : 0 < s.size) (h2 : s.size ≤ 16384) (hn : NoPlace n A (2 + wsz s)) (rb : Nat → Bool) (A1 : Nat → Kd) (hg : Gc n A wd held rb A1) (g : NoPlace n A1 (2 + wsz s)) : NwT n A wd held cnt s (.tuple #[.int .i64 0, .bool false]) A1 wd (cnt + 1)
def NewP2 (w : World) (B : HB) (n p : Nat) (A : Nat → Kd) (wd : Nat → Int) (hv : Value) (held : List Int) (cnt : Nat) (s : ByteArray) (e : Ending) (w' : World) : Prop :=
  ∃ v A' wd' cnt', NwT n A wd held cnt s v A' wd' cnt' ∧ e = .returned v ∧ Sp w' B n p A' wd' hv held cnt' ∧ Fr (SpK B p hv) w w'
theorem newW_self (wd : Nat → Int) (a m : Nat) (h : Int) : newW wd a m h a = h := upd_same _ _ _
theorem room_made {A' : Nat → Kd} {a m : Nat} (hI : Inv n A) (hm : 0 < m) (g : Goes n A m a A') : roomN A' a ≠ 0 := by
  have := (room_goes hI g).2 a
  rw [if_pos rfl] at this
  have := roomOfM_ge m
  omega
/-- Make for a string. -/
def MkT (w : World) (B : HB) (n p : Nat) (A : Nat → Kd) (wd : Nat → Int) (hv : Value) (held : List Int) (cnt : Nat) (s : ByteArray) (e : Ending) (w' : World) : Prop :=
  (∃ (a : Nat) (A1 : Nat → Kd) (wd1 : Nat → Int) (cnt1 : Nat), e = .returned (.tuple #[.int .i64 (a : Int), .bool true]) ∧ Sp w' B n p A1 wd1 hv held cnt1 ∧ Fr (SpK B p hv) w w' ∧ roomN A1 a ≠ 0 ∧ hS (wd1 a) = ((1 + wsz s : Nat) : Int) ∧ NwT n A wd held cnt s (.tuple #[.int .i64 (a : Int), .bool true]) A1 (txtK wd1 a s (wsz s)) cnt1) ∨
  (e = .returned (.tuple #[.int .i64 0, .bool false]) ∧ NewP2 w B n p A wd hv held cnt s e w')
theorem MakeT (h : Sp w B n p A wd hv held cnt) (hc : cnt < 100000) (s : ByteArray) (h1 : 0 < s.size) (h2 : s.size ≤ 16384) :
    Calls Tryd.prog 15 #[.pointer (some ⟨p, 0, none⟩), .int .i64 1, .int .i64 (1 + (wsz s : Int)), .int .i64 0] w fun e w' => MkT w B n p A wd hv held cnt s e w' := by
  have hR : Right 1 ((1 + wsz s : Nat) : Int) 0 := by unfold Right wsz; omega
  have hw : wsz s ≤ 2048 := by unfold wsz; omega
  have := Make_any h hc 1 ((1 + wsz s : Nat) : Int) 0
  rw [show ((1 + wsz s : Nat) : Int) = 1 + (wsz s : Int) by omega] at this
  refine this.mono ?_
  rintro e w' ⟨v, A1, wd1, cnt1, hm, rfl, hs, hF⟩
  rw [← show ((1 + wsz s : Nat) : Int) = 1 + (wsz s : Int) by omega] at hm
  have e1 : 1 + ((1 + wsz s : Nat) : Int).toNat = 2 + wsz s := by omega
  obtain ⟨_, _, hS1, _⟩ := hdr_open hR
  cases hm with
  | no hr => exact absurd hR hr
  | at_ hr a A2 g =>
    rw [e1] at g hs
    exact .inl ⟨a, _, _, _, rfl, hs, hF, room_made h.inv (by omega) g, (congrArg hS (newW_self _ _ _ _)).trans hS1, .at_ h1 h2 a _ g⟩
  | gc hr hn rb A2 hg a A3 g =>
    rw [e1] at g hs hn
    exact .inl ⟨a, _, _, _, rfl, hs, hF, room_made hg.inv (by omega) g, (congrArg hS (newW_self _ _ _ _)).trans hS1, .gc h1 h2 hn rb A2 hg a _ g⟩
  | full hr hn rb A2 hg g =>
    rw [e1] at g hn
    exact .inr ⟨rfl, _, _, _, _, .full h1 h2 hn rb _ hg g, rfl, hs, hF⟩
set_option maxRecDepth 100000 in
set_option maxHeartbeats 2000000 in
theorem New_str (h : Sp w B n p A wd hv held cnt) (hc : cnt < 100000) (s : ByteArray) (hs : s.size ≤ 9223372036854775807) :
    Calls Tryd.prog 10 #[.pointer (some ⟨p, 0, none⟩), .string s] w fun e w' => NewP2 w B n p A wd hv held cnt s e w' := by
  by_cases h0 : s.size = 0
  · have HE : Hid (NewP2 w B n p A wd hv held cnt s (.returned (.tuple #[.int .i64 0, .bool true])) w) := hide ⟨_, A, wd, cnt, .nil h0, rfl, h, Fr.refl _ _⟩
    obtain rfl : s = ByteArray.empty := by
      cases s with | mk d => cases d with | mk l => cases l with
        | nil => rfl
        | cons a l => exact absurd h0 (by show (a :: l).length ≠ 0; simp)
    clear h h0
    go_enter Tryd.func10, Tryd.ntmps10
    go_wp2
    go_ret2
    exact unhide HE
  · have he : s.toList.isEmpty = false := by
      cases hb : s.toList with
      | nil => exact absurd (by rw [← toL_len, hb]; rfl) h0
      | cons a l => rfl
    by_cases h1 : 16384 < s.size
    · have HE : Hid (NewP2 w B n p A wd hv held cnt s (.returned (.tuple #[.int .i64 0, .bool false])) w) := hide ⟨_, A, wd, cnt, .long h1, rfl, h, Fr.refl _ _⟩
      have h1' : (16384 : Int) < s.size := by omega
      clear h h0
      go_enter Tryd.func10, Tryd.ntmps10
      go_wp2
      go_ret2
      exact unhide HE
    · have HM := hide (MakeT h hc s (by omega) (by omega))
      have HW : Hid (∀ W, Calls Tryd.prog 22 #[.int .i64 s.size] W fun e w' => e = .returned (.int .i64 (wsz s)) ∧ W = w') := hide fun W => (wordsFor_any s.size W (by omega)).mono fun _ _ h => ⟨h.1, h.2.symm⟩
      have hw : wsz s ≤ 2048 := by unfold wsz; omega
      have hw8 : 8 * wsz s < s.size + 8 := by unfold wsz; omega
      have h16 : s.size ≤ 16384 := by omega
      clear h h0 h1
      generalize hwz : wsz s = W at *
      have HZ := hide hwz
      clear hwz
      go_enter Tryd.func10, Tryd.ntmps10
      go_wp2_with (first | (go_at_call 22; refine (unhide HW _).mono ?_; rintro e w' ⟨rfl, rfl⟩) | fail)
      refine (unhide HM).mono ?_
      rintro e w1 (⟨a, A1, wd1, cnt1, rfl, hs1, hF1, hr, hSz, hN⟩ | ⟨rfl, hP⟩)
      · have HF1 := hide hF1
        have HS0 := hide (SetS hs1 0 s.size 0 rfl hr (by rw [hSz]; omega))
        rw [txtK_zero] at HS0
        have HSt : Hid (∀ W' (k : Nat), k < W → Sp W' B n p A1 (txtK wd1 a s k) hv held cnt1 → Calls Tryd.prog 16 #[.pointer (some ⟨p, 0, none⟩), .int .i64 a, .int .i64 (1 + (k : Int)), .int .i64 (packI (chunk s k))] W' fun e w' => e = .returned (.bool true) ∧ Sp w' B n p A1 (txtK wd1 a s (k + 1)) hv held cnt1 ∧ Fr (SpK B p hv) W' w') := hide fun W' k hk hsp => by
          have := SetS hsp (1 + (k : Int)) (packI (chunk s k)) (1 + k) (by omega) hr (by rw [txtK_head, hSz, unhide HZ]; omega)
          rw [txtK_succ] at this
          exact this
        have HE : Hid (∀ W', Sp W' B n p A1 (txtK wd1 a s W) hv held cnt1 → Fr (SpK B p hv) w W' → NewP2 w B n p A wd hv held cnt s (.returned (.tuple #[.int .i64 (a : Int), .bool true])) W') := hide fun W' hsp hF => ⟨_, _, _, _, hN, rfl, by rw [unhide HZ]; exact hsp, hF⟩
        clear hs1 hF1 hr hSz hN
        go_wp2_with (first | (go_at_call 16; refine (unhide HS0).mono ?_; rintro e w2 ⟨rfl, hs2, hF2⟩; have HS2 := hide hs2; have HF2 := hide hF2; clear hs2 hF2))
        have HF02 := hide ((unhide HF1).trans (unhide HF2))
        have HPk : Hid (∀ W' (k b m : Nat), k < W → b = 8 * k → m = min (8 * k + 8) s.size → Calls Tryd.prog 23 #[.string (s.extract b m)] W' fun e w' => e = .returned (.int .i64 (packI (chunk s k))) ∧ W' = w') := hide fun W' k b m hk hb hm => by
          subst hm hb
          refine (pack_any (s.extract (8 * k) (min (8 * k + 8) s.size)) W' ?_).mono fun _ _ h => ⟨h.1, h.2.symm⟩
          rw [ByteArray.size_extract]
          omega
        clear HF1 HF2 HS0 HM HW
        go_loopw [34] (fun i wr => ∃ k : Nat, k ≤ W ∧ i = .int .i64 k ∧ Hid (Sp wr B n p A1 (txtK wd1 a s k) hv held cnt1 ∧ Fr (SpK B p hv) w wr)) (fun i _ => W - (intOf i).toNat)
        case atStart => exact ⟨0, Nat.zero_le _, rfl, hide ⟨unhide HS2, unhide HF02⟩⟩
        case round =>
          obtain ⟨k, hk, rfl, hK⟩ := hrel
          by_cases hlt : k < W
          · have hb : 8 * k < s.size := by omega
            have HT := hide (unhide HSt wr k hlt (unhide hK).1)
            have HRel : Hid (∀ W', Sp W' B n p A1 (txtK wd1 a s (k + 1)) hv held cnt1 → Fr (SpK B p hv) wr W' → Sp W' B n p A1 (txtK wd1 a s (k + 1)) hv held cnt1 ∧ Fr (SpK B p hv) w W') := hide fun W' h1 h2 => ⟨h1, (unhide hK).2.trans h2⟩
            by_cases h8 : 8 * k + 8 ≤ s.size
            · have e8 : ((k : Int) * 8 + 8) ≤ s.size := by omega
              go_wp2_with (first | (go_at_call 23; refine (unhide HPk _ k _ _ hlt (by omega) (by omega)).mono ?_; rintro e w' ⟨rfl, rfl⟩) | (go_at_call 16; refine (unhide HT).mono ?_; rintro e w3 ⟨rfl, hs3, hF3⟩; have HS3 := hide (unhide HRel _ hs3 hF3); clear hs3 hF3))
              go_roundw
              case rel => exact ⟨k + 1, by omega, by go_num, HS3⟩
              case measure => simp [intOf]; omega
            · have e8 : (s.size : Int) < (k : Int) * 8 + 8 := by omega
              go_wp2_with (first | (go_at_call 23; refine (unhide HPk _ k _ _ hlt (by omega) (by omega)).mono ?_; rintro e w' ⟨rfl, rfl⟩) | (go_at_call 16; refine (unhide HT).mono ?_; rintro e w3 ⟨rfl, hs3, hF3⟩; have HS3 := hide (unhide HRel _ hs3 hF3); clear hs3 hF3))
              go_roundw
              case rel => exact ⟨k + 1, by omega, by go_num, HS3⟩
              case measure => simp [intOf]; omega
          · have hge : ¬ (k : Int) < W := by omega
            have hge2 : decide ((k : Int) < W) = false := decide_eq_false hge
            obtain rfl : k = W := by omega
            have HEx := hide (unhide HE _ (unhide hK).1 (unhide hK).2)
            clear hlt
            go_wp2
            go_ret2
            exact unhide HEx
      · have HP := hide hP
        clear hP
        go_wp2
        go_ret2
        exact unhide HP
end Go.Proofs.YthfccidjckbcbaaDoor
