/- X5 X6 B1 R1 Or R2, in one text. -/
import Derived.Test.YthfccidjckbcbaaDoorX4
import Derived.Lib.Strings
import Derived.Test.YthfccidjckbcbaaDoorD0
import Derived.Test.YthfccidjckbcbaaDoorOs
namespace Go.Proofs.YthfccidjckbcbaaDoor
open Go.RowKit Go.Proofs.YthfccidjckbcbaaDoor.Hp
variable {w w' : World} {B : HB} {n p : Nat} {A A' : Nat → Kd} {wd wd' : Nat → Int} {hv : Value} {held : List Int} {cnt : Nat} {a : Nat} {s : ByteArray}
/-- The string s stands at a. -/
structure StrAt (A : Nat → Kd) (wd : Nat → Int) (a : Nat) (s : ByteArray) : Prop where
  pos : 0 < s.size
  le : s.size ≤ 16384
  room : roomN A a ≠ 0
  big : 1 + wsz s < roomN A a
  hd : wd a = hdr 1 (1 + wsz s : Nat) 0
  w1 : wd (a + 1) = s.size
  ws : ∀ k, k < wsz s → wd (a + 2 + k) = packI (chunk s k)
theorem str_right (h : s.size ≤ 16384) : Right 1 ((1 + wsz s : Nat) : Int) 0 := by unfold Right wsz; omega
theorem txt_at (h1 : 0 < s.size) (h2 : s.size ≤ 16384) (hI : Inv n A) (g : Goes n A (2 + wsz s) a A') (wd : Nat → Int) : StrAt A' (txtK (newW wd a (2 + wsz s) (hdr 1 (1 + wsz s : Nat) 0)) a s (wsz s)) a s := by
  have hr := (room_goes hI g).2 a
  rw [if_pos rfl] at hr
  have hge := roomOfM_ge (2 + wsz s)
  refine ⟨h1, h2, by omega, by omega, by rw [txtK_head, newW_self], ?_, fun k hk => ?_⟩
  · unfold txtK; rw [if_pos rfl]
  · unfold txtK; rw [if_neg (by omega), if_pos (by omega), show a + 2 + k - (a + 2) = k by omega]
theorem txt_out {m : Nat} {h : Int} (hm : 2 + wsz s ≤ roomOfM m) (x : Nat) (hx : x < a ∨ a + roomOfM m ≤ x) : txtK (newW wd a m h) a s (wsz s) x = wd x := by
  have h0 : 2 ≤ roomOfM m := by omega
  unfold txtK
  rw [if_neg (by omega), if_neg (by omega)]
  unfold newW
  rw [upd_ne _ _ (by omega), clear_out hx]
/-- What stands elsewhere stays. -/
theorem StrAt.keep (h : StrAt A wd a s) {m b : Nat} (hI : Inv n A) (hI' : Inv n A') (g : Goes n A m b A') (ho : ∀ x, x < b ∨ b + roomOfM m ≤ x → wd' x = wd x) (hm : 0 < m) : StrAt A' wd' a s := by
  obtain ⟨g0, g1⟩ := room_goes hI g
  have hne : a ≠ b := fun e => h.room (by rw [e]; exact g0)
  have ha := g1 a
  rw [if_neg hne] at ha
  have hb := g1 b
  rw [if_pos rfl] at hb
  have hge := roomOfM_ge m
  have hra : roomN A' a ≠ 0 := by rw [ha]; exact h.room
  have hrb : roomN A' b ≠ 0 := by rw [hb]; omega
  have hbig := h.big
  have key : ∀ x, a ≤ x → x < a + roomN A a → wd' x = wd x := fun x h1 h2 => by
    refine ho x ?_
    rcases Nat.lt_or_gt_of_ne hne with hl | hl
    · have := apart hI' hl hra hrb
      omega
    · have := apart hI' hl hrb hra
      omega
  refine ⟨h.pos, h.le, hra, by rw [ha]; exact h.big, by rw [key a (by omega) (by omega)]; exact h.hd, by rw [key _ (by omega) (by omega)]; exact h.w1, fun k hk => ?_⟩
  rw [key _ (by omega) (by omega)]
  exact h.ws k hk
/-- What a collection reaches stays. -/
theorem StrAt.gc (h : StrAt A wd a s) {rb : Nat → Bool} (hg : Gc n A wd held rb A') (hr : rb a = true) : StrAt A' wd a s := by
  have := hg.room a
  rw [if_pos hr] at this
  exact ⟨h.pos, h.le, by rw [this]; exact h.room, by rw [this]; exact h.big, h.hd, h.w1, h.ws⟩
section
variable (h : StrAt A wd a s)
include h
theorem StrAt.roomZ : roomI A (a : Int) ≠ 0 := by unfold roomI; rw [if_pos (by omega), Int.toNat_natCast]; exact h.room
theorem StrAt.kin : kinI A wd a = 1 := by
  unfold kinI
  rw [if_pos h.roomZ, Int.toNat_natCast, h.hd]
  exact (hdr_open (str_right h.le)).2.1
theorem StrAt.siz : sizI A wd a = ((1 + wsz s : Nat) : Int) := by
  unfold sizI
  rw [if_pos h.roomZ, Int.toNat_natCast, h.hd]
  exact (hdr_open (str_right h.le)).2.2.1
theorem StrAt.msk : mskI A wd a = 0 := by
  unfold mskI
  rw [if_pos h.roomZ, Int.toNat_natCast, h.hd]
  exact (hdr_open (str_right h.le)).2.2.2
theorem StrAt.has {q : Nat} (hq : q < 1 + wsz s) : hasB A wd a q = true := has_of h.room (by rw [h.hd, (hdr_open (str_right h.le)).2.2.1]; omega)
theorem StrAt.get0 : getI A wd a 0 = s.size := by
  unfold getI
  have := h.has (q := 0) (by omega)
  rw [Int.natCast_zero] at this
  rw [if_pos this]
  exact h.w1
theorem StrAt.get {k : Nat} (hk : k < wsz s) (z : Int) (hz : z = 1 + (k : Int)) : getI A wd a z = packI (chunk s k) := by
  obtain rfl : z = ((1 + k : Nat) : Int) := by omega
  unfold getI
  rw [if_pos (h.has (q := 1 + k) (by omega))]
  rw [Int.toNat_natCast, Int.toNat_natCast, show a + (1 + (1 + k)) = a + 2 + k by omega]
  exact h.ws k hk
theorem StrAt.len : lenI A wd a = s.size := by
  have := h.pos
  unfold lenI
  rw [h.kin, h.siz, h.get0, if_pos ⟨rfl, by omega, by unfold wsz; omega, by unfold wsz; omega⟩]
  omega
end
theorem chunk_get (s : ByteArray) (k j : Nat) (hj : j < 8) : (chunk s k).getD j 0 = s.toList.getD (8 * k + j) 0 := by
  unfold chunk
  have e : (s.extract (8 * k) (min (8 * k + 8) s.size)).toList = (s.toList.drop (8 * k)).take (min (8 * k + 8) s.size - 8 * k) := by
    rw [ByteArray.toList_eq, ByteArray.toList_eq, Lib.extract_data]
  rw [e, List.getD_eq_getElem?_getD, List.getD_eq_getElem?_getD, List.getElem?_take]
  split
  · rw [List.getElem?_drop]
  · rw [List.getElem?_eq_none (by rw [toL_len]; omega)]
theorem byte_get (h : StrAt A wd a s) {j : Nat} (hj : j < 8 * wsz s) (z : Int) (hz : z = 1 + ((j / 8 : Nat) : Int)) : byteAt (getI A wd a z) (j % 8) = s.toList.getD j 0 := by
  rw [h.get (k := j / 8) (by omega) z hz, byteAt_pack _ _ (by omega), chunk_get _ _ _ (by omega), show 8 * (j / 8) + j % 8 = j by omega]
theorem str_back (h : StrAt A wd a s) (ss : List ByteArray) (he : a % 2 = 0) : bytI A wd ss a = s := by
  unfold bytI
  rw [if_neg (by omega), h.len]
  have e : bytesL (getI A wd a) s.size = s.toList := by
    refine List.ext_getElem (by rw [bytesL_len, toL_len]) fun i h1 h2 => ?_
    have h3 : i < s.size := by rw [bytesL_len] at h1; exact h1
    have e2 := byte_get h (j := i) (by unfold wsz; omega) _ rfl
    rw [List.getD_eq_getElem?_getD, List.getElem?_eq_getElem h2] at e2
    simp only [bytesL, List.getElem_map, List.getElem_range]
    exact e2
  rw [e, ByteArray.toList_eq]
theorem byt_zero (hI : Inv n A) (ss : List ByteArray) : bytI A wd ss 0 = ByteArray.empty := by
  have hr : roomI A 0 = 0 := by
    apply Classical.byContradiction
    intro h
    obtain ⟨x, e, hx⟩ := room_nat h
    have := (room_in hI hx).1
    omega
  have e : lenI A wd 0 = 0 := by
    have ek : kinI A wd 0 = 0 := by unfold kinI; rw [if_neg (fun x => x hr)]
    unfold lenI
    rw [ek, if_neg (fun x => absurd x.1 (by decide))]
  unfold bytI
  rw [if_neg (by decide), e]
  rfl
end Go.Proofs.YthfccidjckbcbaaDoor
namespace Go.Proofs.YthfccidjckbcbaaDoor
open Go.RowKit Go.Proofs.YthfccidjckbcbaaDoor.Hp
variable {w0 w w' : World} {B : HB} {n p : Nat} {A A' : Nat → Kd} {wd wd' : Nat → Int} {hv : Value} {held : List Int} {cnt : Nat} {a : Nat} {s : ByteArray}
theorem New_to (h : Lw w0 w B n p A wd hv held cnt) (hc : cnt < 100000) (s : ByteArray) (hs : s.size ≤ 9223372036854775807) :
    Calls Tryd.prog 10 #[.pointer (some ⟨p, 0, none⟩), .string s] w fun e w' => ∃ v A' wd' cnt', NwT n A wd held cnt s v A' wd' cnt' ∧ e = .returned v ∧ Lw w0 w' B n p A' wd' hv held cnt' := by
  refine (New_str h.sp hc s hs).mono ?_
  rintro e w' ⟨v, A', wd', cnt', hN, rfl, hsp, hF⟩
  exact ⟨v, A', wd', cnt', hN, rfl, h.heap hsp hF⟩
/-- Where there is a place it is taken. -/
theorem New_at (h : Lw w0 w B n p A wd hv held cnt) (hc : cnt < 100000) (s : ByteArray) (h1 : 0 < s.size) (h2 : s.size ≤ 16384) (hp : ¬ NoPlace n A (2 + wsz s)) :
    Calls Tryd.prog 10 #[.pointer (some ⟨p, 0, none⟩), .string s] w fun e w' => ∃ (a : Nat) (A' : Nat → Kd), e = .returned (.tuple #[.int .i64 (a : Int), .bool true]) ∧ Goes n A (2 + wsz s) a A' ∧ StrAt A' (txtK (newW wd a (2 + wsz s) (hdr 1 (1 + wsz s : Nat) 0)) a s (wsz s)) a s ∧ Lw w0 w' B n p A' (txtK (newW wd a (2 + wsz s) (hdr 1 (1 + wsz s : Nat) 0)) a s (wsz s)) hv held cnt := by
  refine (New_to h hc s (by omega)).mono ?_
  rintro e w' ⟨v, A', wd', cnt', hN, rfl, hL⟩
  cases hN with
  | nil h => omega
  | long h => omega
  | at_ _ _ a A' g => exact ⟨a, _, rfl, g, txt_at h1 h2 h.sp.inv g _, hL⟩
  | gc _ _ hn => exact absurd hn hp
  | full _ _ hn => exact absurd hn hp
theorem get_no {z k : Int} (h : roomI A z = 0) : getI A wd z k = 0 := by
  have : hasB A wd z k = false := by
    unfold hasB sizI
    rw [if_neg (fun x => x h)]
    simp
  unfold getI
  rw [this]
  simp
theorem room_odd (hI : Inv n A) {z : Int} (h : z % 2 ≠ 0) : roomI A z = 0 := by
  apply Classical.byContradiction
  intro hz
  obtain ⟨x, e, hx⟩ := room_nat hz
  have := (room_in hI hx).2.2
  omega
theorem Bytes_odd (h : Lw w0 w B n p A wd hv held cnt) (ao : Option Addr) (len cap : Nat) (ss : List ByteArray) (z : Int) (hm : len ≤ maxLen) (hS : StrsAt w ao len ss) (hz : -9223372036854775808 ≤ z ∧ z < 9223372036854775808) (ho : z % 2 ≠ 0) :
    Calls Tryd.prog 12 #[.pointer (some ⟨p, 0, none⟩), .slice ao len cap, .int .i64 z] w fun e w' => e = .returned (.string (constI ss z)) ∧ Fr (fun _ => False) w w' := by
  have := Bytes_any h.sp ao len cap ss z hm hS hz (by rw [get_no (room_odd h.sp.inv ho)]; omega)
  unfold bytI at this
  rw [if_pos ho] at this
  exact this
/-- Two strings that a composite has just made. -/
theorem strs_two (W : World) (x y : ByteArray) (t : TypeId) : StrsAt (W.alloc (.cells #[.string x, .string y] t)) (some ⟨W.heap.size, 0, none⟩) 2 [x, y] :=
  ⟨rfl, fun j hj => ⟨W.heap.size, 0, rfl, by simp, by
    rcases (show j = 0 ∨ j = 1 by omega) with rfl | rfl
    · rw [World.cell?_alloc_at _ _ _ _ rfl]; rfl
    · rw [World.cell?_alloc_at _ _ _ _ rfl]; rfl⟩⟩
def abc : ByteArray := ⟨#[97, 98, 99]⟩
theorem abc_pack : packI (chunk abc 0) = 6513249 := by decide +kernel
theorem an_place : ¬ NoPlace 16 (emptyA 16) (2 + wsz abc) := by
  have := (fill_goes (n := 16) (m := 2 + wsz abc) (k := 0) (by decide) (by decide)).not
  rw [fill_empty] at this
  exact this
set_option maxRecDepth 100000 in
set_option maxHeartbeats 4000000 in
theorem anchor_any (w : World) (hV : Vars w) : Calls Tryd.prog 8 #[] w fun e w' => e = .returned (.bool true) ∧ Fr (fun _ => False) w w' ∧ Vars w' := by
  have HN := hide (SNew_any 1024 w (by omega) (by omega) hV)
  clear hV
  go_enter Tryd.func8, Tryd.ntmps8
  go_wp2_with (first | (go_at_call 9; refine (unhide HN).mono ?_; rintro e w1 ⟨B, p, rfl, hL⟩; have HT := hide (New_at hL (by omega) abc (by decide) (by decide) an_place); clear hL) | (go_at_call 10; refine (unhide HT).mono ?_; rintro e w2 ⟨a, A', rfl, g, hS, hL⟩; have HL := hide hL; have HS := hide hS; clear hL hS g))
  have HG0 : Hid (Calls Tryd.prog 14 #[.pointer (some ⟨p, 0, none⟩), .int .i64 a, .int .i64 0] w2 fun e w' => e = .returned (.int .i64 3) ∧ Fr (fun _ => False) w2 w') := hide (by
    have := Get_any (unhide HL).sp a 0
    rw [(unhide HS).get0] at this
    exact this)
  have HG1 : Hid (∀ W, Fr (fun _ => False) w2 W → Calls Tryd.prog 14 #[.pointer (some ⟨p, 0, none⟩), .int .i64 a, .int .i64 1] W fun e w' => e = .returned (.int .i64 6513249) ∧ Fr (fun _ => False) w2 w') := hide fun W hF => by
    have := Get_any ((unhide HL).quiet hF).sp a 1
    rw [(unhide HS).get (k := 0) (by decide) 1 (by omega), abc_pack] at this
    exact this.mono fun _ _ h => ⟨h.1, hF.trans h.2⟩
  have HBy : Hid (∀ W ao cp, Fr (fun _ => False) w2 W → StrsAt W ao 2 [⟨#[120]⟩, ⟨#[121]⟩] → Calls Tryd.prog 12 #[.pointer (some ⟨p, 0, none⟩), .slice ao 2 cp, .int .i64 3] W fun e w' => e = .returned (.string ⟨#[121]⟩) ∧ Fr (fun _ => False) w2 w') := hide fun W ao cp hF hS => by
    exact (Bytes_odd ((unhide HL).quiet hF) ao 2 cp _ 3 (by decide) hS (by omega) (by decide)).mono fun _ _ h => ⟨h.1, hF.trans h.2⟩
  have HC : Hid (∀ W, Calls Tryd.prog 20 #[.int .i64 1] W fun e w' => e = .returned (.int .i64 3) ∧ W = w') := hide fun W => (Constant_any 1 W (by decide) (by decide)).mono fun _ _ h => ⟨h.1, h.2.symm⟩
  refine (unhide HG0).mono ?_
  rintro e w3 ⟨rfl, hF3⟩
  have HF3 := hide hF3
  clear hF3
  go_wp2_with fail
  refine (unhide HG1 _ (unhide HF3)).mono ?_
  rintro e w4 ⟨rfl, hF4⟩
  have HF4 := hide hF4
  clear hF4
  go_wp2_with fail
  refine (unhide HBy _ _ _ ((unhide HF4).alloc _) (strs_two _ _ _ _)).mono ?_
  rintro e w5 ⟨rfl, hF5⟩
  have HF5 := hide ((unhide HL).far.trans hF5)
  have HV5 := hide ((unhide HL).quiet hF5).sp.vars
  clear hF5
  go_wp2_with fail
  refine (unhide HC _).mono ?_
  rintro e w' ⟨rfl, rfl⟩
  go_wp2
  go_ret
  exact ⟨rfl, unhide HF5, unhide HV5⟩
end Go.Proofs.YthfccidjckbcbaaDoor
namespace Go.Proofs.YthfccidjckbcbaaDoor
open Go.RowKit Go.Proofs.YthfccidjckbcbaaDoor.Hp
variable {w0 w w' W : World} {B : HB} {n p c m d a : Nat} {A A' : Nat → Kd} {wd wd' : Nat → Int} {hv va : Value} {held L : List Int} {cnt : Nat} {s t : ByteArray} {ss : List ByteArray} {z : Int}
/-- The free spans are the last ones. -/
def Suf (n : Nat) (A : Nat → Kd) (c : Nat) : Prop := ∃ h, 1 ≤ h ∧ h ≤ 1 + c ∧ ∀ t, A t = .free ↔ h ≤ t ∧ t < n
theorem Suf.start (n : Nat) : Suf n (emptyA n) 0 := by
  refine ⟨1, by omega, by omega, fun t => ?_⟩
  unfold emptyA
  split
  · simp; omega
  · simp; omega
theorem Suf.place (h : Suf n A c) (hm : (m + 63) / 64 ≤ d) (hd : 1 ≤ d) (hn : 1 + c + d ≤ n) : ¬ NoPlace n A m := by
  obtain ⟨q, h1, h2, h3⟩ := h
  rintro (⟨_, _, k3⟩ | ⟨k1, k2⟩)
  · exact k3 q ((h3 q).2 (by omega))
  · obtain ⟨t, k3, k4, k5⟩ := k2 q (by omega)
    exact k5 ((h3 t).2 (by omega))
theorem Suf.goes (h : Suf n A c) (g : Goes n A m a A') (hmd : (m + 63) / 64 ≤ d) (hd : 1 ≤ d) : Suf n A' (c + d) := by
  obtain ⟨h, h0, h00, hf⟩ := h
  cases g with
  | op s u hm hs e hn hl =>
    refine ⟨h, by omega, by omega, fun t => ?_⟩
    by_cases et : t = s
    · subst et
      have := hf t
      rw [e] at this
      rw [upd_same]
      simp at this ⊢
      exact this
    · rw [upd_ne _ _ et]; exact hf t
  | free s hm hs e hl hn =>
    have h1 := (hf s).1 e
    have h2 : s = h := by
      by_cases hh : s = h
      · exact hh
      · exact absurd ((hf h).2 (by omega)) (hl h (by omega))
    subst h2
    refine ⟨s + 1, by omega, by omega, fun t => ?_⟩
    by_cases et : t = s
    · subst et
      rw [upd_same]
      simp; omega
    · rw [upd_ne _ _ et, hf t]; omega
  | row f k hm hk hfn e hl =>
    have h1 := (hf f).1 (e f (by omega) (by omega))
    have h2 : f = h := by
      by_cases hh : f = h
      · exact hh
      · obtain ⟨t, k1, k2, k3⟩ := hl h (by omega)
        exact absurd ((hf t).2 (by omega)) k3
    subst h2
    refine ⟨f + k, by omega, by omega, fun t => ?_⟩
    show (if t = f then Kd.head k else if f < t ∧ t < f + k then Kd.tail else A t) = .free ↔ _
    by_cases e1 : t = f
    · rw [if_pos e1]; simp; omega
    · rw [if_neg e1]
      by_cases e2 : f < t ∧ t < f + k
      · rw [if_pos e2]; simp; omega
      · rw [if_neg e2, hf t]; omega
/-- The word z is the string s. -/
def StrOf (A : Nat → Kd) (wd : Nat → Int) (z : Int) (s : ByteArray) : Prop := (z = 0 ∧ s.size = 0) ∨ ∃ a : Nat, z = a ∧ StrAt A wd a s
theorem StrOf.keep (h : StrOf A wd z s) {b : Nat} (hI : Inv n A) (hI' : Inv n A') (g : Goes n A m b A') (ho : ∀ x, x < b ∨ b + roomOfM m ≤ x → wd' x = wd x) (hm : 0 < m) : StrOf A' wd' z s := by
  rcases h with h | ⟨a, e, h⟩
  · exact .inl h
  · exact .inr ⟨a, e, h.keep hI hI' g ho hm⟩
theorem size_zero {s : ByteArray} (h : s.size = 0) : s = ByteArray.empty := by
  cases s with | mk d => cases d with | mk l => cases l with
    | nil => rfl
    | cons a l => exact absurd h (by show (a :: l).length ≠ 0; simp)
theorem StrOf.back (h : StrOf A wd z s) (hI : Inv n A) (cs : List ByteArray) : bytI A wd cs z = s := by
  rcases h with ⟨rfl, h⟩ | ⟨a, rfl, h⟩
  · rw [byt_zero hI, size_zero h]
  · exact str_back h cs (by have := (room_in hI h.room).2.2; omega)
theorem StrOf.rng (h : StrOf A wd z s) (hI : Inv n A) (hn : n ≤ 16384) : 0 ≤ z ∧ z < 2000000 ∧ z % 2 = 0 ∧ (z = 0 ↔ s.size = 0) := by
  rcases h with ⟨rfl, h⟩ | ⟨a, rfl, h⟩
  · simp [h]
  · have := room_in hI h.room
    have := h.pos
    omega
theorem StrOf.get0 (h : StrOf A wd z s) (hI : Inv n A) : -9223372036854775808 ≤ getI A wd z 0 ∧ getI A wd z 0 < 9223372036854775808 := by
  rcases h with ⟨rfl, h⟩ | ⟨a, rfl, h⟩
  · rw [get_no]
    · omega
    · apply Classical.byContradiction
      intro hz
      obtain ⟨x, e, hx⟩ := room_nat hz
      have := (room_in hI hx).1
      omega
  · rw [h.get0]
    have := h.le
    omega
/-- A space, and the law's row of words. -/
structure BkM (w0 w : World) (B : HB) (p : Nat) (A : Nat → Kd) (wd : Nat → Int) (hv va : Value) (L : List Int) (ss : List ByteArray) : Prop where
  lw : Lw w0 w B 1024 p A wd hv L 0
  rva : w.ownsRow w0.heap.size 3 1 va L.length (L.map (Value.int .i64))
  da : ∀ g, va.ownBlock = some g → ¬ SpK B p hv g
  suf : Suf 1024 A (2 * L.length)
  each : ∀ i, i < L.length → StrOf A wd (L.getD i 0) (ss.getD i ByteArray.empty)
  z2 : 2 ≤ w0.heap.size
/-- With a string more, its word not yet in the row. -/
structure BkN (w0 w : World) (B : HB) (p : Nat) (A : Nat → Kd) (wd : Nat → Int) (hv : Value) (held : List Int) (va : Value) (L : List Int) (ss : List ByteArray) (z : Int) (t : ByteArray) : Prop where
  lw : Lw w0 w B 1024 p A wd hv held 0
  rva : w.ownsRow w0.heap.size 3 1 va L.length (L.map (Value.int .i64))
  da : ∀ g, va.ownBlock = some g → ¬ SpK B p hv g
  suf : Suf 1024 A (2 * L.length + 2)
  each : ∀ i, i < L.length → StrOf A wd (L.getD i 0) (ss.getD i ByteArray.empty)
  new : StrOf A wd z t
  z2 : 2 ≤ w0.heap.size
theorem BkM.quiet (h : BkM w0 w B p A wd hv va L ss) (k : Fr (fun _ => False) w w') : BkM w0 w' B p A wd hv va L ss :=
  ⟨h.lw.quiet k, own_blk h.rva (fun g hg => k.block g (h.rva.lt g hg).2 id), h.da, h.suf, h.each, h.z2⟩
theorem bk_new (h : BkM w0 w B p A wd hv va L ss) (hl : L.length < 50) (t : ByteArray) (ht : t.size ≤ 1000) :
    Calls Tryd.prog 10 #[.pointer (some ⟨p, 0, none⟩), .string t] w fun e w' => ∃ z A' wd', e = .returned (.tuple #[.int .i64 z, .bool true]) ∧ BkN w0 w' B p A' wd' hv L va L ss z t := by
  refine (New_str h.lw.sp (by omega) t (by omega)).mono ?_
  rintro e w' ⟨v, A', wd', cnt', hN, rfl, hsp, hF⟩
  have hr : w'.ownsRow w0.heap.size 3 1 va L.length (L.map (Value.int .i64)) := own_blk h.rva fun g hg => hF.block g (h.rva.lt g hg).2 (h.da g hg)
  have hL := h.lw.heap hsp hF
  have hwz : wsz t ≤ 125 := by unfold wsz; omega
  have hp := h.suf.place (m := 2 + wsz t) (d := 2) (by omega) (by omega) (by omega)
  cases hN with
  | nil h0 => exact ⟨0, _, _, rfl, hL, hr, h.da, by obtain ⟨q, q1, q2, q3⟩ := h.suf; exact ⟨q, q1, by omega, q3⟩, h.each, .inl ⟨rfl, h0⟩, h.z2⟩
  | long h0 => omega
  | at_ h1 h2 a A1 g =>
    have hge := roomOfM_ge (2 + wsz t)
    exact ⟨a, _, _, rfl, hL, hr, h.da, h.suf.goes g (by omega) (by omega), fun i hi => (h.each i hi).keep h.lw.sp.inv hsp.inv g (fun x hx => txt_out (by omega) x hx) (by omega), .inr ⟨a, rfl, txt_at h1 h2 h.lw.sp.inv g _⟩, h.z2⟩
  | gc _ _ hn => exact absurd hn hp
  | full _ _ hn => exact absurd hn hp
theorem bk_hold (h : BkN w0 w B p A wd hv L va L ss z t) (hl : L.length < 50) :
    Calls Tryd.prog 11 #[.pointer (some ⟨p, 0, none⟩), .int .i64 z] w fun e w' => e = .returned (.tuple #[]) ∧ ∃ hv2, BkN w0 w' B p A wd hv2 (L ++ [z]) va L ss z t := by
  have hz := h.new.rng h.lw.sp.inv (by decide)
  refine (Hold_any h.lw.sp z (by omega) (by omega)).mono ?_
  rintro e w' ⟨hv2, rfl, hs, hF, hg⟩
  refine ⟨rfl, hv2, h.lw.to hs hF hg, own_blk h.rva fun g hg => hF.block g (h.rva.lt g hg).2 (h.da g hg), fun g hga hk => ?_, h.suf, h.each, h.new, h.z2⟩
  rcases hk with hk | hk | hk
  · exact h.da g hga (.inl hk)
  · exact h.da g hga (.inr (.inl hk))
  · rcases hg g hk with e | e
    · exact h.da g hga (.inr (.inr e))
    · have := (h.rva.lt g hga).2; omega
theorem bk_push {o : Obj} {g cap : Nat} (h : BkN w0 w B p A wd hv (L ++ [z]) va L ss z (ss.getD L.length ByteArray.empty)) (hgr : (w.alloc o).grownBy W va.ownBlock) (ho : W.ownsRow w0.heap.size 3 1 (.slice (some ⟨g, 0, none⟩) (L.length + 1) cap) (L.length + 1) (L.map (Value.int .i64) ++ [.int .i64 z])) (hat : va.ownBlock = some g ∨ g = (w.alloc o).heap.size) :
    BkM w0 W B p A wd hv (.slice (some ⟨g, 0, none⟩) (L.length + 1) cap) (L ++ [z]) ss := by
  have hF : Fr (fun q => va.ownBlock = some q) w W := ((Fr.refl _ w).alloc o).trans ((Fr.grown hgr).mono fun _ e => e.symm)
  have hz := h.z2
  refine ⟨⟨h.lw.sp.fr' hF (fun b hb e => h.da b e hb) (fun e => by have := (h.rva.lt 0 e).1; omega) (fun e => by have := (h.rva.lt 1 e).1; omega), h.lw.far.up hF fun j hj => (h.rva.lt j hj).1, h.lw.base⟩, ?_, fun g' hg' hk => ?_, ?_, fun i hi => ?_, h.z2⟩
  · rw [List.length_append, List.map_append]; exact ho
  · have e : g = g' := by simpa [Value.ownBlock] using hg'
    subst e
    rcases hat with e | e
    · exact h.da g e hk
    · have := (h.lw.sp.lt hk).2
      rw [e] at this
      simp at this
      omega
  · rw [List.length_append]; exact h.suf
  · rw [List.length_append] at hi
    by_cases e : i = L.length
    · subst e
      rw [List.getD_eq_getElem?_getD, List.getElem?_append_right (Nat.le_refl _)]
      simp
      exact h.new
    · have hi' : i < L.length := by simp at hi; omega
      rw [List.getD_eq_getElem?_getD, List.getElem?_append_left hi', ← List.getD_eq_getElem?_getD]
      exact h.each i hi'
end Go.Proofs.YthfccidjckbcbaaDoor
namespace Go.Proofs.YthfccidjckbcbaaDoor
open Go.RowKit Go.Proofs.YthfccidjckbcbaaDoor.Hp
variable {w0 w w' W : World} {B : HB} {n p c m b a : Nat} {A A' A1 : Nat → Kd} {wd wd' : Nat → Int} {hv va : Value} {held L : List Int} {cnt : Nat} {ss : List ByteArray} {z : Int}
theorem byt_ext (hk : kinI A' wd' z = kinI A wd z) (hs : sizI A' wd' z = sizI A wd z) (hg : ∀ k, getI A' wd' z k = getI A wd z k) (ss : List ByteArray) : bytI A' wd' ss z = bytI A wd ss z := by
  have e : getI A' wd' z = getI A wd z := funext hg
  have el : lenI A' wd' z = lenI A wd z := by unfold lenI; rw [hk, hs, hg 0]
  unfold bytI
  rw [e, el]
/-- What another block is stays. -/
theorem byt_keep (hI : Inv n A) (hI' : Inv n A') (hd : ∀ x, roomN A x ≠ 0 → IsH (wd x) ∧ hS (wd x) < roomN A x) (g : Goes n A m b A') (ho : ∀ x, x < b ∨ b + roomOfM m ≤ x → wd' x = wd x) (hm : 0 < m) (hz : z ≠ b) (ss : List ByteArray) : bytI A' wd' ss z = bytI A wd ss z := by
  obtain ⟨g0, g1⟩ := room_goes hI g
  have hge := roomOfM_ge m
  have hrI : roomI A' z = roomI A z := by
    unfold roomI
    split
    · rw [g1, if_neg (by omega)]
    · rfl
  by_cases hr : roomI A z = 0
  · have hr' : roomI A' z = 0 := by rw [hrI]; exact hr
    refine byt_ext ?_ ?_ (fun k => ?_) ss
    · unfold kinI; rw [if_neg (fun x => x hr'), if_neg (fun x => x hr)]
    · unfold sizI; rw [if_neg (fun x => x hr'), if_neg (fun x => x hr)]
    · rw [get_no hr, get_no hr']
  · have hr' : roomI A' z ≠ 0 := by rw [hrI]; exact hr
    obtain ⟨x, rfl, hx⟩ := room_nat hr
    have hne : x ≠ b := fun e => hz (by rw [e])
    have hx' := g1 x
    rw [if_neg hne] at hx'
    have hb' := g1 b
    rw [if_pos rfl] at hb'
    obtain ⟨_, h2⟩ := hd x hx
    have key : ∀ y, x ≤ y → y < x + roomN A x → wd' y = wd y := fun y h1 h3 => by
      refine ho y ?_
      rcases Nat.lt_or_gt_of_ne hne with hl | hl
      · have := apart hI' hl (by omega) (by omega)
        omega
      · have := apart hI' hl (by omega) (by omega)
        omega
    have e0 := key x (by omega) (by omega)
    have es : sizI A' wd' x = sizI A wd x := by
      unfold sizI; rw [if_pos hr, if_pos hr', Int.toNat_natCast, e0]
    refine byt_ext ?_ es (fun k => ?_) ss
    · unfold kinI; rw [if_pos hr, if_pos hr', Int.toNat_natCast, e0]
    · have eh : hasB A' wd' x k = hasB A wd x k := by unfold hasB; rw [es]
      unfold getI
      rw [eh]
      split
      · rename_i hh
        unfold hasB sizI at hh
        rw [if_pos hr] at hh
        simp only [Int.toNat_natCast, Bool.and_eq_true, decide_eq_true_eq] at hh
        rw [Int.toNat_natCast]
        exact key _ (by omega) (by omega)
      · rfl
/-- The first k words of a block are set. -/
def putK (wd : Nat → Int) (a : Nat) (bs : List Int) (k : Nat) : Nat → Int := fun x => if a + 1 ≤ x ∧ x < a + 1 + k then bs.getD (x - (a + 1)) 0 else wd x
theorem putK_zero (wd : Nat → Int) (a : Nat) (bs : List Int) : putK wd a bs 0 = wd := by
  funext x
  unfold putK
  rw [if_neg (by omega)]
theorem putK_succ (wd : Nat → Int) (a : Nat) (bs : List Int) (k : Nat) : upd (putK wd a bs k) (a + (1 + k)) (bs.getD k 0) = putK wd a bs (k + 1) := by
  funext x
  by_cases e : x = a + (1 + k)
  · subst e
    rw [upd_same]
    unfold putK
    rw [if_pos (by omega), show a + (1 + k) - (a + 1) = k by omega]
  · rw [upd_ne _ _ e]
    unfold putK
    by_cases e2 : a + 1 ≤ x ∧ x < a + 1 + k
    · rw [if_pos e2, if_pos (by omega)]
    · rw [if_neg e2, if_neg (by omega)]
theorem putK_head (wd : Nat → Int) (a : Nat) (bs : List Int) (k : Nat) : putK wd a bs k a = wd a := by
  unfold putK
  rw [if_neg (by omega)]
theorem putK_out {m : Nat} {h : Int} {bs : List Int} (hm : 1 + bs.length ≤ roomOfM m) (x : Nat) (hx : x < a ∨ a + roomOfM m ≤ x) : putK (newW wd a m h) a bs bs.length x = wd x := by
  unfold putK
  rw [if_neg (by omega)]
  unfold newW
  rw [upd_ne _ _ (by omega), clear_out hx]
/-- A block of these numbers. -/
structure BlkAt (A : Nat → Kd) (wd : Nat → Int) (a : Nat) (kd : Int) (bs : List Int) : Prop where
  rt : Right kd (bs.length : Int) 0
  room : roomN A a ≠ 0
  hd : wd a = hdr kd (bs.length : Int) 0
  ws : ∀ k, k < bs.length → wd (a + 1 + k) = bs.getD k 0
theorem blk_at {kd : Int} {bs : List Int} (hR : Right kd (bs.length : Int) 0) (hI : Inv n A) (g : Goes n A (1 + bs.length) a A') (wd : Nat → Int) : BlkAt A' (putK (newW wd a (1 + bs.length) (hdr kd (bs.length : Int) 0)) a bs bs.length) a kd bs := by
  refine ⟨hR, room_made hI (by omega) g, by rw [putK_head, newW_self], fun k hk => ?_⟩
  unfold putK
  rw [if_pos (by omega), show a + 1 + k - (a + 1) = k by omega]
section
variable {kd : Int} {bs : List Int} (h : BlkAt A wd a kd bs)
include h
theorem BlkAt.roomZ : roomI A (a : Int) ≠ 0 := by unfold roomI; rw [if_pos (by omega), Int.toNat_natCast]; exact h.room
theorem BlkAt.kin : kinI A wd a = kd := by
  unfold kinI
  rw [if_pos h.roomZ, Int.toNat_natCast, h.hd]
  exact (hdr_open h.rt).2.1
theorem BlkAt.siz : sizI A wd a = bs.length := by
  unfold sizI
  rw [if_pos h.roomZ, Int.toNat_natCast, h.hd]
  exact (hdr_open h.rt).2.2.1
theorem BlkAt.get (k : Nat) : getI A wd a k = bs.getD k 0 := by
  by_cases hk : k < bs.length
  · have hh : hasB A wd a k = true := has_of h.room (by rw [h.hd, (hdr_open h.rt).2.2.1]; omega)
    unfold getI
    rw [if_pos hh, Int.toNat_natCast, Int.toNat_natCast, show a + (1 + k) = a + 1 + k by omega]
    exact h.ws k hk
  · have hh : hasB A wd a k = false := by
      unfold hasB
      rw [h.siz]
      simp
      omega
    unfold getI
    rw [hh, List.getD_eq_getElem?_getD, List.getElem?_eq_none (by omega)]
    simp
end
/-- The bytes that a block of this form has. -/
def outL (bs : List Int) (j : Nat) : List UInt8 := bytesL (fun z => bs.getD z.toNat 0) j
/-- A block is a string's. -/
def Form (kd : Int) (bs : List Int) : Prop := kd = 1 ∧ 0 < bs.length ∧ 1 ≤ bs.getD 0 0 ∧ bs.getD 0 0 ≤ 16384 ∧ (bs.length : Int) = 1 + (bs.getD 0 0 + 7) / 8
instance (kd : Int) (bs : List Int) : Decidable (Form kd bs) := inferInstanceAs (Decidable (_ ∧ _))
theorem form_yes {kd : Int} {bs : List Int} (h : BlkAt A wd a kd bs) (he : a % 2 = 0) (hf : Form kd bs) (ss : List ByteArray) : bytI A wd ss a = ⟨(outL bs (bs.getD 0 0).toNat).toArray⟩ := by
  obtain ⟨f1, f2, f3, f4, f5⟩ := hf
  have g0 := h.get 0
  rw [Int.natCast_zero] at g0
  have el : lenI A wd a = (bs.getD 0 0).toNat := by
    unfold lenI
    rw [h.kin, h.siz, g0, if_pos ⟨f1, by omega, by omega, by omega⟩]
  unfold bytI
  rw [if_neg (by omega), el]
  congr 2
  unfold outL bytesL
  apply List.map_congr_left
  intro i hi
  have hi' : i < (bs.getD 0 0).toNat := List.mem_range.1 hi
  have := h.get (1 + i / 8)
  rw [show ((1 + i / 8 : Nat) : Int) = 1 + ((i / 8 : Nat) : Int) by omega] at this
  rw [this]
  congr 2
theorem form_no {kd : Int} {bs : List Int} (h : BlkAt A wd a kd bs) (he : a % 2 = 0) (hl : bs.length ≤ 100) (hf : ¬ Form kd bs) (ss : List ByteArray) : bytI A wd ss a = ByteArray.empty := by
  have g0 := h.get 0
  rw [Int.natCast_zero] at g0
  have el : lenI A wd a = 0 := by
    unfold lenI
    rw [h.kin, h.siz, g0]
    split
    · rename_i hh
      obtain ⟨c1, c2, c3, c4⟩ := hh
      by_cases h0 : bs.getD 0 0 = 0
      · rw [h0]; rfl
      · exact absurd ⟨c1, by omega, by omega, by omega, by omega⟩ hf
    · rfl
  unfold bytI
  rw [if_neg (by omega), el]
  rfl
theorem byt_none (hz : z % 2 = 0) (hr : roomI A z = 0) (ss : List ByteArray) : bytI A wd ss z = ByteArray.empty := by
  have e : lenI A wd z = 0 := by
    have ek : kinI A wd z = 0 := by unfold kinI; rw [if_neg (fun x => x hr)]
    unfold lenI
    rw [ek, if_neg (fun x => absurd x.1 (by decide))]
  unfold bytI
  rw [if_neg (by omega), e]
  rfl
/-- All words are ints. -/
def Rng (wd : Nat → Int) : Prop := ∀ x, -9223372036854775808 ≤ wd x ∧ wd x < 9223372036854775808
theorem Rng.new (h : Rng wd) {m : Nat} {q : Int} (hq : -9223372036854775808 ≤ q ∧ q < 9223372036854775808) : Rng (newW wd a m q) := fun x => by
  unfold newW
  by_cases e : x = a
  · subst e; rw [upd_same]; exact hq
  · rw [upd_ne _ _ e]
    unfold clearW
    split
    · omega
    · exact h x
theorem Rng.put (h : Rng wd) {bs : List Int} (hb : ∀ v ∈ bs, -9223372036854775808 ≤ v ∧ v < 9223372036854775808) (k : Nat) : Rng (putK wd a bs k) := fun x => by
  unfold putK
  split
  · by_cases hx : x - (a + 1) < bs.length
    · exact hb _ (getD_mem hx)
    · rw [List.getD_eq_getElem?_getD, List.getElem?_eq_none (by omega)]
      exact ⟨by decide, by decide⟩
  · exact h x
theorem Rng.get (h : Rng wd) (z k : Int) : -9223372036854775808 ≤ getI A wd z k ∧ getI A wd z k < 9223372036854775808 := by
  unfold getI
  split
  · exact h _
  · omega
theorem hdr_rng {k s q : Int} (h : Right k s q) : -9223372036854775808 ≤ hdr k s q ∧ hdr k s q < 9223372036854775808 := by
  have e : hdr k s q = k * 2147483648 + q * 32768 + s := if_pos h
  rw [e]
  unfold Right at h
  omega
end Go.Proofs.YthfccidjckbcbaaDoor
namespace Go.Proofs.YthfccidjckbcbaaDoor
open Go.RowKit Go.Proofs.YthfccidjckbcbaaDoor.Hp Go.ChangeShapes Go.WideShapes Go.Deep
/-- A slice of numbers: where, and which. -/
structure Rw where
  wa : Option Addr
  wc : Nat
  W : List Int
/-- Numbers in memory. -/
def IntsX (w : World) (wa : Option Addr) (W : List Int) : Prop := (∀ v ∈ W, -9223372036854775808 ≤ v ∧ v < 9223372036854775808) ∧ ∀ j, j < W.length → ∃ b' off', wa = some ⟨b', off', none⟩ ∧ b' < w.heap.size ∧ w.cell? ⟨b', off' + j, none⟩ = some (.int .i64 (W.getD j 0))
def RowX (w : World) (a0 : Option Addr) (i : Nat) (r : Rw) : Prop := ∃ b off, a0 = some ⟨b, off, none⟩ ∧ b < w.heap.size ∧ w.cell? ⟨b, off + i, none⟩ = some (.slice r.wa r.W.length r.wc) ∧ r.W.length ≤ maxLen ∧ IntsX w r.wa r.W
theorem IntsX.fr {w w' : World} {wa : Option Addr} {W : List Int} (h : IntsX w wa W) (k : Fr (fun _ => False) w w') : IntsX w' wa W :=
  ⟨h.1, fun j hj => by
    obtain ⟨b, off, e, hlt, hc⟩ := h.2 j hj
    exact ⟨b, off, e, Nat.lt_of_lt_of_le hlt k.size, (World.cell?_of_block (w := w) (a := ⟨b, off + j, none⟩) (k.block b hlt id)).trans hc⟩⟩
theorem RowX.fr {w w' : World} {a0 : Option Addr} {i : Nat} {r : Rw} (h : RowX w a0 i r) (k : Fr (fun _ => False) w w') : RowX w' a0 i r := by
  obtain ⟨b, off, e, hlt, hc, hm, hx⟩ := h
  exact ⟨b, off, e, Nat.lt_of_lt_of_le hlt k.size, (World.cell?_of_block (w := w) (a := ⟨b, off + i, none⟩) (k.block b hlt id)).trans hc, hm, hx.fr k⟩
set_option maxRecDepth 100000 in
theorem open_rows {H : Type} {enc : TypeId × Value → H} {w : World} {spare : Nat → Bool} {held : Bool} {fuel : Nat} {a0 : Option Addr} {len cap : Nat} {x : DataW H × List MemPlace} (h : DataW.trod enc Tryd.prog w 0 spare held fuel 35 [.slice a0 len cap] = some x) :
    ∃ rs : List Rw, rs.length = len ∧ len ≤ maxLen ∧ ∀ i r, rs[i]? = some r → RowX w a0 i r := by
  rcases Go.Deep.open_slice Tryd.underlying35 h with ⟨h0, _⟩ | ⟨a, len', cap', m, n, D, Pl, hcs, hb, hl, hm, hmm, _, hx⟩
  · simp at h0
    obtain ⟨rfl, rfl, rfl⟩ := h0
    exact ⟨[], rfl, Nat.zero_le _, fun i r hr => by simp at hr⟩
  · simp at hcs
    obtain ⟨rfl, rfl, rfl⟩ := hcs
    have hlm : len ≤ m := by rw [hmm]; split <;> omega
    have ce : Tryd.prog.cellsOf 26 = 1 := by kernel_rfl
    have each : ∀ i, i < len → ∃ r : Rw, w.cell? (a.add i) = some (.slice r.wa r.W.length r.wc) ∧ r.W.length ≤ maxLen ∧ IntsX w r.wa r.W := by
      intro i hi
      obtain ⟨cs', h1, h2⟩ := hx i (by omega)
      rw [ce, Nat.mul_one] at h1
      obtain ⟨_, hlen, hcell⟩ := World.cells?_some h1
      match cs', hlen with
      | [v0], _ =>
        obtain ⟨wa, wc, W, e3, hW1, hW2, hW3⟩ := raw_words h2
        have k0 := hcell 0 (by omega)
        rw [add_add] at k0
        subst e3
        exact ⟨⟨wa, wc, W⟩, by simpa using k0, hW1, hW2, hW3⟩
    have each2 : ∀ i, ∃ r : Rw, i < len → w.cell? (a.add i) = some (.slice r.wa r.W.length r.wc) ∧ r.W.length ≤ maxLen ∧ IntsX w r.wa r.W := fun i => by
      by_cases hi : i < len
      · obtain ⟨r, hr⟩ := each i hi
        exact ⟨r, fun _ => hr⟩
      · exact ⟨⟨none, 0, []⟩, fun h => absurd h hi⟩
    obtain ⟨f, hf⟩ := Classical.axiomOfChoice each2
    refine ⟨(List.range len).map f, by simp, by omega, fun i r hr => ?_⟩
    have hi : i < len := by
      have := (List.getElem?_eq_some_iff.1 hr).1
      simpa using this
    obtain rfl : f i = r := by
      rw [List.getElem?_map, List.getElem?_range hi] at hr
      simpa using hr
    obtain ⟨k0, hm1, hm2⟩ := hf i hi
    obtain ⟨b, off, spot⟩ := a
    have hspot : spot = none := by simpa [Addr.add] using World.cell?_spot (hf 0 (by omega)).1
    subst hspot
    rw [Go.WideShapes.add_plain] at k0
    exact ⟨b, off, rfl, World.block_lt_of_cell? w ⟨b, off + i, none⟩ k0, k0, hm1, hm2⟩
end Go.Proofs.YthfccidjckbcbaaDoor
namespace Go.Proofs.YthfccidjckbcbaaDoor
open Go.RowKit Go.Proofs.YthfccidjckbcbaaDoor.Hp
variable {w0 w w' W : World} {B : HB} {n p c m b a : Nat} {A A' A1 : Nat → Kd} {wd wd' : Nat → Int} {hv va : Value} {held L : List Int} {cnt : Nat} {ss : List ByteArray} {z kd : Int} {bs : List Int}
structure RS (w0 w : World) (B : HB) (p : Nat) (A : Nat → Kd) (wd : Nat → Int) (hv : Value) (held : List Int) (c : Nat) : Prop where
  lw : Lw w0 w B 256 p A wd hv held 0
  suf : Suf 256 A c
  rng : Rng wd
theorem RS.quiet (h : RS w0 w B p A wd hv held c) (k : Fr (fun _ => False) w w') : RS w0 w' B p A wd hv held c := ⟨h.lw.quiet k, h.suf, h.rng⟩
theorem reads_make (h : RS w0 w B p A wd hv held c) (hc : c ≤ 200) (hR : Right kd (bs.length : Int) 0) (hl : bs.length ≤ 100) :
    Calls Tryd.prog 15 #[.pointer (some ⟨p, 0, none⟩), .int .i64 kd, .int .i64 bs.length, .int .i64 0] w fun e w' => ∃ (a : Nat) (A' : Nat → Kd), e = .returned (.tuple #[.int .i64 (a : Int), .bool true]) ∧ Goes 256 A (1 + bs.length) a A' ∧ RS w0 w' B p A' (newW wd a (1 + bs.length) (hdr kd (bs.length : Int) 0)) hv held (c + 2) := by
  refine (Make_any h.lw.sp (by omega) kd bs.length 0).mono ?_
  rintro e w' ⟨v, A1, wd1, cnt1, hm, rfl, hsp, hF⟩
  have hp := h.suf.place (m := 1 + bs.length) (d := 2) (by omega) (by omega) (by omega)
  cases hm with
  | no hr => exact absurd hR hr
  | at_ hr a A2 g =>
    rw [Int.toNat_natCast] at g hsp
    exact ⟨a, _, rfl, g, h.lw.heap hsp hF, h.suf.goes g (by omega) (by omega), h.rng.new (hdr_rng hR)⟩
  | gc hr hn => rw [Int.toNat_natCast] at hn; exact absurd hn hp
  | full hr hn => rw [Int.toNat_natCast] at hn; exact absurd hn hp
theorem reads_hold (h : RS w0 w B p A wd hv held c) (hl : held.length ≤ 100) (ha : roomN A a ≠ 0) :
    Calls Tryd.prog 11 #[.pointer (some ⟨p, 0, none⟩), .int .i64 (a : Int)] w fun e w' => e = .returned (.tuple #[]) ∧ ∃ hv2, RS w0 w' B p A wd hv2 (held ++ [(a : Int)]) c := by
  have := room_in h.lw.sp.inv ha
  refine (Hold_any h.lw.sp a (by omega) (by omega)).mono ?_
  rintro e w' ⟨hv2, rfl, hs, hF, hg⟩
  exact ⟨rfl, hv2, h.lw.to hs hF hg, h.suf, h.rng⟩
theorem reads_set {k : Nat} (h : RS w0 w B p A (putK wd a bs k) hv held c) (hR : Right kd (bs.length : Int) 0) (hh : wd a = hdr kd (bs.length : Int) 0) (ha : roomN A a ≠ 0) (hk : k < bs.length) (hv1 : -9223372036854775808 ≤ bs.getD k 0 ∧ bs.getD k 0 < 9223372036854775808) :
    Calls Tryd.prog 16 #[.pointer (some ⟨p, 0, none⟩), .int .i64 (a : Int), .int .i64 (k : Int), .int .i64 (bs.getD k 0)] w fun e w' => e = .returned (.bool true) ∧ RS w0 w' B p A (putK wd a bs (k + 1)) hv held c := by
  refine (SetS h.lw.sp k (bs.getD k 0) k rfl ha (by rw [putK_head, hh, (hdr_open hR).2.2.1]; omega)).mono ?_
  rintro e w' ⟨rfl, hs, hF⟩
  rw [putK_succ] at hs
  refine ⟨rfl, h.lw.heap hs hF, h.suf, ?_⟩
  rw [← putK_succ]
  intro x
  by_cases e : x = a + (1 + k)
  · subst e; rw [upd_same]; exact hv1
  · rw [upd_ne _ _ e]; exact h.rng x
/-- What the word is, with a block more. -/
theorem reads_next (h : RS w0 w B p A wd hv held c) (hR : Right kd (bs.length : Int) 0) (hl : bs.length ≤ 100) (g : Goes 256 A (1 + bs.length) a A') (hI' : Inv 256 A') (ss : List ByteArray) (z : Int) :
    bytI A' (putK (newW wd a (1 + bs.length) (hdr kd (bs.length : Int) 0)) a bs bs.length) ss z = if z = a ∧ Form kd bs then ⟨(outL bs (bs.getD 0 0).toNat).toArray⟩ else bytI A wd ss z := by
  have hI := h.lw.sp.inv
  have hge := roomOfM_ge (1 + bs.length)
  by_cases e : z = a
  · subst e
    have hb := blk_at hR hI g wd
    have hev := (room_in hI' hb.room).2.2
    have hr : roomI A (a : Int) = 0 := by unfold roomI; rw [if_pos (by omega), Int.toNat_natCast]; exact (room_goes hI g).1
    by_cases hf : Form kd bs
    · rw [if_pos ⟨rfl, hf⟩]; exact form_yes hb hev hf ss
    · rw [if_neg (fun x => hf x.2), byt_none (by omega) hr]; exact form_no hb hev hl hf ss
  · rw [if_neg (fun x => e x.1)]
    exact byt_keep hI hI' h.lw.sp.hd g (fun x hx => putK_out (by omega) x hx) (by omega) e ss
theorem uns_push {wr : World} {base g cap cp1 d : Nat} {av : Value} {xs : List UInt8} {x : UInt8} {ao1 : Option Addr} {o : Obj} (hu : UnS w wr base av xs (.slice ao1 d cp1) d) (hown : W.ownsRow base 5 1 (.slice (some ⟨g, 0, none⟩) (d + 1) cap) (d + 1) (xs.map byV ++ [byV x])) (hg : (wr.alloc o).grownBy W (Value.slice ao1 d cp1).ownBlock) (hat : (Value.slice ao1 d cp1).ownBlock = some g ∨ g = (wr.alloc o).heap.size) :
    UnS w W base av (xs ++ [x]) (.slice (some ⟨g, 0, none⟩) (d + 1) cap) (d + 1) := by
  have hF : Fr (fun q => (Value.slice ao1 d cp1).ownBlock = some q) wr W := ((Fr.refl _ wr).alloc o).trans ((Fr.grown hg).mono fun _ e => e.symm)
  refine ⟨by rw [List.map_append]; exact hown, ?_, ?_⟩
  · refine ⟨hg.os.trans hu.fr.os, hg.tape.trans hu.fr.tape, hg.output.trans hu.fr.output, Nat.le_trans hu.fr.size hF.size, fun i hi hn => ?_⟩
    refine (hF.block i (Nat.lt_of_lt_of_le hi hu.fr.size) fun e => ?_).trans (hu.fr.block i hi hn)
    rcases hu.new i e with e2 | e2
    · exact hn e2
    · omega
  · intro g' hg'
    have eg : g = g' := by simpa [Value.ownBlock] using hg'
    subst eg
    rcases hat with e | e
    · exact hu.new g e
    · right
      have := hu.fr.size
      rw [e]; simp; omega
theorem outL_succ (bs : List Int) (j : Nat) : outL bs (j + 1) = outL bs j ++ [byteAt (bs.getD (1 + j / 8) 0) (j % 8)] := by
  unfold outL bytesL
  rw [List.range_succ, List.map_append]
  congr 1
theorem out_byte (v : Int) (j : Nat) : (bits .and .i64 (v / 2 ^ (8 * (j % 8))) 255) % 256 = ((byteAt v (j % 8)).toNat : Int) := by
  have e1 : bits .and .i64 (v / 2 ^ (8 * (j % 8))) 255 = v / 2 ^ (8 * (j % 8)) % 256 := i64_low (v / 2 ^ (8 * (j % 8))) 8 (by decide)
  rw [byteAt_toNat, e1]
  generalize v / 2 ^ (8 * (j % 8)) = y
  omega
theorem Tryd.info9 : (Tryd.prog.info? 9).map (fun i => (i.zero, i.size, i.bytes)) = some (some (.string ⟨#[]⟩), 1, 16) := by kernel_rfl
theorem run_app_zero (W : World) (x : Addr) (ao : Option Addr) (c : Nat) (ty : TypeId) : (Builtin.append_ #[22, 22] ty #[.slice (some x) 0 0, .slice ao 0 c]).run Tryd.prog W = .ok (.slice (some x) 0 0) W := by
  obtain ⟨i0, hi, hz0, hz1, hz2⟩ := info_parts Tryd.info9
  cases ao with
  | none => simp [Builtin.append_, run_underlying Tryd.underlying22, sizeOf, typeInfo, hi, Builtin.lenOf, Builtin.firstCells, storeCells]
  | some y => simp [Builtin.append_, run_underlying Tryd.underlying22, sizeOf, typeInfo, hi, Builtin.lenOf, Builtin.firstCells, storeCells, loadCells, loadCellsFrom]
theorem wpList_app_zero {ops : Array Oper} {rest : List Oper} {o : Oper} {a : Act} {Q : Exit → Act → World → Prop} (hgd : o.guard = none) (s x : Operand) (ho : o.op = .call { callee := .builtin .append, args := #[s, x], argTypes := #[22, 22] }) (ad : Addr) (ao : Option Addr) (c : Nat) (hs : a.eval s = .slice (some ad) 0 0) (hx : a.eval x = .slice ao 0 c)
    (h : wpList Tryd.prog ops Q rest (a.put o.dst (.slice (some ad) 0 0)) W) : wpList Tryd.prog ops Q (o :: rest) a W :=
  wpList_plain hgd fun _ hK => by
    have hr := run_app_zero W ad ao c o.type
    unfold Oper.wp execOp
    simp only [ho, resolve, invoke, builtin, Sem.run_bind, Sem.run_pure, Result.andThen_ok, List.map_toArray, List.map_cons, List.map_nil, hs, hx, hr]
    exact hK _ _ h
theorem strs_own {base g l cap : Nat} {ss : List ByteArray} (h : W.ownsRow base 9 1 (.slice (some ⟨g, 0, none⟩) l cap) l (ss.map Value.string)) : StrsAt W (some ⟨g, 0, none⟩) l ss := by
  have hl : ss.length = l := by have := h.1; simpa using this
  refine ⟨hl, fun j hj => ⟨g, 0, rfl, (h.lt g rfl).2, ?_⟩⟩
  have := h.cells (g := g) rfl j (.string (ss.getD j ByteArray.empty)) (by rw [List.getElem?_map, List.getD_eq_getElem?_getD, List.getElem?_eq_getElem (by omega)]; rfl)
  rw [Nat.zero_add]
  have e : (⟨g, 0, none⟩ : Addr).add j = ⟨g, j, none⟩ := by unfold Addr.add; split <;> simp_all
  rw [e] at this
  exact this
theorem strs_one (ss : List ByteArray) : ∀ u ∈ ss.map Value.string, u.oneCell' = true := by
  intro u hu
  obtain ⟨_, _, rfl⟩ := List.mem_map.1 hu
  rfl
theorem strs_cells {b off l : Nat} {ss : List ByteArray} (h : StrsAt W (some ⟨b, off, none⟩) l ss) : ∀ j u, (ss.map Value.string)[j]? = some u → W.cell? ((⟨b, off, none⟩ : Addr).add j) = some u := by
  intro j u hu
  rw [List.getElem?_map] at hu
  obtain ⟨s, hs, rfl⟩ := Option.map_eq_some_iff.1 hu
  have hj : j < l := by have := (List.getElem?_eq_some_iff.1 hs).1; have := h.1; omega
  obtain ⟨b', off', e, _, hc⟩ := h.2 j hj
  simp only [Option.some.injEq, Addr.mk.injEq, and_true] at e
  obtain ⟨rfl, rfl⟩ := e
  rw [Go.WideShapes.add_plain, hc, List.getD_eq_getElem?_getD, hs]
  rfl
end Go.Proofs.YthfccidjckbcbaaDoor
