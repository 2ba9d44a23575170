/- A string in a space: what is read of it; what keeps it. -/
import Derived.Test.YthfccidjckbcbaaDoorX4
import Derived.Lib.Strings
namespace Go.Proofs.YthfccidjckbcbaaDoor
open Go.RowKit Go.Proofs.YthfccidjckbcbaaDoor.Hp
variable {w w' : World} {B : HB} {n p : Nat} {A A' : Nat → Kd} {wd wd' : Nat → Int} {hv : Value} {held : List Int} {cnt : Nat} {a : Nat} {s : ByteArray}
/-- The string s stands at a. -/
structure StrAt (A : Nat → Kd) (wd : Nat → Int) (a : Nat) (s : ByteArray) : Prop where
  pos : 0 < s.size
  le : s.size ≤ 16384
  room : roomN A a ≠ 0
  big : 1 + wsz s < roomN A a
  hd : wd a = hdr 1 (1 + wsz s : Nat) 0
  w1 : wd (a + 1) = s.size
  ws : ∀ k, k < wsz s → wd (a + 2 + k) = packI (chunk s k)
theorem str_right (h : s.size ≤ 16384) : Right 1 ((1 + wsz s : Nat) : Int) 0 := by unfold Right wsz; omega
theorem txt_at (h1 : 0 < s.size) (h2 : s.size ≤ 16384) (hI : Inv n A) (g : Goes n A (2 + wsz s) a A') (wd : Nat → Int) : StrAt A' (txtK (newW wd a (2 + wsz s) (hdr 1 (1 + wsz s : Nat) 0)) a s (wsz s)) a s := by
  have hr := (room_goes hI g).2 a
  rw [if_pos rfl] at hr
  have hge := roomOfM_ge (2 + wsz s)
  refine ⟨h1, h2, by omega, by omega, by rw [txtK_head, newW_self], ?_, fun k hk => ?_⟩
  · unfold txtK; rw [if_pos rfl]
  · unfold txtK; rw [if_neg (by omega), if_pos (by omega), show a + 2 + k - (a + 2) = k by omega]
theorem txt_out {m : Nat} {h : Int} (hm : 2 + wsz s ≤ roomOfM m) (x : Nat) (hx : x < a ∨ a + roomOfM m ≤ x) : txtK (newW wd a m h) a s (wsz s) x = wd x := by
  have h0 : 2 ≤ roomOfM m := by omega
  unfold txtK
  rw [if_neg (by omega), if_neg (by omega)]
  unfold newW
  rw [upd_ne _ _ (by omega), clear_out hx]
/-- What stands elsewhere stays. -/
theorem StrAt.keep (h : StrAt A wd a s) {m b : Nat} (hI : Inv n A) (hI' : Inv n A') (g : Goes n A m b A') (ho : ∀ x, x < b ∨ b + roomOfM m ≤ x → wd' x = wd x) (hm : 0 < m) : StrAt A' wd' a s := by
  obtain ⟨g0, g1⟩ := room_goes hI g
  have hne : a ≠ b := fun e => h.room (by rw [e]; exact g0)
  have ha := g1 a
  rw [if_neg hne] at ha
  have hb := g1 b
  rw [if_pos rfl] at hb
  have hge := roomOfM_ge m
  have hra : roomN A' a ≠ 0 := by rw [ha]; exact h.room
  have hrb : roomN A' b ≠ 0 := by rw [hb]; omega
  have hbig := h.big
  have key : ∀ x, a ≤ x → x < a + roomN A a → wd' x = wd x := fun x h1 h2 => by
    refine ho x ?_
    rcases Nat.lt_or_gt_of_ne hne with hl | hl
    · have := apart hI' hl hra hrb
      omega
    · have := apart hI' hl hrb hra
      omega
  refine ⟨h.pos, h.le, hra, by rw [ha]; exact h.big, by rw [key a (by omega) (by omega)]; exact h.hd, by rw [key _ (by omega) (by omega)]; exact h.w1, fun k hk => ?_⟩
  rw [key _ (by omega) (by omega)]
  exact h.ws k hk
/-- What a collection reaches stays. -/
theorem StrAt.gc (h : StrAt A wd a s) {rb : Nat → Bool} (hg : Gc n A wd held rb A') (hr : rb a = true) : StrAt A' wd a s := by
  have := hg.room a
  rw [if_pos hr] at this
  exact ⟨h.pos, h.le, by rw [this]; exact h.room, by rw [this]; exact h.big, h.hd, h.w1, h.ws⟩
section
variable (h : StrAt A wd a s)
include h
theorem StrAt.roomZ : roomI A (a : Int) ≠ 0 := by unfold roomI; rw [if_pos (by omega), Int.toNat_natCast]; exact h.room
theorem StrAt.kin : kinI A wd a = 1 := by
  unfold kinI
  rw [if_pos h.roomZ, Int.toNat_natCast, h.hd]
  exact (hdr_open (str_right h.le)).2.1
theorem StrAt.siz : sizI A wd a = ((1 + wsz s : Nat) : Int) := by
  unfold sizI
  rw [if_pos h.roomZ, Int.toNat_natCast, h.hd]
  exact (hdr_open (str_right h.le)).2.2.1
theorem StrAt.msk : mskI A wd a = 0 := by
  unfold mskI
  rw [if_pos h.roomZ, Int.toNat_natCast, h.hd]
  exact (hdr_open (str_right h.le)).2.2.2
theorem StrAt.has {q : Nat} (hq : q < 1 + wsz s) : hasB A wd a q = true := has_of h.room (by rw [h.hd, (hdr_open (str_right h.le)).2.2.1]; omega)
theorem StrAt.get0 : getI A wd a 0 = s.size := by
  unfold getI
  have := h.has (q := 0) (by omega)
  rw [Int.natCast_zero] at this
  rw [if_pos this]
  exact h.w1
theorem StrAt.get {k : Nat} (hk : k < wsz s) (z : Int) (hz : z = 1 + (k : Int)) : getI A wd a z = packI (chunk s k) := by
  obtain rfl : z = ((1 + k : Nat) : Int) := by omega
  unfold getI
  rw [if_pos (h.has (q := 1 + k) (by omega))]
  rw [Int.toNat_natCast, Int.toNat_natCast, show a + (1 + (1 + k)) = a + 2 + k by omega]
  exact h.ws k hk
theorem StrAt.len : lenI A wd a = s.size := by
  have := h.pos
  unfold lenI
  rw [h.kin, h.siz, h.get0, if_pos ⟨rfl, by omega, by unfold wsz; omega, by unfold wsz; omega⟩]
  omega
end
theorem chunk_get (s : ByteArray) (k j : Nat) (hj : j < 8) : (chunk s k).getD j 0 = s.toList.getD (8 * k + j) 0 := by
  unfold chunk
  have e : (s.extract (8 * k) (min (8 * k + 8) s.size)).toList = (s.toList.drop (8 * k)).take (min (8 * k + 8) s.size - 8 * k) := by
    rw [ByteArray.toList_eq, ByteArray.toList_eq, Lib.extract_data]
  rw [e, List.getD_eq_getElem?_getD, List.getD_eq_getElem?_getD, List.getElem?_take]
  split
  · rw [List.getElem?_drop]
  · rw [List.getElem?_eq_none (by rw [toL_len]; omega)]
theorem byte_get (h : StrAt A wd a s) {j : Nat} (hj : j < 8 * wsz s) (z : Int) (hz : z = 1 + ((j / 8 : Nat) : Int)) : byteAt (getI A wd a z) (j % 8) = s.toList.getD j 0 := by
  rw [h.get (k := j / 8) (by omega) z hz, byteAt_pack _ _ (by omega), chunk_get _ _ _ (by omega), show 8 * (j / 8) + j % 8 = j by omega]
theorem str_back (h : StrAt A wd a s) (ss : List ByteArray) (he : a % 2 = 0) : bytI A wd ss a = s := by
  unfold bytI
  rw [if_neg (by omega), h.len]
  have e : bytesL (getI A wd a) s.size = s.toList := by
    refine List.ext_getElem (by rw [bytesL_len, toL_len]) fun i h1 h2 => ?_
    have h3 : i < s.size := by rw [bytesL_len] at h1; exact h1
    have e2 := byte_get h (j := i) (by unfold wsz; omega) _ rfl
    rw [List.getD_eq_getElem?_getD, List.getElem?_eq_getElem h2] at e2
    simp only [bytesL, List.getElem_map, List.getElem_range]
    exact e2
  rw [e, ByteArray.toList_eq]
theorem byt_zero (hI : Inv n A) (ss : List ByteArray) : bytI A wd ss 0 = ByteArray.empty := by
  have hr : roomI A 0 = 0 := by
    apply Classical.byContradiction
    intro h
    obtain ⟨x, e, hx⟩ := room_nat h
    have := (room_in hI hx).1
    omega
  have e : lenI A wd 0 = 0 := by
    have ek : kinI A wd 0 = 0 := by unfold kinI; rw [if_neg (fun x => x hr)]
    unfold lenI
    rw [ek, if_neg (fun x => absurd x.1 (by decide))]
  unfold bytI
  rw [if_neg (by decide), e]
  rfl
end Go.Proofs.YthfccidjckbcbaaDoor
