/- TextJoins: what its walk needs. -/
import Derived.Test.YthfccidjckbcbaaDoorB1
namespace Go.Proofs.YthfccidjckbcbaaDoor
open Go.RowKit Go.Proofs.YthfccidjckbcbaaDoor.Hp
variable {w0 w w' W : World} {B : HB} {n p c m d a : Nat} {A A' A1 : Nat → Kd} {wd wd' : Nat → Int} {hv va : Value} {held L : List Int} {cnt : Nat} {s t : ByteArray} {ss : List ByteArray} {z : Int}
/-- All blocks are numbers alone. -/
def AllD (A : Nat → Kd) (wd : Nat → Int) : Prop := ∀ x, roomN A x ≠ 0 → hK (wd x) = 1
def MoreP (w0 : World) (B : HB) (n p : Nat) (A : Nat → Kd) (wd : Nat → Int) (hv : Value) (held : List Int) (cnt c : Nat) (t : ByteArray) (e : Ending) (w' : World) : Prop :=
  ∃ z A' wd', e = .returned (.tuple #[.int .i64 z, .bool true]) ∧ Lw w0 w' B n p A' wd' hv held cnt ∧ Suf n A' c ∧ AllD A' wd' ∧ StrOf A' wd' z t ∧ ∀ u s, StrOf A wd u s → StrOf A' wd' u s ∧ (u ≠ 0 → u ≠ z)
theorem new_more (h : Lw w0 w B n p A wd hv held cnt) (hc : cnt < 100000) (hs : Suf n A c) (hD : AllD A wd) (t : ByteArray) (ht : t.size ≤ 16384) (d : Nat) (hd : (2 + wsz t + 63) / 64 ≤ d) (hd1 : 1 ≤ d) (hn : 1 + c + d ≤ n) :
    Calls Tryd.prog 10 #[.pointer (some ⟨p, 0, none⟩), .string t] w fun e w' => MoreP w0 B n p A wd hv held cnt (c + d) t e w' := by
  refine (New_to h hc t (by omega)).mono ?_
  rintro e w' ⟨v, A', wd', cnt', hN, rfl, hL⟩
  have hp := hs.place (m := 2 + wsz t) hd hd1 hn
  cases hN with
  | nil h0 => exact ⟨0, _, _, rfl, hL, by obtain ⟨q, q1, q2, q3⟩ := hs; exact ⟨q, q1, by omega, q3⟩, hD, .inl ⟨rfl, h0⟩, fun u s h => ⟨h, id⟩⟩
  | long h0 => omega
  | at_ h1 h2 a A1 g =>
    have hge := roomOfM_ge (2 + wsz t)
    have hI := h.sp.inv
    have hI' := hL.sp.inv
    obtain ⟨g0, g1⟩ := room_goes hI g
    have ho : ∀ x, x < a ∨ a + roomOfM (2 + wsz t) ≤ x → txtK (newW wd a (2 + wsz t) (hdr 1 (1 + wsz t : Nat) 0)) a t (wsz t) x = wd x := fun x hx => txt_out (by omega) x hx
    have hA := txt_at h1 h2 hI g wd
    refine ⟨a, _, _, rfl, hL, hs.goes g hd hd1, fun x hx => ?_, .inr ⟨a, rfl, hA⟩, fun u s hu => ⟨hu.keep hI hI' g ho (by omega), fun hu0 e => ?_⟩⟩
    · by_cases e : x = a
      · subst e
        rw [hA.hd]
        exact (hdr_open (str_right h2)).2.1
      · have hx2 := g1 x
        rw [if_neg e] at hx2
        have hxA : roomN A x ≠ 0 := by rw [← hx2]; exact hx
        have hra : roomN A' a ≠ 0 := hA.room
        have hra2 := g1 a
        rw [if_pos rfl] at hra2
        rw [ho x ?_]
        · exact hD x hxA
        · rcases Nat.lt_or_gt_of_ne e with hl | hl
          · exact .inl hl
          · have := apart hI' hl hra hx
            omega
    · rcases hu with ⟨e0, _⟩ | ⟨b, rfl, hb⟩
      · exact hu0 e0
      · obtain rfl : b = a := by omega
        exact hb.room g0
  | gc _ _ hn => exact absurd hn hp
  | full _ _ hn => exact absurd hn hp
/-- Three strings. -/
structure Tri (A : Nat → Kd) (wd : Nat → Int) (x y z : Int) (a b c : ByteArray) : Prop where
  sx : StrOf A wd x a
  sy : StrOf A wd y b
  sz : StrOf A wd z c
  xy : x ≠ 0 → x ≠ y
  xz : x ≠ 0 → x ≠ z
  yz : y ≠ 0 → y ≠ z
def nz (s : ByteArray) : Nat := if s.size = 0 then 0 else 1
theorem StrOf.gc (h : StrOf A wd z s) {rb : Nat → Bool} (hI : Inv n A) (hD : AllD A wd) (hg : Gc n A wd held rb A1) (hm : z ∈ held ∨ z = 0) : StrOf A1 wd z s := by
  rcases h with h | ⟨a, rfl, h⟩
  · exact .inl h
  · have h64 := (room_in hI h.room).1
    refine .inr ⟨a, rfl, h.gc hg ((hg.rch a).2 ((reach_data hD a).2 ⟨?_, h.room⟩))⟩
    rcases hm with hm | hm
    · exact hm
    · omega
theorem Tri.gc {x y : Int} {a b c : ByteArray} (h : Tri A wd x y z a b c) {rb : Nat → Bool} (hI : Inv n A) (hD : AllD A wd) (hg : Gc n A wd held rb A1) (hx : x ∈ held) (hy : y ∈ held) (hz : z ∈ held ∨ z = 0) : Tri A1 wd x y z a b c :=
  ⟨h.sx.gc hI hD hg (.inl hx), h.sy.gc hI hD hg (.inl hy), h.sz.gc hI hD hg hz, h.xy, h.xz, h.yz⟩
/-- The places that the words lead to. -/
def plc (z : Int) : List Nat := if z = 0 then [] else [z.toNat]
theorem plc_len (h : StrOf A wd z s) (hI : Inv n A) : (plc z).length = nz s := by
  unfold plc nz
  rcases h with ⟨rfl, h⟩ | ⟨a, rfl, h⟩
  · rw [if_pos rfl, if_pos h]; rfl
  · have := (room_in hI h.room).1
    have := h.pos
    rw [if_neg (by omega), if_neg (by omega)]; rfl
theorem plc_mem {z : Int} {u : Nat} (hz : 0 ≤ z) : u ∈ plc z ↔ z ≠ 0 ∧ z = u := by
  unfold plc
  by_cases e : z = 0
  · rw [if_pos e]; simp [e]
  · rw [if_neg e, List.mem_singleton]
    omega
theorem plc_nd (z : Int) : (plc z).Nodup := by
  unfold plc
  split
  · exact List.nodup_nil
  · exact List.nodup_cons.2 ⟨by simp, List.nodup_nil⟩
/-- Behind a collection there are just these. -/
theorem tri_len {x y : Int} {a b c : ByteArray} (h : Tri A wd x y z a b c) {rb : Nat → Bool} (hI : Inv n A) (hn : n ≤ 16384) (hD : AllD A wd) (hg : Gc n A wd held rb A1) (hx : x ∈ held) (hy : y ∈ held) (hz : z ∈ held ∨ z = 0) (ho : ∀ u ∈ held, u = x ∨ u = y ∨ u = z) : (blkL A1 n).length = nz a + nz b + nz c := by
  have h1 : (blkL A1 n).Nodup := (blkL_sorted hg.inv n).imp fun h => by omega
  have rx := h.sx.rng hI hn
  have ry := h.sy.rng hI hn
  have rz := h.sz.rng hI hn
  have h2 : (plc x ++ (plc y ++ plc z)).Nodup := by
    rw [List.nodup_append]
    refine ⟨plc_nd _, ?_, fun u hu v hv => ?_⟩
    · rw [List.nodup_append]
      refine ⟨plc_nd _, plc_nd _, fun u hu v hv => ?_⟩
      rw [plc_mem (by omega)] at hu hv
      have := h.yz hu.1
      omega
    · rw [plc_mem (by omega)] at hu
      have e1 := h.xy hu.1
      have e2 := h.xz hu.1
      rcases List.mem_append.1 hv with hv | hv <;> rw [plc_mem (by omega)] at hv <;> omega
  have key : ∀ {u : Int} {s : ByteArray}, StrOf A wd u s → (u ∈ held ∨ u = 0) → ∀ v : Nat, u ≠ 0 → u = v → roomN A1 v ≠ 0 := fun {u s} hs hm v h0 e => by
    rcases hs.gc hI hD hg hm with ⟨e0, _⟩ | ⟨q, e1, hq⟩
    · exact absurd e0 h0
    · obtain rfl : q = v := by omega
      exact hq.room
  have := perm_len h1 h2 fun u => by
    rw [blkL_mem hg.inv u n, List.mem_append, List.mem_append, plc_mem (by omega), plc_mem (by omega), plc_mem (by omega)]
    constructor
    · rintro ⟨_, hu⟩
      have hr := hg.room u
      by_cases hb : rb u = true
      · rw [if_pos hb] at hr
        have hrc := (reach_data hD u).1 ((hg.rch u).1 hb)
        have h64 := (room_in hI hrc.2).1
        rcases ho _ hrc.1 with e | e | e
        · exact .inl ⟨by omega, e.symm⟩
        · exact .inr (.inl ⟨by omega, e.symm⟩)
        · exact .inr (.inr ⟨by omega, e.symm⟩)
      · rw [if_neg hb] at hr; exact absurd hr hu
    · intro hu
      have hroom : roomN A1 u ≠ 0 := by
        rcases hu with ⟨h0, e⟩ | ⟨h0, e⟩ | ⟨h0, e⟩
        · exact key h.sx (.inl hx) u h0 e
        · exact key h.sy (.inl hy) u h0 e
        · exact key h.sz hz u h0 e
      have := room_in hg.inv hroom
      exact ⟨by omega, hroom⟩
  rw [this, List.length_append, List.length_append, plc_len h.sx hI, plc_len h.sy hI, plc_len h.sz hI]
  omega
/-- The parts, k times. -/
def catN (a b : ByteArray) : Nat → ByteArray
  | 0 => ByteArray.empty
  | k + 1 => catN a b k ++ (a ++ b)
theorem catN_size (a b : ByteArray) : ∀ k, (catN a b k).size = k * (a.size + b.size)
  | 0 => by simp [catN]
  | k + 1 => by
    rw [catN, ByteArray.size_append, ByteArray.size_append, catN_size a b k, Nat.succ_mul]
theorem catN_next (a b : ByteArray) (k : Nat) : catN a b k ++ a ++ b = catN a b (k + 1) := by
  rw [catN, ByteArray.append_assoc]
theorem Drop_to (h : Lw w0 w B n p A wd hv held cnt) (z : Int) (hz : -9223372036854775808 ≤ z ∧ z < 9223372036854775808) :
    Calls Tryd.prog 18 #[.pointer (some ⟨p, 0, none⟩), .int .i64 z] w fun e w' => e = .returned (.tuple #[]) ∧ ∃ hv2, Lw w0 w' B n p A wd hv2 (held.take (leftN held.length z)) cnt := by
  refine (Drop_any h.sp z hz).mono ?_
  rintro e w' ⟨hv2, rfl, hs, hF, hg⟩
  exact ⟨rfl, hv2, h.to hs (hF.mono fun k e => .inr (.inl e)) (fun g e => .inl (by rw [← hg]; exact e))⟩
theorem Hold_to (h : Lw w0 w B n p A wd hv held cnt) (z : Int) (hz : -9223372036854775808 ≤ z ∧ z < 9223372036854775808) (hl : held.length < 900) :
    Calls Tryd.prog 11 #[.pointer (some ⟨p, 0, none⟩), .int .i64 z] w fun e w' => e = .returned (.tuple #[]) ∧ ∃ hv2, Lw w0 w' B n p A wd hv2 (held ++ [z]) cnt := by
  refine (Hold_any h.sp z hz hl).mono ?_
  rintro e w' ⟨hv2, rfl, hs, hF, hg⟩
  exact ⟨rfl, hv2, h.to hs hF hg⟩
end Go.Proofs.YthfccidjckbcbaaDoor
