/- TextBack: what its walk needs. -/
import Derived.Test.YthfccidjckbcbaaDoorX6
namespace Go.Proofs.YthfccidjckbcbaaDoor
open Go.RowKit Go.Proofs.YthfccidjckbcbaaDoor.Hp
variable {w0 w w' W : World} {B : HB} {n p c m d a : Nat} {A A' : Nat → Kd} {wd wd' : Nat → Int} {hv va : Value} {held L : List Int} {cnt : Nat} {s t : ByteArray} {ss : List ByteArray} {z : Int}
/-- The free spans are the last ones. -/
def Suf (n : Nat) (A : Nat → Kd) (c : Nat) : Prop := ∃ h, 1 ≤ h ∧ h ≤ 1 + c ∧ ∀ t, A t = .free ↔ h ≤ t ∧ t < n
theorem Suf.start (n : Nat) : Suf n (emptyA n) 0 := by
  refine ⟨1, by omega, by omega, fun t => ?_⟩
  unfold emptyA
  split
  · simp; omega
  · simp; omega
theorem Suf.place (h : Suf n A c) (hm : (m + 63) / 64 ≤ d) (hd : 1 ≤ d) (hn : 1 + c + d ≤ n) : ¬ NoPlace n A m := by
  obtain ⟨q, h1, h2, h3⟩ := h
  rintro (⟨_, _, k3⟩ | ⟨k1, k2⟩)
  · exact k3 q ((h3 q).2 (by omega))
  · obtain ⟨t, k3, k4, k5⟩ := k2 q (by omega)
    exact k5 ((h3 t).2 (by omega))
theorem Suf.goes (h : Suf n A c) (g : Goes n A m a A') (hmd : (m + 63) / 64 ≤ d) (hd : 1 ≤ d) : Suf n A' (c + d) := by
  obtain ⟨h, h0, h00, hf⟩ := h
  cases g with
  | op s u hm hs e hn hl =>
    refine ⟨h, by omega, by omega, fun t => ?_⟩
    by_cases et : t = s
    · subst et
      have := hf t
      rw [e] at this
      rw [upd_same]
      simp at this ⊢
      exact this
    · rw [upd_ne _ _ et]; exact hf t
  | free s hm hs e hl hn =>
    have h1 := (hf s).1 e
    have h2 : s = h := by
      by_cases hh : s = h
      · exact hh
      · exact absurd ((hf h).2 (by omega)) (hl h (by omega))
    subst h2
    refine ⟨s + 1, by omega, by omega, fun t => ?_⟩
    by_cases et : t = s
    · subst et
      rw [upd_same]
      simp; omega
    · rw [upd_ne _ _ et, hf t]; omega
  | row f k hm hk hfn e hl =>
    have h1 := (hf f).1 (e f (by omega) (by omega))
    have h2 : f = h := by
      by_cases hh : f = h
      · exact hh
      · obtain ⟨t, k1, k2, k3⟩ := hl h (by omega)
        exact absurd ((hf t).2 (by omega)) k3
    subst h2
    refine ⟨f + k, by omega, by omega, fun t => ?_⟩
    show (if t = f then Kd.head k else if f < t ∧ t < f + k then Kd.tail else A t) = .free ↔ _
    by_cases e1 : t = f
    · rw [if_pos e1]; simp; omega
    · rw [if_neg e1]
      by_cases e2 : f < t ∧ t < f + k
      · rw [if_pos e2]; simp; omega
      · rw [if_neg e2, hf t]; omega
/-- The word z is the string s. -/
def StrOf (A : Nat → Kd) (wd : Nat → Int) (z : Int) (s : ByteArray) : Prop := (z = 0 ∧ s.size = 0) ∨ ∃ a : Nat, z = a ∧ StrAt A wd a s
theorem StrOf.keep (h : StrOf A wd z s) {b : Nat} (hI : Inv n A) (hI' : Inv n A') (g : Goes n A m b A') (ho : ∀ x, x < b ∨ b + roomOfM m ≤ x → wd' x = wd x) (hm : 0 < m) : StrOf A' wd' z s := by
  rcases h with h | ⟨a, e, h⟩
  · exact .inl h
  · exact .inr ⟨a, e, h.keep hI hI' g ho hm⟩
theorem size_zero {s : ByteArray} (h : s.size = 0) : s = ByteArray.empty := by
  cases s with | mk d => cases d with | mk l => cases l with
    | nil => rfl
    | cons a l => exact absurd h (by show (a :: l).length ≠ 0; simp)
theorem StrOf.back (h : StrOf A wd z s) (hI : Inv n A) (cs : List ByteArray) : bytI A wd cs z = s := by
  rcases h with ⟨rfl, h⟩ | ⟨a, rfl, h⟩
  · rw [byt_zero hI, size_zero h]
  · exact str_back h cs (by have := (room_in hI h.room).2.2; omega)
theorem StrOf.rng (h : StrOf A wd z s) (hI : Inv n A) (hn : n ≤ 16384) : 0 ≤ z ∧ z < 2000000 ∧ z % 2 = 0 ∧ (z = 0 ↔ s.size = 0) := by
  rcases h with ⟨rfl, h⟩ | ⟨a, rfl, h⟩
  · simp [h]
  · have := room_in hI h.room
    have := h.pos
    omega
theorem StrOf.get0 (h : StrOf A wd z s) (hI : Inv n A) : -9223372036854775808 ≤ getI A wd z 0 ∧ getI A wd z 0 < 9223372036854775808 := by
  rcases h with ⟨rfl, h⟩ | ⟨a, rfl, h⟩
  · rw [get_no]
    · omega
    · apply Classical.byContradiction
      intro hz
      obtain ⟨x, e, hx⟩ := room_nat hz
      have := (room_in hI hx).1
      omega
  · rw [h.get0]
    have := h.le
    omega
/-- A space, and the law's row of words. -/
structure BkM (w0 w : World) (B : HB) (p : Nat) (A : Nat → Kd) (wd : Nat → Int) (hv va : Value) (L : List Int) (ss : List ByteArray) : Prop where
  lw : Lw w0 w B 1024 p A wd hv L 0
  rva : w.ownsRow w0.heap.size 3 1 va L.length (L.map (Value.int .i64))
  da : ∀ g, va.ownBlock = some g → ¬ SpK B p hv g
  suf : Suf 1024 A (2 * L.length)
  each : ∀ i, i < L.length → StrOf A wd (L.getD i 0) (ss.getD i ByteArray.empty)
  z2 : 2 ≤ w0.heap.size
/-- With a string more, its word not yet in the row. -/
structure BkN (w0 w : World) (B : HB) (p : Nat) (A : Nat → Kd) (wd : Nat → Int) (hv : Value) (held : List Int) (va : Value) (L : List Int) (ss : List ByteArray) (z : Int) (t : ByteArray) : Prop where
  lw : Lw w0 w B 1024 p A wd hv held 0
  rva : w.ownsRow w0.heap.size 3 1 va L.length (L.map (Value.int .i64))
  da : ∀ g, va.ownBlock = some g → ¬ SpK B p hv g
  suf : Suf 1024 A (2 * L.length + 2)
  each : ∀ i, i < L.length → StrOf A wd (L.getD i 0) (ss.getD i ByteArray.empty)
  new : StrOf A wd z t
  z2 : 2 ≤ w0.heap.size
theorem BkM.quiet (h : BkM w0 w B p A wd hv va L ss) (k : Fr (fun _ => False) w w') : BkM w0 w' B p A wd hv va L ss :=
  ⟨h.lw.quiet k, own_blk h.rva (fun g hg => k.block g (h.rva.lt g hg).2 id), h.da, h.suf, h.each, h.z2⟩
theorem bk_new (h : BkM w0 w B p A wd hv va L ss) (hl : L.length < 50) (t : ByteArray) (ht : t.size ≤ 1000) :
    Calls Tryd.prog 10 #[.pointer (some ⟨p, 0, none⟩), .string t] w fun e w' => ∃ z A' wd', e = .returned (.tuple #[.int .i64 z, .bool true]) ∧ BkN w0 w' B p A' wd' hv L va L ss z t := by
  refine (New_str h.lw.sp (by omega) t (by omega)).mono ?_
  rintro e w' ⟨v, A', wd', cnt', hN, rfl, hsp, hF⟩
  have hr : w'.ownsRow w0.heap.size 3 1 va L.length (L.map (Value.int .i64)) := own_blk h.rva fun g hg => hF.block g (h.rva.lt g hg).2 (h.da g hg)
  have hL := h.lw.heap hsp hF
  have hwz : wsz t ≤ 125 := by unfold wsz; omega
  have hp := h.suf.place (m := 2 + wsz t) (d := 2) (by omega) (by omega) (by omega)
  cases hN with
  | nil h0 => exact ⟨0, _, _, rfl, hL, hr, h.da, by obtain ⟨q, q1, q2, q3⟩ := h.suf; exact ⟨q, q1, by omega, q3⟩, h.each, .inl ⟨rfl, h0⟩, h.z2⟩
  | long h0 => omega
  | at_ h1 h2 a A1 g =>
    have hge := roomOfM_ge (2 + wsz t)
    exact ⟨a, _, _, rfl, hL, hr, h.da, h.suf.goes g (by omega) (by omega), fun i hi => (h.each i hi).keep h.lw.sp.inv hsp.inv g (fun x hx => txt_out (by omega) x hx) (by omega), .inr ⟨a, rfl, txt_at h1 h2 h.lw.sp.inv g _⟩, h.z2⟩
  | gc _ _ hn => exact absurd hn hp
  | full _ _ hn => exact absurd hn hp
theorem bk_hold (h : BkN w0 w B p A wd hv L va L ss z t) (hl : L.length < 50) :
    Calls Tryd.prog 11 #[.pointer (some ⟨p, 0, none⟩), .int .i64 z] w fun e w' => e = .returned (.tuple #[]) ∧ ∃ hv2, BkN w0 w' B p A wd hv2 (L ++ [z]) va L ss z t := by
  have hz := h.new.rng h.lw.sp.inv (by decide)
  refine (Hold_any h.lw.sp z (by omega) (by omega)).mono ?_
  rintro e w' ⟨hv2, rfl, hs, hF, hg⟩
  refine ⟨rfl, hv2, h.lw.to hs hF hg, own_blk h.rva fun g hg => hF.block g (h.rva.lt g hg).2 (h.da g hg), fun g hga hk => ?_, h.suf, h.each, h.new, h.z2⟩
  rcases hk with hk | hk | hk
  · exact h.da g hga (.inl hk)
  · exact h.da g hga (.inr (.inl hk))
  · rcases hg g hk with e | e
    · exact h.da g hga (.inr (.inr e))
    · have := (h.rva.lt g hga).2; omega
theorem bk_push {o : Obj} {g cap : Nat} (h : BkN w0 w B p A wd hv (L ++ [z]) va L ss z (ss.getD L.length ByteArray.empty)) (hgr : (w.alloc o).grownBy W va.ownBlock) (ho : W.ownsRow w0.heap.size 3 1 (.slice (some ⟨g, 0, none⟩) (L.length + 1) cap) (L.length + 1) (L.map (Value.int .i64) ++ [.int .i64 z])) (hat : va.ownBlock = some g ∨ g = (w.alloc o).heap.size) :
    BkM w0 W B p A wd hv (.slice (some ⟨g, 0, none⟩) (L.length + 1) cap) (L ++ [z]) ss := by
  have hF : Fr (fun q => va.ownBlock = some q) w W := ((Fr.refl _ w).alloc o).trans ((Fr.grown hgr).mono fun _ e => e.symm)
  have hz := h.z2
  refine ⟨⟨h.lw.sp.fr' hF (fun b hb e => h.da b e hb) (fun e => by have := (h.rva.lt 0 e).1; omega) (fun e => by have := (h.rva.lt 1 e).1; omega), h.lw.far.up hF fun j hj => (h.rva.lt j hj).1, h.lw.base⟩, ?_, fun g' hg' hk => ?_, ?_, fun i hi => ?_, h.z2⟩
  · rw [List.length_append, List.map_append]; exact ho
  · have e : g = g' := by simpa [Value.ownBlock] using hg'
    subst e
    rcases hat with e | e
    · exact h.da g e hk
    · have := (h.lw.sp.lt hk).2
      rw [e] at this
      simp at this
      omega
  · rw [List.length_append]; exact h.suf
  · rw [List.length_append] at hi
    by_cases e : i = L.length
    · subst e
      rw [List.getD_eq_getElem?_getD, List.getElem?_append_right (Nat.le_refl _)]
      simp
      exact h.new
    · have hi' : i < L.length := by simp at hi; omega
      rw [List.getD_eq_getElem?_getD, List.getElem?_append_left hi', ← List.getD_eq_getElem?_getD]
      exact h.each i hi'
end Go.Proofs.YthfccidjckbcbaaDoor
