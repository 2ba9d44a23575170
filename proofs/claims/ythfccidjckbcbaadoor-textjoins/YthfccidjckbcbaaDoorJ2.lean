/- TextJoins, walked. -/
import Derived.Test.YthfccidjckbcbaaDoorJ1
namespace Go.Proofs.YthfccidjckbcbaaDoor
open Go.RowKit Go.Proofs.YthfccidjckbcbaaDoor.Hp
variable {w0 w w' W : World} {B : HB} {n p k : Nat} {A A' A1 : Nat → Kd} {wd wd' : Nat → Int} {hv : Value} {held : List Int} {cnt : Nat} {a b : ByteArray} {x y z : Int}
def heldJ (x y z : Int) (k : Nat) : List Int := if k = 0 then [x, y] else [x, y, z]
/-- Behind k rounds. -/
structure JS (w0 w : World) (B : HB) (p : Nat) (A : Nat → Kd) (wd : Nat → Int) (hv : Value) (held : List Int) (x y z : Int) (a b : ByteArray) (c k : Nat) : Prop where
  lw : Lw w0 w B 256 p A wd hv held 0
  suf : Suf 256 A c
  dat : AllD A wd
  tri : Tri A wd x y z a b (catN a b k)
theorem JS.quiet {c : Nat} (h : JS w0 w B p A wd hv held x y z a b c k) (f : Fr (fun _ => False) w w') : JS w0 w' B p A wd hv held x y z a b c k := ⟨h.lw.quiet f, h.suf, h.dat, h.tri⟩
theorem Bytes_str {s : ByteArray} {u : Int} (h : Lw w0 w B n p A wd hv held cnt) (hn : n ≤ 16384) (hu : StrOf A wd u s) :
    Calls Tryd.prog 12 #[.pointer (some ⟨p, 0, none⟩), .slice none 0 0, .int .i64 u] w fun e w' => e = .returned (.string s) ∧ Fr (fun _ => False) w w' := by
  have hr := hu.rng h.sp.inv hn
  have := Bytes_any h.sp none 0 0 [] u (Nat.zero_le _) (StrsAt.nil _) (by omega) (hu.get0 h.sp.inv)
  rw [hu.back h.sp.inv] at this
  exact this
theorem joins_new (h : JS w0 w B p A wd hv held x y z a b (2 + 5 * k) k) (hk : k < 8) (hab : a.size + b.size ≤ 300) :
    Calls Tryd.prog 10 #[.pointer (some ⟨p, 0, none⟩), .string (catN a b (k + 1))] w fun e w' => ∃ z' A' wd', e = .returned (.tuple #[.int .i64 z', .bool true]) ∧ JS w0 w' B p A' wd' hv held x y z' a b (2 + 5 * (k + 1)) (k + 1) := by
  have hs : (catN a b (k + 1)).size ≤ 2400 := by
    rw [catN_size]
    calc (k + 1) * (a.size + b.size) ≤ 8 * 300 := Nat.mul_le_mul (by omega) hab
      _ = 2400 := rfl
  refine (new_more h.lw (by omega) h.suf h.dat (catN a b (k + 1)) (by omega) 5 (by unfold wsz; omega) (by omega) (by omega)).mono ?_
  rintro e w' ⟨z', A', wd', rfl, hL, hS, hD, hz, hall⟩
  obtain ⟨hx, hx2⟩ := hall x a h.tri.sx
  obtain ⟨hy, hy2⟩ := hall y b h.tri.sy
  exact ⟨z', A', wd', rfl, hL, by rw [show 2 + 5 * (k + 1) = 2 + 5 * k + 5 by omega]; exact hS, hD, hx, hy, hz, h.tri.xy, hx2, hy2⟩
theorem joins_drop {c j : Nat} {z0 : Int} (h : JS w0 w B p A wd hv (heldJ x y z0 k) x y z a b c j) (q : Int) (hq : q = min (k : Int) 1) :
    Calls Tryd.prog 18 #[.pointer (some ⟨p, 0, none⟩), .int .i64 q] w fun e w' => e = .returned (.tuple #[]) ∧ ∃ hv2, JS w0 w' B p A wd hv2 [x, y] x y z a b c j := by
  refine (Drop_to h.lw q (by omega)).mono ?_
  rintro e w' ⟨rfl, hv2, hL⟩
  have e : (heldJ x y z0 k).take (leftN (heldJ x y z0 k).length q) = [x, y] := by
    unfold heldJ leftN
    by_cases hk : k = 0
    · rw [if_pos hk]
      obtain rfl : q = 0 := by omega
      rfl
    · rw [if_neg hk]
      obtain rfl : q = 1 := by omega
      rfl
  rw [e] at hL
  exact ⟨rfl, hv2, hL, h.suf, h.dat, h.tri⟩
theorem joins_hold {c j : Nat} (h : JS w0 w B p A wd hv [x, y] x y z a b c j) :
    Calls Tryd.prog 11 #[.pointer (some ⟨p, 0, none⟩), .int .i64 z] w fun e w' => e = .returned (.tuple #[]) ∧ ∃ hv2, JS w0 w' B p A wd hv2 [x, y, z] x y z a b c j := by
  have hr := h.tri.sz.rng h.lw.sp.inv (by decide)
  refine (Hold_to h.lw z (by omega) (by simp)).mono ?_
  rintro e w' ⟨rfl, hv2, hL⟩
  exact ⟨rfl, hv2, hL, h.suf, h.dat, h.tri⟩
/-- Behind the collection. -/
theorem joins_gc {c : Nat} (h : JS w0 w B p A wd hv (heldJ x y z k) x y z a b c k) :
    Calls Tryd.prog 19 #[.pointer (some ⟨p, 0, none⟩)] w fun e w' => ∃ q A1, e = .returned (.int .i64 q) ∧ Lw w0 w' B 256 p A1 wd hv (heldJ x y z k) 1 ∧ Tri A1 wd x y z a b (catN a b k) ∧ (blkL A1 256).length = nz a + nz b + nz (catN a b k) := by
  refine (SCollect_any h.lw.sp (by omega)).mono ?_
  rintro e w' ⟨rb, A1, hg, rfl, hs, hF⟩
  have hI := h.lw.sp.inv
  have hx : x ∈ heldJ x y z k := by unfold heldJ; split <;> simp
  have hy : y ∈ heldJ x y z k := by unfold heldJ; split <;> simp
  have hz : z ∈ heldJ x y z k ∨ z = 0 := by
    unfold heldJ
    by_cases hk : k = 0
    · right
      subst hk
      exact (h.tri.sz.rng hI (by decide)).2.2.2.2 rfl
    · rw [if_neg hk]; left; simp
  have ho : ∀ u ∈ heldJ x y z k, u = x ∨ u = y ∨ u = z := fun u hu => by
    unfold heldJ at hu
    split at hu <;> simp at hu
    · exact hu.imp id .inl
    · exact hu
  exact ⟨_, A1, rfl, h.lw.heap hs hF, h.tri.gc hI h.dat hg hx hy hz, tri_len h.tri hI (by decide) h.dat hg hx hy hz ho⟩
end Go.Proofs.YthfccidjckbcbaaDoor
