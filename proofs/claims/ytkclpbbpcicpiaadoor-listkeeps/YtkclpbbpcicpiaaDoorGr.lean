/- ListGrows, walked. -/
import Derived.Test.YtkclpbbpcicpiaaDoorLa
namespace Go.Proofs.YtkclpbbpcicpiaaDoor
open Go.RowKit Go.Proofs.YtkclpbbpcicpiaaDoor.Hp
variable {w0 w w' w1 w2 : World} {B : HB} {n p m d q : Nat} {A A' A1 A2 : Nat → Kd} {wd wd' wd1 wd2 : Nat → Int} {hv hv1 hv2 : Value} {held : List Int} {cnt cnt' : Nat} {a b lo N c k room : Nat} {f : Nat → Int} {z : Int}
/-- How many spans the arrays took. -/
def phi (r : Nat) : Nat := if r = 0 then 0 else if r ≤ 1 then 1 else if r ≤ 2 then 2 else if r ≤ 4 then 3 else if r ≤ 8 then 4 else if r ≤ 16 then 5 else if r ≤ 32 then 6 else if r ≤ 64 then 8 else if r ≤ 128 then 11 else if r ≤ 256 then 16 else 25
def Pw (r : Nat) : Prop := r = 0 ∨ r = 1 ∨ r = 2 ∨ r = 4 ∨ r = 8 ∨ r = 16 ∨ r = 32 ∨ r = 64 ∨ r = 128 ∨ r = 256 ∨ r = 512
theorem Pw.next (h : Pw room) (hk : room < 300) : Pw (max (2 * room) (room + 1)) ∧ phi room + (1 + max (2 * room) (room + 1) + 63) / 64 ≤ phi (max (2 * room) (room + 1)) ∧ phi (max (2 * room) (room + 1)) ≤ 25 ∧ max (2 * room) (room + 1) ≤ 512 ∧ 1 ≤ (1 + max (2 * room) (room + 1) + 63) / 64 := by
  rcases h with rfl | rfl | rfl | rfl | rfl | rfl | rfl | rfl | rfl | rfl | rfl <;> first | omega | (unfold Pw; decide)
theorem Pw.le (h : Pw room) : phi room ≤ 25 ∧ room ≤ 512 := by
  rcases h with rfl | rfl | rfl | rfl | rfl | rfl | rfl | rfl | rfl | rfl | rfl <;> decide
/-- A slice of the first numbers. -/
structure Nums (n : Nat) (A : Nat → Kd) (wd : Nat → Int) (z : Int) (k room : Nat) : Prop where
  sl : ∃ b, SlOf A wd z b 0 k room ∧ (0 < k → ∃ f : Nat → Int, ArAt A wd b 1 room f ∧ ∀ j, j < k → f j = j)
  le : k ≤ room
  nil : k = 0 → room = 0
  pw : Pw room
  su : Suf n A (k + phi room)
def nxR (room k : Nat) : Nat := if k = room then max (2 * room) (room + 1) else room
def heldZ (k : Nat) (z : Int) : List Int := if k = 0 then [] else [z]
theorem heldZ_len (k : Nat) (z : Int) : (heldZ k z).length ≤ 1 := by unfold heldZ; split <;> simp
theorem Suf.more {c d : Nat} (h : Suf n A c) (hd : c ≤ d) : Suf n A d := by
  obtain ⟨q, h1, h2, h3⟩ := h
  exact ⟨q, h1, by omega, h3⟩
theorem nums_add (h : Lw w0 w B 512 p A wd hv held 0) (hl : held.length ≤ 10) (hN : Nums 512 A wd z k room) (hk : k < 300) (ao : Option Addr) (hit : ItAt w B p hv ao [(k : Int)]) :
    Calls Tryd.prog 12 #[.pointer (some ⟨p, 0, none⟩), .int .i64 z, .slice ao 1 1, .bool false] w fun e w' => ∃ (a : Nat) (A2 : Nat → Kd) (wd2 : Nat → Int) (hv2 : Value), e = .returned (.tuple #[.int .i64 (a : Int), .bool true]) ∧ ¬ (a : Int) = z ∧ Nums 512 A2 wd2 a (k + 1) (nxR room k) ∧ Lw w0 w' B 512 p A2 wd2 hv2 held 0 ∧ a < 100000 := by
  obtain ⟨b, hs, ha⟩ := hN.sl
  have hI := h.sp.inv
  have hpw := hN.pw.le
  by_cases hkr : k = room
  · subst hkr
    obtain ⟨q1, q2, q3, q4, q5⟩ := hN.pw.next hk
    have hcap : capG k (k + 1) = max (2 * k) (k + 1) := rfl
    have ha' : 0 < k → ∃ f : Nat → Int, ArAt A wd b 1 k f ∧ ∀ j, j < k → f j = j := ha
    obtain ⟨f, hf⟩ : ∃ f : Nat → Int, (0 < k → ArAt A wd b 1 k f ∧ 0 + k ≤ k) ∧ ∀ j, j < k → f j = j := by
      by_cases h0 : 0 < k
      · obtain ⟨f, h1, h2⟩ := ha' h0
        exact ⟨f, fun _ => ⟨h1, by omega⟩, h2⟩
      · exact ⟨fun _ => 0, fun h => absurd h h0, fun j hj => by omega⟩
    refine (Append_gro h.sp (by omega) (by omega) hs hf.1 ao 1 1 [(k : Int)] rfl (by omega) hit (by omega) (by omega) (by omega) (by omega) false (by rw [hcap]; exact hN.su.roomy (Nat.le_refl _) q5 (by omega))).mono ?_
    rintro e w' ⟨a, b2, A2, wd2, hv2, rfl, h2, hs2, ht2⟩
    rw [hcap] at h2
    have enx : nxR k k = max (2 * k) (k + 1) := if_pos rfl
    refine ⟨a, A2, wd2, hv2, rfl, ?_, ?_, h.step hs2 ht2, hs2.b_lt h2.sl.room⟩
    · intro e
      rcases hs with ⟨rfl, _⟩ | ⟨x, rfl, hx⟩
      · have := (room_in hs2.inv h2.sl.room).1; omega
      · obtain rfl : a = x := by omega
        obtain ⟨A1, g1, g2⟩ := h2.go
        have r1 := (room_goes hI g1).2 a
        have hI1 := g1.inv hI (by omega)
        have r2 := (room_goes hI1 g2).1
        rw [r2] at r1
        split at r1
        · rename_i e; subst e; exact hx.room h2.nb
        · exact hx.room r1.symm
    · rw [enx]
      refine ⟨⟨b2, .inr ⟨a, rfl, h2.sl⟩, fun _ => ⟨_, h2.ar, fun j hj => ?_⟩⟩, by omega, fun h0 => by omega, q1, (h2.suf hN.su (Nat.le_refl _) q5).more (by omega)⟩
      unfold groF
      by_cases e1 : j < k
      · rw [if_pos e1, Nat.zero_add, hf.2 j e1]
      · obtain rfl : j = k := by omega
        rw [if_neg e1, if_pos (by simp), Nat.sub_self]; rfl
  · have hlt : k < room := by have := hN.le; omega
    have h0 : 0 < k := by
      have := hN.nil
      omega
    obtain ⟨f, hf, hfj⟩ := ha h0
    refine (Append_ext h.sp (by omega) (by omega) hs hf (h.sp.b_lt hf.room) ao 1 1 [(k : Int)] rfl (by omega) hit (by omega) (by omega) (hN.su.place (d := 1) (by omega) (by omega) (by omega)) false).mono ?_
    rintro e w' ⟨a, A2, wd2, hv2, rfl, h2, hs2, ht2⟩
    have enx : nxR room k = room := if_neg hkr
    refine ⟨a, A2, wd2, hv2, rfl, ?_, ?_, h.step hs2 ht2, hs2.b_lt h2.sl.room⟩
    · intro e
      rcases hs with ⟨rfl, _⟩ | ⟨x, rfl, hx⟩
      · have := (room_in hs2.inv h2.sl.room).1; omega
      · obtain rfl : a = x := by omega
        exact hx.room (room_goes hI h2.go).1
    · rw [enx]
      refine ⟨⟨b, .inr ⟨a, rfl, h2.sl⟩, fun _ => ⟨_, h2.ar, fun j hj => ?_⟩⟩, by omega, fun h0 => by omega, hN.pw, (hN.su.goes (d := 1) h2.go (by omega) (by omega)).more (by omega)⟩
      unfold behF
      by_cases e1 : j < k
      · rw [if_neg (by omega)]; exact hfj j e1
      · obtain rfl : j = k := by omega
        rw [if_pos (by simp), Nat.zero_add, Nat.sub_self]; rfl
end Go.Proofs.YtkclpbbpcicpiaaDoor
