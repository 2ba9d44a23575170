/- Drop, roots, Told. -/
import Derived.Test.YtogjblikljggbaaDoorS2
namespace Go.Proofs.YtogjblikljggbaaDoor
open Go.RowKit Go.Proofs.YtogjblikljggbaaDoor.Hp
variable {w w' : World} {B : HB} {n p : Nat} {A : Nat → Kd} {wd : Nat → Int} {hv : Value} {held : List Int} {cnt : Nat}
theorem own_take {w : World} {base len cp m : Nat} {ao : Option Addr} {xs : List Int} (h : w.ownsRow base 3 1 (.slice ao len cp) len (xs.map (Value.int .i64))) (hm : m ≤ len) : w.ownsRow base 3 1 (.slice ao m cp) m ((xs.take m).map (Value.int .i64)) := by
  obtain ⟨h1, h2⟩ := h
  have hl : xs.length = len := by simpa using h1
  refine ⟨by simp [hl]; omega, ?_⟩
  rcases h2 with ⟨h3, h4⟩ | ⟨g, cap, cur, h3, h4, h5, h6, h7, h8, h9⟩
  · have hm0 : m = 0 := by omega
    subst hm0 h4
    cases h3
    exact .inl ⟨rfl, rfl⟩
  · cases h3
    refine .inr ⟨g, _, cur, rfl, h4, h5, by omega, h7, h8, ?_⟩
    rw [Nat.mul_one] at h9 ⊢
    rw [List.map_take, ← h9, List.take_take, Nat.min_eq_left hm]
/-- How many are left. -/
def leftN (len : Nat) (z : Int) : Nat := len - min z.toNat len
def DropP (w : World) (B : HB) (n p : Nat) (A : Nat → Kd) (wd : Nat → Int) (hv : Value) (held : List Int) (cnt : Nat) (e : Ending) (w' : World) : Prop :=
  ∃ hv', e = .returned (.tuple #[]) ∧ Sp w' B n p A wd hv' held cnt ∧ Fr (· = p) w w' ∧ hv'.ownBlock = hv.ownBlock
set_option maxRecDepth 100000 in
set_option maxHeartbeats 2000000 in
theorem Drop_any (h : Sp w B n p A wd hv held cnt) (z : Int) (hz : -9223372036854775808 ≤ z ∧ z < 9223372036854775808) :
    Calls Tryd.prog 22 #[.pointer (some ⟨p, 0, none⟩), .int .i64 z] w fun e w' => DropP w B n p A wd hv (held.take (leftN held.length z)) cnt e w' := by
  have HS := hide h
  have c2 := h.c2
  have c2f := (h.st 2 (by omega)).2
  have hp := h.st.lt (by omega)
  obtain ⟨ao, cp, hf, hf0⟩ := own_form h.own
  have hfm : (ao = none ∧ held.length = 0 ∧ cp = 0) ∨ ∃ g, ao = some ⟨g, 0, none⟩ := by
    rcases h.own.2 with ⟨h2, h3⟩ | ⟨g, cap, cur, h2, _⟩
    · rw [hf] at h2; simp only [Value.slice.injEq] at h2; exact .inl ⟨h2.1, h3, h2.2.2⟩
    · rw [hf] at h2; simp only [Value.slice.injEq] at h2; exact .inr ⟨g, h2.1⟩
  have HO := hide h.own
  have hcap := own_cap (hf ▸ h.own)
  have hl := h.hl
  have HP : Hid (∀ m W, m = leftN held.length z → Fr (fun _ => False) (w.setCell ⟨p, 2, none⟩ (.slice ao m cp)) W → DropP w B n p A wd hv (held.take (leftN held.length z)) cnt (.returned (.tuple #[])) W) := hide fun m W hm hW => by
    have hml : m ≤ held.length := by rw [hm]; unfold leftN; omega
    have ho := own_take (hf ▸ h.own) hml
    have hn := h.p2
    refine ⟨.slice ao m cp, rfl, ?_, ((Fr.refl (· = p) w).setCell (p := ⟨p, 2, none⟩) rfl _).trans (hW.mono fun _ x => x.elim), by rw [hf]; cases ao <;> rfl⟩
    rw [← hm]
    refine Sp.quiet ?_ hW
    refine h.heldTo (Fr.refl (fun _ => False) w) (fun _ _ x => x) id id id (held' := held.take m) ?_ ?_ ?_ ?_
    · rw [List.length_take, Nat.min_eq_left hml]; exact ho
    · intro g hg
      exact h.on g (by rw [hf]; rw [← hg]; cases ao <;> rfl)
    · rw [List.length_take]; omega
    · intro y hy; exact h.hr y (List.mem_of_mem_take hy)
  rw [hf] at c2 HO
  obtain ⟨len, hlen⟩ : ∃ len, len = held.length := ⟨_, rfl⟩
  rw [← hlen] at c2 hl HO hcap HP hfm ⊢
  clear h hf hlen hf0
  have h3 : z < 0 ∨ z = 0 ∨ (0 < z ∧ z ≤ len) ∨ (len : Int) < z := by omega
  rcases hfm with ⟨rfl, hl0, rfl⟩ | ⟨g, rfl⟩
  · subst hl0
    have HP0 := hide (unhide HP 0 _ (by unfold leftN; omega) (Fr.drew (Fr.refl (fun _ => False) _)))
    rcases h3 with h3 | rfl | h3 | h3
    · clear HP HO
      go_enter Tryd.func22, Tryd.ntmps22
      go_wp2
      go_region
      go_wp2
      go_end0
      exact unhide HP0
    · clear HP HO
      go_enter Tryd.func22, Tryd.ntmps22
      go_wp2
      go_region
      go_wp2
      go_end0
      exact unhide HP0
    · omega
    · clear HP HO
      go_enter Tryd.func22, Tryd.ntmps22
      go_wp2
      go_region
      go_wp2
      go_end0
      exact unhide HP0
  · rcases h3 with h3 | rfl | ⟨h3, h4⟩ | h3
    · have HP0 := hide (unhide HP len _ (by unfold leftN; omega) (Fr.drew (Fr.refl (fun _ => False) _)))
      clear HP HO
      go_enter Tryd.func22, Tryd.ntmps22
      go_wp2
      go_region
      go_wp2
      go_end0
      exact unhide HP0
    · have HP0 := hide (unhide HP len _ (by unfold leftN; omega) (Fr.drew (Fr.refl (fun _ => False) _)))
      clear HP HO
      go_enter Tryd.func22, Tryd.ntmps22
      go_wp2
      go_region
      go_wp2
      go_end0
      exact unhide HP0
    · obtain ⟨k, rfl⟩ : ∃ k : Nat, z = k := ⟨z.toNat, by omega⟩
      have HP0 := hide (unhide HP (len - k) _ (by unfold leftN; omega) (Fr.drew (Fr.refl (fun _ => False) _)))
      clear HP HO
      go_enter Tryd.func22, Tryd.ntmps22
      go_wp2
      go_region
      go_wp2
      go_end0
      exact unhide HP0
    · have HP0 := hide (unhide HP 0 _ (by unfold leftN; omega) (Fr.drew (Fr.refl (fun _ => False) _)))
      clear HP HO
      go_enter Tryd.func22, Tryd.ntmps22
      go_wp2
      go_region
      go_wp2
      go_end0
      exact unhide HP0
end Go.Proofs.YtogjblikljggbaaDoor
