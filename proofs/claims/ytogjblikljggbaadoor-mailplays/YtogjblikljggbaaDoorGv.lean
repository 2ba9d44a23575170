/- Room, Load, Store, give, release. -/
import Derived.Test.YtogjblikljggbaaDoorHpR
namespace Go.Proofs.YtogjblikljggbaaDoor
open Go.RowKit Go.Proofs.YtogjblikljggbaaDoor.Hp
/-- The room of the block at an address. -/
def roomR (n : Nat) (R : HR) (at_ : Int) : Nat := if 0 ≤ at_ ∧ at_ < 64 * n then roomS (R.rm (at_.toNat / 64)) (R.us (at_.toNat / 64)) (at_.toNat % 64) else 0
/-- Rooms and used places are what a span may have. -/
def Fine (n : Nat) (R : HR) : Prop := ∀ s, s < n → R.rm s ≠ 1 ∧ R.rm s ≤ 20000 ∧ R.us s < 4294967296
set_option maxHeartbeats 1000000 in
theorem Room_any (B : HB) (n : Nat) (R : HR) (a : Int) (w : World) (h : At w B n R) (hf : Fine n R) :
    Calls Tryd.prog 42 #[B.ptr, .int .i64 a] w fun e w' => e = .returned (.int .i64 (roomR n R a)) ∧ Fr (fun _ => False) w w' := by
  have hl := h.lo
  have hh := h.hi
  have c0 := h.c0
  have c1 := h.c1
  unfold HB.ptr
  by_cases hr : 0 ≤ a ∧ a < 64 * n
  · obtain ⟨x, rfl⟩ : ∃ x : Nat, a = (x : Int) := ⟨a.toNat, by omega⟩
    have hx : x < 64 * n := by omega
    have hs : x / 64 < n := by omega
    have HE : Hid (roomR n R x = roomS (R.rm (x / 64)) (R.us (x / 64)) (x % 64)) := hide (by unfold roomR; rw [if_pos hr]; simp)
    obtain ⟨f1, f2, f3⟩ := hf _ hs
    have cr := h.cr _ hs
    have cu := h.cu _ hs
    have HC := hide (fun w' => roomAt_any (R.rm (x / 64)) (R.us (x / 64)) (x % 64) w' f1 (by omega) f3 (by omega))
    clear hr f1 f2 f3 h hf
    go_enter Tryd.func42, Tryd.ntmps42
    go_wp2_with (first | (go_at_call 52; refine (unhide HC _).mono ?_; rintro e w' ⟨rfl, hw'⟩))
    all_goals (go_ret; exact ⟨ret_int (by rw [unhide HE]), hw'⟩)
  · have HE : Hid (roomR n R a = 0) := hide (by unfold roomR; rw [if_neg hr])
    clear h hf
    rcases (show a < 0 ∨ 64 * (n : Int) ≤ a by omega) with h1 | h1
    · go_enter Tryd.func42, Tryd.ntmps42
      go_wp2
      all_goals (go_ret; exact ⟨ret_int (by rw [unhide HE]; rfl), Fr.refl _ _⟩)
    · go_enter Tryd.func42, Tryd.ntmps42
      go_wp2
      all_goals (go_ret; exact ⟨ret_int (by rw [unhide HE]; rfl), Fr.refl _ _⟩)
end Go.Proofs.YtogjblikljggbaaDoor
