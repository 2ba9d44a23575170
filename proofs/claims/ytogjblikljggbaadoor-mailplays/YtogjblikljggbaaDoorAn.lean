/- The document's example. -/
import Derived.Test.YtogjblikljggbaaDoorNw2
import Derived.Test.YtogjblikljggbaaDoorFl
namespace Go.Proofs.YtogjblikljggbaaDoor
open Go.RowKit Go.Proofs.YtogjblikljggbaaDoor.Hp
set_option maxHeartbeats 1000000 in
theorem New_none (x : Int) (w : World) (h : x < 128) : Calls Tryd.prog 23 #[.int .i64 x] w fun e w' => e = .returned (.pointer none) ∧ w' = w := by
  go_enter Tryd.func23, Tryd.ntmps23
  go_wp2
  go_ret
  exact ⟨rfl, rfl⟩
theorem Vars.size {w : World} (h : Vars w) : 2 ≤ w.heap.size := World.block_lt_of_cell? w ⟨1, 0, none⟩ (h.t64 0 (by decide))
/-- An allocation whose place is known. -/
theorem Alloc_to (B : HB) (n : Nat) (A : Nat → Kd) (wd : Nat → Int) (m : Nat) (w : World) (h : At w B n (hrOf A wd)) (hI : Inv n A) (hV : Vars w) (h0 : ∀ k, B.mem k → 2 ≤ k) (hm : 1 ≤ m) (hm2 : m ≤ 16448) {a : Nat} {A' : Nat → Kd} (g : Goes n A m a A') :
    Calls Tryd.prog 31 #[B.ptr, .int .i64 m] w fun e w' => e = .returned (.tuple #[.int .i64 (a : Int), .bool true]) ∧ Fr B.mem w w' ∧ Vars w' ∧ Inv n A' ∧ At w' B n (hrOf A' (clearW wd a (roomOfM m))) := by
  have h00 : ¬ B.mem 0 := fun x => by have := h0 0 x; omega
  have h01 : ¬ B.mem 1 := fun x => by have := h0 1 x; omega
  refine (Alloc_any B n A wd (m : Int) w h hI hV h00 h01).mono ?_
  rintro e w' ⟨hF, ⟨a', A1, _, _, g', rfl, hA⟩ | ⟨hn, rfl, hA⟩⟩
  · obtain ⟨rfl, rfl⟩ := g.det g'
    exact ⟨rfl, hF, hV.fr hF h00 h01, g.inv hI hm2, hA⟩
  · rcases hn with hn | hn | hn
    · omega
    · omega
    · exact absurd hn g.not
theorem Alloc_no (B : HB) (n : Nat) (A : Nat → Kd) (wd : Nat → Int) (m : Nat) (w : World) (h : At w B n (hrOf A wd)) (hI : Inv n A) (hV : Vars w) (h0 : ∀ k, B.mem k → 2 ≤ k) (g : NoPlace n A m) :
    Calls Tryd.prog 31 #[B.ptr, .int .i64 m] w fun e w' => e = .returned (.tuple #[.int .i64 0, .bool false]) ∧ Fr B.mem w w' ∧ Vars w' ∧ At w' B n (hrOf A wd) := by
  have h00 : ¬ B.mem 0 := fun x => by have := h0 0 x; omega
  have h01 : ¬ B.mem 1 := fun x => by have := h0 1 x; omega
  refine (Alloc_any B n A wd (m : Int) w h hI hV h00 h01).mono ?_
  rintro e w' ⟨hF, ⟨a', A1, _, _, g', rfl, hA⟩ | ⟨hn, rfl, hA⟩⟩
  · exact absurd g g'.not
  · exact ⟨rfl, hF, hV.fr hF h00 h01, hA⟩
theorem Free_to (B : HB) (n : Nat) (A : Nat → Kd) (wd : Nat → Int) (x : Nat) (w : World) (h : At w B n (hrOf A wd)) (hI : Inv n A) (hV : Vars w) (h0 : ∀ k, B.mem k → 2 ≤ k) (hx : roomN A x ≠ 0) :
    Calls Tryd.prog 44 #[B.ptr, .int .i64 x] w fun e w' => e = .returned (.bool true) ∧ Fr B.mem w w' ∧ Vars w' ∧ Inv n (freeA A x) ∧ At w' B n (hrOf (freeA A x) wd) := by
  have h00 : ¬ B.mem 0 := fun x => by have := h0 0 x; omega
  have h01 : ¬ B.mem 1 := fun x => by have := h0 1 x; omega
  have hr : roomI A (x : Int) = roomN A x := by unfold roomI; rw [if_pos (by omega)]; rfl
  refine (Free_any B n A wd (x : Int) w h hI).mono ?_
  rintro e w' ⟨rfl, hF, hA⟩
  refine ⟨ret_bool (by rw [hr]; simp [hx]), hF, hV.fr hF h00 h01, hI.freed hx, ?_⟩
  unfold freeI at hA
  rw [hr, if_neg hx] at hA
  exact hA
end Go.Proofs.YtogjblikljggbaaDoor
