/- The slices that a law is handed, opened. -/
import Derived.Test.YtogjblikljggbaaDoorS6
import Derived.Deep.SlicePairs
import Derived.ProofKit
namespace Go.Proofs.YtogjblikljggbaaDoor
open Go.RowKit Go.Proofs.YtogjblikljggbaaDoor.Hp Go.ChangeShapes Go.WideShapes Go.Deep
theorem wf_rng {n : Int} (h : (Lit.int .i64 n).wf = true) : -9223372036854775808 ≤ n ∧ n < 9223372036854775808 := by
  simp [Lit.wf, IntKind.min, IntKind.max, IntKind.signed, IntKind.bits] at h
  omega
theorem raw_words {H : Type} {enc : TypeId × Value → H} {w : World} {spare : Nat → Bool} {held : Bool} {fuel : Nat} {v : Value} {x : DataW H × List MemPlace} (h : DataW.trod enc Tryd.prog w 0 spare held fuel 28 [v] = some x) :
    ∃ (wa : Option Addr) (wc : Nat) (W : List Int), v = .slice wa W.length wc ∧ W.length ≤ maxLen ∧ (∀ z ∈ W, -9223372036854775808 ≤ z ∧ z < 9223372036854775808) ∧ ∀ j, j < W.length → ∃ b' off', wa = some ⟨b', off', none⟩ ∧ b' < w.heap.size ∧ w.cell? ⟨b', off' + j, none⟩ = some (.int .i64 (W.getD j 0)) := by
  rcases open_ints Tryd.underlying28 Tryd.underlying3 (by kernel_rfl) h with ⟨hcs, _⟩ | ⟨a, l, c, zs, hcs, _, hl, hm, hz, _, hcell, hwz⟩
  · simp at hcs
    exact ⟨none, 0, [], by rw [hcs]; rfl, by simp, by simp, fun j hj => absurd hj (by simp)⟩
  · simp at hcs
    have hlz : l ≤ zs.length := by rw [hz]; split <;> omega
    have hlt : (zs.take l).length = l := by rw [List.length_take]; omega
    refine ⟨some a, c, zs.take l, by rw [hcs, hlt], by omega, fun z hz' => wf_rng (hwz z (List.mem_of_mem_take hz')), fun j hj => ?_⟩
    have h0 := hcell j (by omega)
    obtain ⟨b, off, spot⟩ := a
    have hspot : spot = none := by simpa [Addr.add] using World.cell?_spot (hcell 0 (by omega))
    subst hspot
    rw [Go.WideShapes.add_plain] at h0
    refine ⟨b, off, rfl, World.block_lt_of_cell? w ⟨b, off + j, none⟩ h0, ?_⟩
    rw [h0]
    have hjl : j < l := by omega
    simp [List.getD, hjl]
end Go.Proofs.YtogjblikljggbaaDoor
