/- The slice of steps, opened. -/
import Derived.Test.YtogjblikljggbaaDoorOq
import Derived.Deep.SlicePairs
namespace Go.Proofs.YtogjblikljggbaaDoor
open Go.RowKit Go.Proofs.YtogjblikljggbaaDoor.Hp Go.ChangeShapes Go.WideShapes Go.Deep
theorem open_steps {H : Type} {enc : TypeId × Value → H} {w : World} {spare : Nat → Bool} {held : Bool} {fuel : Nat} {a0 : Option Addr} {len cap : Nat} {x : DataW H × List MemPlace} (h : DataW.trod enc Tryd.prog w 0 spare held fuel 22 [.slice a0 len cap] = some x) :
    ∃ f : Nat → Int × Int, len ≤ maxLen ∧ ∀ j, j < len → ∃ b off, a0 = some ⟨b, off, none⟩ ∧ b < w.heap.size ∧ w.cell? ⟨b, off + j * 2, none⟩ = some (.int .i64 (f j).1) ∧ w.cell? ⟨b, off + j * 2 + 1, none⟩ = some (.int .i64 (f j).2) := by
  rcases Go.Deep.open_slice Tryd.underlying22 h with ⟨h0, _⟩ | ⟨a, len', cap', m, n, D, Pl, hcs, hb, hl, hm, hmm, _, hx⟩
  · simp at h0
    obtain ⟨rfl, rfl, rfl⟩ := h0
    exact ⟨fun _ => (0, 0), Nat.zero_le _, fun j hj => absurd hj (by omega)⟩
  · simp at hcs
    obtain ⟨rfl, rfl, rfl⟩ := hcs
    have hlm : len ≤ m := by rw [hmm]; split <;> omega
    have ce : Tryd.prog.cellsOf 30 = 2 := by kernel_rfl
    have c3 : Tryd.prog.cellsOf 3 = 1 := by kernel_rfl
    have each : ∀ i, i < len → ∃ q : Int × Int, w.cell? (a.add (i * 2)) = some (.int .i64 q.1) ∧ w.cell? (a.add (i * 2 + 1)) = some (.int .i64 q.2) := by
      intro i hi
      obtain ⟨cs', h1, h2⟩ := hx i (by omega)
      rw [ce] at h1
      obtain ⟨_, hlen, hcell⟩ := World.cells?_some h1
      obtain ⟨xs, k, hk, hxy, _, hxl, hf⟩ := DataW.trod_struct Tryd.underlying30 h2
      match xs, hxl, cs', hlen with
      | [y0, y1], _, [v0, v1], _ =>
        have g0 := hf 0 _ rfl
        have g1 := hf 1 _ rfl
        simp [c3] at g0 g1
        obtain ⟨z0, e0, _, r0⟩ := DataW.trod_int Tryd.underlying3 g0
        obtain ⟨z1, e1, _, r1⟩ := DataW.trod_int Tryd.underlying3 g1
        have k0 := hcell 0 (by omega)
        have k1 := hcell 1 (by omega)
        rw [add_add] at k0 k1
        simp at e0 e1
        subst e0 e1
        exact ⟨(z0, z1), by simpa using k0, by simpa using k1⟩
    have each2 : ∀ i, ∃ q : Int × Int, i < len → w.cell? (a.add (i * 2)) = some (.int .i64 q.1) ∧ w.cell? (a.add (i * 2 + 1)) = some (.int .i64 q.2) := fun i => by
      by_cases hi : i < len
      · obtain ⟨q, h2⟩ := each i hi
        exact ⟨q, fun _ => h2⟩
      · exact ⟨(0, 0), fun h => absurd h hi⟩
    obtain ⟨f, hf⟩ := Classical.axiomOfChoice each2
    refine ⟨f, by omega, fun j hj => ?_⟩
    have k00 := (hf 0 (by omega)).1
    obtain ⟨k0, k1⟩ := hf j hj
    clear hf each each2 hx
    obtain ⟨b, off, spot⟩ := a
    have hspot : spot = none := by simpa [Addr.add] using World.cell?_spot k00
    subst hspot
    rw [Go.WideShapes.add_plain] at k0 k1
    exact ⟨b, off, rfl, World.block_lt_of_cell? w ⟨b, off + j * 2, none⟩ k0, k0, by rw [← Nat.add_assoc] at k1; exact k1⟩
end Go.Proofs.YtogjblikljggbaaDoor
