/- The slice of steps, opened. -/
import Derived.Test.YtkhegceikdegbaaDoorRh1
import Derived.Deep.SlicePairs
namespace Go.Proofs.YtkhegceikdegbaaDoor
open Go.RowKit Go.Proofs.YtkhegceikdegbaaDoor.Hp Go.ChangeShapes Go.WideShapes Go.Deep
theorem wf_range {n : Int} (h : (Lit.int .i64 n).wf = true) : -9223372036854775808 ≤ n ∧ n < 9223372036854775808 := by
  simp [Lit.wf, IntKind.min, IntKind.max, IntKind.signed, IntKind.bits] at h
  omega
theorem open_ops {H : Type} {enc : TypeId × Value → H} {w : World} {spare : Nat → Bool} {held : Bool} {fuel : Nat} {a0 : Option Addr} {len cap : Nat} {x : DataW H × List MemPlace} (h : DataW.trod enc Tryd.prog w 0 spare held fuel 22 [.slice a0 len cap] = some x) :
    ∃ f : Nat → Int × Int × Int × Int, len ≤ maxLen ∧ (∀ j, (-9223372036854775808 ≤ (f j).2.1 ∧ (f j).2.1 < 9223372036854775808) ∧ (-9223372036854775808 ≤ (f j).2.2.1 ∧ (f j).2.2.1 < 9223372036854775808)) ∧
      ∀ j, j < len → ∃ b off, a0 = some ⟨b, off, none⟩ ∧ b < w.heap.size ∧ w.cell? ⟨b, off + j * 4, none⟩ = some (.int .i64 (f j).1) ∧ w.cell? ⟨b, off + j * 4 + 1, none⟩ = some (.int .i64 (f j).2.1) ∧ w.cell? ⟨b, off + j * 4 + 2, none⟩ = some (.int .i64 (f j).2.2.1) ∧ w.cell? ⟨b, off + j * 4 + 3, none⟩ = some (.int .i64 (f j).2.2.2) := by
  rcases Go.Deep.open_slice Tryd.underlying22 h with ⟨h0, _⟩ | ⟨a, len', cap', m, n, D, Pl, hcs, hb, hl, hm, hmm, _, hx⟩
  · simp at h0
    obtain ⟨rfl, rfl, rfl⟩ := h0
    exact ⟨fun _ => (0, 0, 0, 0), Nat.zero_le _, fun _ => by simp, fun j hj => absurd hj (by omega)⟩
  · simp at hcs
    obtain ⟨rfl, rfl, rfl⟩ := hcs
    have hlm : len ≤ m := by rw [hmm]; split <;> omega
    have ce : Tryd.prog.cellsOf 30 = 4 := by kernel_rfl
    have c3 : Tryd.prog.cellsOf 3 = 1 := by kernel_rfl
    have each : ∀ i, i < len → ∃ q : Int × Int × Int × Int, ((-9223372036854775808 ≤ q.2.1 ∧ q.2.1 < 9223372036854775808) ∧ (-9223372036854775808 ≤ q.2.2.1 ∧ q.2.2.1 < 9223372036854775808)) ∧ w.cell? (a.add (i * 4)) = some (.int .i64 q.1) ∧ w.cell? (a.add (i * 4 + 1)) = some (.int .i64 q.2.1) ∧ w.cell? (a.add (i * 4 + 2)) = some (.int .i64 q.2.2.1) ∧ w.cell? (a.add (i * 4 + 3)) = some (.int .i64 q.2.2.2) := by
      intro i hi
      obtain ⟨cs', h1, h2⟩ := hx i (by omega)
      rw [ce] at h1
      obtain ⟨_, hlen, hcell⟩ := World.cells?_some h1
      obtain ⟨xs, k, hk, hxy, _, hxl, hf⟩ := DataW.trod_struct Tryd.underlying30 h2
      match xs, hxl, cs', hlen with
      | [y0, y1, y2, y3], _, [v0, v1, v2, v3], _ =>
        have g0 := hf 0 _ rfl
        have g1 := hf 1 _ rfl
        have g2 := hf 2 _ rfl
        have g3 := hf 3 _ rfl
        simp [c3] at g0 g1 g2 g3
        obtain ⟨z0, e0, _, r0⟩ := DataW.trod_int Tryd.underlying3 g0
        obtain ⟨z1, e1, _, r1⟩ := DataW.trod_int Tryd.underlying3 g1
        obtain ⟨z2, e2, _, r2⟩ := DataW.trod_int Tryd.underlying3 g2
        obtain ⟨z3, e3, _, r3⟩ := DataW.trod_int Tryd.underlying3 g3
        have k0 := hcell 0 (by omega)
        have k1 := hcell 1 (by omega)
        have k2 := hcell 2 (by omega)
        have k3 := hcell 3 (by omega)
        rw [add_add] at k0 k1 k2 k3
        simp at e0 e1 e2 e3
        subst e0 e1 e2 e3
        exact ⟨(z0, z1, z2, z3), ⟨wf_range r1, wf_range r2⟩, by simpa using k0, by simpa using k1, by simpa using k2, by simpa using k3⟩
    have each2 : ∀ i, ∃ q : Int × Int × Int × Int, ((-9223372036854775808 ≤ q.2.1 ∧ q.2.1 < 9223372036854775808) ∧ (-9223372036854775808 ≤ q.2.2.1 ∧ q.2.2.1 < 9223372036854775808)) ∧ (i < len → w.cell? (a.add (i * 4)) = some (.int .i64 q.1) ∧ w.cell? (a.add (i * 4 + 1)) = some (.int .i64 q.2.1) ∧ w.cell? (a.add (i * 4 + 2)) = some (.int .i64 q.2.2.1) ∧ w.cell? (a.add (i * 4 + 3)) = some (.int .i64 q.2.2.2)) := fun i => by
      by_cases hi : i < len
      · obtain ⟨q, h1, h2⟩ := each i hi
        exact ⟨q, h1, fun _ => h2⟩
      · exact ⟨(0, 0, 0, 0), by simp, fun h => absurd h hi⟩
    obtain ⟨f, hf⟩ := Classical.axiomOfChoice each2
    refine ⟨f, by omega, fun j => (hf j).1, fun j hj => ?_⟩
    have k00 := ((hf 0).2 (by omega)).1
    obtain ⟨k0, k1, k2, k3⟩ := (hf j).2 hj
    clear hf each each2 hx
    obtain ⟨b, off, spot⟩ := a
    have hspot : spot = none := by simpa [Addr.add] using World.cell?_spot k00
    subst hspot
    rw [Go.WideShapes.add_plain] at k0 k1 k2 k3
    exact ⟨b, off, rfl, World.block_lt_of_cell? w ⟨b, off + j * 4, none⟩ k0, k0, by rw [← Nat.add_assoc] at k1; exact k1, by rw [← Nat.add_assoc] at k2; exact k2, by rw [← Nat.add_assoc] at k3; exact k3⟩
end Go.Proofs.YtkhegceikdegbaaDoor
