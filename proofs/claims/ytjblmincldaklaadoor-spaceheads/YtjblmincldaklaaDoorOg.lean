/- The slice of arrays, opened. -/
import Derived.Test.YtjblmincldaklaaDoorH2
import Derived.Laws.IdiomArrays
namespace Go.Proofs.YtjblmincldaklaaDoor
open Go.RowKit Go.Proofs.YtjblmincldaklaaDoor.Hp Go.ChangeShapes Go.WideShapes Go.Deep
theorem Tryd.cells3 : Tryd.prog.cellsOf 3 = 1 := by kernel_rfl
set_option maxRecDepth 100000 in
theorem open_grid {H : Type} {enc : TypeId × Value → H} {w : World} {spare : Nat → Bool} {held : Bool} {fuel : Nat} {a0 : Option Addr} {len cap : Nat} {x : DataW H × List MemPlace} (h : DataW.trod enc Tryd.prog w 0 spare held fuel 48 [.slice a0 len cap] = some x) :
    ∃ zs : List (Int × Int × Int), zs.length = len ∧ len ≤ maxLen ∧ GridAt w a0 zs := by
  rcases Go.Deep.open_slice Tryd.underlying48 h with ⟨h0, _⟩ | ⟨a, len', cap', m, n, D, Pl, hcs, hb, hl, hm, hmm, _, hx⟩
  · simp at h0
    obtain ⟨rfl, rfl, rfl⟩ := h0
    exact ⟨[], rfl, Nat.zero_le _, fun i r hr => by simp at hr⟩
  · simp at hcs
    obtain ⟨rfl, rfl, rfl⟩ := hcs
    have hlm : len ≤ m := by rw [hmm]; split <;> omega
    have ce : Tryd.prog.cellsOf 49 = 3 := by kernel_rfl
    have each : ∀ i, i < len → ∃ r : Int × Int × Int, w.cell? (a.add (i * 3)) = some (.int .i64 r.1) ∧ w.cell? (a.add (i * 3 + 1)) = some (.int .i64 r.2.1) ∧ w.cell? (a.add (i * 3 + 2)) = some (.int .i64 r.2.2) := by
      intro i hi
      obtain ⟨cs', h1, h2⟩ := hx i (by omega)
      rw [ce] at h1
      obtain ⟨_, hlen, hcell⟩ := World.cells?_some h1
      match cs', hlen with
      | [v0, v1, v2], _ =>
        obtain ⟨y0, y1, y2, k, _, g0, g1, g2⟩ := trod_array3 Tryd.underlying49 Tryd.cells3 h2
        obtain ⟨z0, e0, _, r0⟩ := DataW.trod_int Tryd.underlying3 g0
        obtain ⟨z1, e1, _, r1⟩ := DataW.trod_int Tryd.underlying3 g1
        obtain ⟨z2, e2, _, r2⟩ := DataW.trod_int Tryd.underlying3 g2
        have k0 := hcell 0 (by omega)
        have k1 := hcell 1 (by omega)
        have k2 := hcell 2 (by omega)
        rw [add_add] at k0 k1 k2
        simp at e0 e1 e2
        subst e0 e1 e2
        exact ⟨(z0, z1, z2), by simpa using k0, by simpa using k1, by simpa using k2⟩
    have each2 : ∀ i, ∃ r : Int × Int × Int, i < len → w.cell? (a.add (i * 3)) = some (.int .i64 r.1) ∧ w.cell? (a.add (i * 3 + 1)) = some (.int .i64 r.2.1) ∧ w.cell? (a.add (i * 3 + 2)) = some (.int .i64 r.2.2) := fun i => by
      by_cases hi : i < len
      · obtain ⟨r, hr⟩ := each i hi
        exact ⟨r, fun _ => hr⟩
      · exact ⟨(0, 0, 0), fun h => absurd h hi⟩
    obtain ⟨f, hf⟩ := Classical.axiomOfChoice each2
    refine ⟨(List.range len).map f, by simp, by omega, fun i r hr => ?_⟩
    have hi : i < len := by
      have := (List.getElem?_eq_some_iff.1 hr).1
      simpa using this
    obtain rfl : f i = r := by
      rw [List.getElem?_map, List.getElem?_range hi] at hr
      simpa using hr
    have k00 := (hf 0 (by omega)).1
    obtain ⟨k0, k1, k2⟩ := hf i hi
    clear hr each each2 hx
    obtain ⟨b, off, spot⟩ := a
    have hspot : spot = none := by simpa [Addr.add] using World.cell?_spot k00
    subst hspot
    rw [Go.WideShapes.add_plain] at k0 k1 k2
    exact ⟨b, off, rfl, World.block_lt_of_cell? w ⟨b, off + i * 3, none⟩ k0, k0, by rw [← Nat.add_assoc] at k1; exact k1, by rw [← Nat.add_assoc] at k2; exact k2⟩
end Go.Proofs.YtjblmincldaklaaDoor
