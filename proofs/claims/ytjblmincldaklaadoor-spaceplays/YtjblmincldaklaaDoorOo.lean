/- The slice of steps, opened. -/
import Derived.Test.YtjblmincldaklaaDoorOq
import Derived.Deep.SlicePairs
namespace Go.Proofs.YtjblmincldaklaaDoor
open Go.RowKit Go.Proofs.YtjblmincldaklaaDoor.Hp Go.ChangeShapes Go.WideShapes Go.Deep
/-- A step. -/
structure Ox where
  o0 : Int
  o1 : Int
  o2 : Int
  o3 : Int
  o4 : Int
  o5 : Int
  o6 : Int
def OxR (q : Ox) : Prop := (-9223372036854775808 ≤ q.o4 ∧ q.o4 < 9223372036854775808) ∧ (-9223372036854775808 ≤ q.o6 ∧ q.o6 < 9223372036854775808)
def OxA (w : World) (b i : Nat) (q : Ox) : Prop := w.cell? ⟨b, i, none⟩ = some (.int .i64 q.o0) ∧ w.cell? ⟨b, i + 1, none⟩ = some (.int .i64 q.o1) ∧ w.cell? ⟨b, i + 2, none⟩ = some (.int .i64 q.o2) ∧ w.cell? ⟨b, i + 3, none⟩ = some (.int .i64 q.o3) ∧ w.cell? ⟨b, i + 4, none⟩ = some (.int .i64 q.o4) ∧ w.cell? ⟨b, i + 5, none⟩ = some (.int .i64 q.o5) ∧ w.cell? ⟨b, i + 6, none⟩ = some (.int .i64 q.o6)
set_option maxRecDepth 100000 in
theorem open_steps {H : Type} {enc : TypeId × Value → H} {w : World} {spare : Nat → Bool} {held : Bool} {fuel : Nat} {a0 : Option Addr} {len cap : Nat} {x : DataW H × List MemPlace} (h : DataW.trod enc Tryd.prog w 0 spare held fuel 22 [.slice a0 len cap] = some x) :
    ∃ f : Nat → Ox, len ≤ maxLen ∧ (∀ j, OxR (f j)) ∧ ∀ j, j < len → ∃ b off, a0 = some ⟨b, off, none⟩ ∧ b < w.heap.size ∧ OxA w b (off + j * 7) (f j) := by
  have d0 : OxR ⟨0, 0, 0, 0, 0, 0, 0⟩ := by unfold OxR; simp
  rcases Go.Deep.open_slice Tryd.underlying22 h with ⟨h0, _⟩ | ⟨a, len', cap', m, n, D, Pl, hcs, hb, hl, hm, hmm, _, hx⟩
  · simp at h0
    obtain ⟨rfl, rfl, rfl⟩ := h0
    exact ⟨fun _ => ⟨0, 0, 0, 0, 0, 0, 0⟩, Nat.zero_le _, fun _ => d0, fun j hj => absurd hj (by omega)⟩
  · simp at hcs
    obtain ⟨rfl, rfl, rfl⟩ := hcs
    have hlm : len ≤ m := by rw [hmm]; split <;> omega
    have ce : Tryd.prog.cellsOf 35 = 7 := by kernel_rfl
    have c3 : Tryd.prog.cellsOf 3 = 1 := by kernel_rfl
    have each : ∀ i, i < len → ∃ q : Ox, OxR q ∧ w.cell? (a.add (i * 7)) = some (.int .i64 q.o0) ∧ w.cell? (a.add (i * 7 + 1)) = some (.int .i64 q.o1) ∧ w.cell? (a.add (i * 7 + 2)) = some (.int .i64 q.o2) ∧ w.cell? (a.add (i * 7 + 3)) = some (.int .i64 q.o3) ∧ w.cell? (a.add (i * 7 + 4)) = some (.int .i64 q.o4) ∧ w.cell? (a.add (i * 7 + 5)) = some (.int .i64 q.o5) ∧ w.cell? (a.add (i * 7 + 6)) = some (.int .i64 q.o6) := by
      intro i hi
      obtain ⟨cs', h1, h2⟩ := hx i (by omega)
      rw [ce] at h1
      obtain ⟨_, hlen, hcell⟩ := World.cells?_some h1
      obtain ⟨xs, k, hk, hxy, _, hxl, hf⟩ := DataW.trod_struct Tryd.underlying35 h2
      match xs, hxl, cs', hlen with
      | [y0, y1, y2, y3, y4, y5, y6], _, [v0, v1, v2, v3, v4, v5, v6], _ =>
        have g0 := hf 0 _ rfl
        have g1 := hf 1 _ rfl
        have g2 := hf 2 _ rfl
        have g3 := hf 3 _ rfl
        have g4 := hf 4 _ rfl
        have g5 := hf 5 _ rfl
        have g6 := hf 6 _ rfl
        simp [c3] at g0 g1 g2 g3 g4 g5 g6
        obtain ⟨z0, e0, _, r0⟩ := DataW.trod_int Tryd.underlying3 g0
        obtain ⟨z1, e1, _, r1⟩ := DataW.trod_int Tryd.underlying3 g1
        obtain ⟨z2, e2, _, r2⟩ := DataW.trod_int Tryd.underlying3 g2
        obtain ⟨z3, e3, _, r3⟩ := DataW.trod_int Tryd.underlying3 g3
        obtain ⟨z4, e4, _, r4⟩ := DataW.trod_int Tryd.underlying3 g4
        obtain ⟨z5, e5, _, r5⟩ := DataW.trod_int Tryd.underlying3 g5
        obtain ⟨z6, e6, _, r6⟩ := DataW.trod_int Tryd.underlying3 g6
        have k0 := hcell 0 (by omega)
        have k1 := hcell 1 (by omega)
        have k2 := hcell 2 (by omega)
        have k3 := hcell 3 (by omega)
        have k4 := hcell 4 (by omega)
        have k5 := hcell 5 (by omega)
        have k6 := hcell 6 (by omega)
        rw [add_add] at k0 k1 k2 k3 k4 k5 k6
        simp at e0 e1 e2 e3 e4 e5 e6
        subst e0 e1 e2 e3 e4 e5 e6
        exact ⟨⟨z0, z1, z2, z3, z4, z5, z6⟩, ⟨wf_rng r4, wf_rng r6⟩, by simpa using k0, by simpa using k1, by simpa using k2, by simpa using k3, by simpa using k4, by simpa using k5, by simpa using k6⟩
    have each2 : ∀ i, ∃ q : Ox, OxR q ∧ (i < len → w.cell? (a.add (i * 7)) = some (.int .i64 q.o0) ∧ w.cell? (a.add (i * 7 + 1)) = some (.int .i64 q.o1) ∧ w.cell? (a.add (i * 7 + 2)) = some (.int .i64 q.o2) ∧ w.cell? (a.add (i * 7 + 3)) = some (.int .i64 q.o3) ∧ w.cell? (a.add (i * 7 + 4)) = some (.int .i64 q.o4) ∧ w.cell? (a.add (i * 7 + 5)) = some (.int .i64 q.o5) ∧ w.cell? (a.add (i * 7 + 6)) = some (.int .i64 q.o6)) := fun i => by
      by_cases hi : i < len
      · obtain ⟨q, h1, h2⟩ := each i hi
        exact ⟨q, h1, fun _ => h2⟩
      · exact ⟨⟨0, 0, 0, 0, 0, 0, 0⟩, d0, fun h => absurd h hi⟩
    obtain ⟨f, hf⟩ := Classical.axiomOfChoice each2
    refine ⟨f, by omega, fun j => (hf j).1, fun j hj => ?_⟩
    have k00 := ((hf 0).2 (by omega)).1
    obtain ⟨k0, k1, k2, k3, k4, k5, k6⟩ := (hf j).2 hj
    clear hf each each2 hx
    obtain ⟨b, off, spot⟩ := a
    have hspot : spot = none := by simpa [Addr.add] using World.cell?_spot k00
    subst hspot
    rw [Go.WideShapes.add_plain] at k0 k1 k2 k3 k4 k5 k6
    rw [← Nat.add_assoc] at k1 k2 k3 k4 k5 k6
    exact ⟨b, off, rfl, World.block_lt_of_cell? w ⟨b, off + j * 7, none⟩ k0, k0, k1, k2, k3, k4, k5, k6⟩
end Go.Proofs.YtjblmincldaklaaDoor
