/- The arguments, opened. -/
import Derived.Test.YtidacjkpioenhaaM6
import Derived.Test.YtidacjkpioenhaaRows
import Derived.ProofKit
namespace Go.Proofs.Ytidacjkpioenhaa
open Go.RowKit Go.ChangeShapes Go.WideShapes
theorem wf_rng {n : Int} (h : (Lit.int .i64 n).wf = true) : rng n := by
  simp [Lit.wf, IntKind.min, IntKind.max, IntKind.signed, IntKind.bits] at h
  unfold rng
  omega
theorem open_row {H : Type} {enc : TypeId × Value → H} {w : World} {spare : Nat → Bool} {held : Bool} {fuel : Nat} {v : Value} {x : DataW H × List MemPlace} (h : DataW.trod enc Try.prog w 0 spare held fuel 22 [v] = some x) :
    ∃ (wa : Option Addr) (wc : Nat) (W : List Int), v = .slice wa W.length wc ∧ W.length ≤ maxLen ∧ (∀ z ∈ W, rng z) ∧ IntsAt w wa W := by
  rcases open_ints Try.underlying22 Try.underlying3 (by kernel_rfl) h with ⟨hcs, _⟩ | ⟨a, l, c, zs, hcs, _, hl, hm, hz, _, hcell, hwz⟩
  · simp at hcs
    exact ⟨none, 0, [], by rw [hcs]; rfl, by simp, by simp, IntsAt.nil _ _⟩
  · simp at hcs
    have hlz : l ≤ zs.length := by rw [hz]; split <;> omega
    have hlt : (zs.take l).length = l := by rw [List.length_take]; omega
    refine ⟨some a, c, zs.take l, by rw [hcs, hlt], by omega, fun z hz' => wf_rng (hwz z (List.mem_of_mem_take hz')), fun j hj => ?_⟩
    have h0 := hcell j (by omega)
    obtain ⟨b, off, spot⟩ := a
    have hspot : spot = none := by simpa [Addr.add] using World.cell?_spot (hcell 0 (by omega))
    subst hspot
    rw [Go.WideShapes.add_plain] at h0
    refine ⟨b, off, rfl, World.block_lt_of_cell? w ⟨b, off + j, none⟩ h0, ?_⟩
    rw [h0]
    have hjl : j < l := by omega
    simp [List.getD, hjl]
theorem Try.own : ownKnob Try.prog.godebug = none := by kernel_rfl
theorem Try.laidOut : laidOutB Try.prog = true := by kernel_rfl
end Go.Proofs.Ytidacjkpioenhaa
