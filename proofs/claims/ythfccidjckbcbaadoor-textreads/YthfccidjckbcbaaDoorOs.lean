/- The strings that a law is handed, opened. -/
import Derived.Test.YthfccidjckbcbaaDoorX1
import Derived.Test.YthfccidjckbcbaaDoorOq
import Derived.SliceStrings
namespace Go.Proofs.YthfccidjckbcbaaDoor
open Go.RowKit Go.Proofs.YthfccidjckbcbaaDoor.Hp Go.ChangeShapes Go.WideShapes Go.Deep Go.WideMaps Go.WideElems
theorem open_strs {H : Type} {enc : TypeId × Value → H} {w : World} {spare : Nat → Bool} {held : Bool} {fuel : Nat} {v : Value} {x : DataW H × List MemPlace} (h : DataW.trod enc Tryd.prog w 0 spare held fuel 22 [v] = some x) :
    ∃ (wa : Option Addr) (wc : Nat) (ss : List ByteArray), v = .slice wa ss.length wc ∧ ss.length ≤ maxLen ∧ StrsAt w wa ss.length ss ∧ ∀ s ∈ ss, s.size ≤ maxLen := by
  rcases open_strings Tryd.underlying22 Tryd.underlying9 (by kernel_rfl) h with ⟨hcs, _⟩ | ⟨a, l, c, ss, hcs, _, hl, hm, hz, _, hcell, hsz⟩
  · simp at hcs
    exact ⟨none, 0, [], by rw [hcs]; rfl, by simp, StrsAt.nil w, fun s hs => by cases hs⟩
  · simp at hcs
    have hlz : l ≤ ss.length := by rw [hz]; split <;> omega
    have hlt : (ss.take l).length = l := by rw [List.length_take]; omega
    refine ⟨some a, c, ss.take l, by rw [hcs, hlt], by omega, ⟨rfl, fun j hj => ?_⟩, fun s hs => hsz s (List.mem_of_mem_take hs)⟩
    have h0 := hcell j (by omega)
    obtain ⟨b, off, spot⟩ := a
    have hspot : spot = none := by simpa [Addr.add] using World.cell?_spot (hcell 0 (by omega))
    subst hspot
    rw [Go.WideShapes.add_plain] at h0
    refine ⟨b, off, rfl, World.block_lt_of_cell? w ⟨b, off + j, none⟩ h0, ?_⟩
    rw [h0]
    have hjl : j < l := by omega
    simp [List.getD, hjl]
end Go.Proofs.YthfccidjckbcbaaDoor
