/- slash, walked; lines in memory. -/
import Derived.Test.YteoongjimggbgaaDoorJoinsB
import Derived.Test.YteoongjimggbgaaDoorSpacedP
namespace Go.Proofs.YteoongjimggbgaaDoor
open Go.RowKit Go.Proofs.YteoongjimggbgaaDoor.Lx

/-- A slice of strings in memory, none of them longer than memory bears. -/
def StrsAt (X : World) (ao : Option Addr) (len : Nat) (ss : List ByteArray) : Prop :=
  ss.length = len ∧ (∀ s ∈ ss, s.size ≤ 140737488355328) ∧ ∀ j, j < len → ∃ b off, ao = some ⟨b, off, none⟩ ∧ b < X.heap.size ∧ ∀ s, ss[j]? = some s → X.cell? ⟨b, off + j, none⟩ = some (.string s)
theorem StrsAt.below {X Y : World} {ao : Option Addr} {len : Nat} {ss : List ByteArray} (h : StrsAt X ao len ss) (hb : Below X.heap.size X Y) : StrsAt Y ao len ss :=
  ⟨h.1, h.2.1, fun j hj => by
    obtain ⟨b, off, e, hlt, hc⟩ := h.2.2 j hj
    exact ⟨b, off, e, Nat.lt_of_lt_of_le hlt hb.size, fun c hcj => (hb.cell (p := ⟨b, off + j, none⟩) hlt).trans (hc c hcj)⟩⟩
/-- A line as the loop meets it. -/
theorem StrsAt.line {X : World} {ao : Option Addr} {len : Nat} {ss : List ByteArray} (h : StrsAt X ao len ss) (j : Nat) (hj : j < len) : ∃ b off s, ao = some ⟨b, off, none⟩ ∧ b < X.heap.size ∧ ss[j]? = some s ∧ X.cell? ⟨b, off + j, none⟩ = some (.string s) ∧ s.size ≤ 140737488355328 := by
  obtain ⟨b, off, e, hlt, hc⟩ := h.2.2 j hj
  have hx : ss[j]? = some (ss[j]'(by rw [h.1]; exact hj)) := List.getElem?_eq_getElem _
  exact ⟨b, off, _, e, hlt, hx, hc _ hx, h.2.1 _ (List.mem_of_getElem? hx)⟩

set_option maxRecDepth 100000 in
set_option maxHeartbeats 400000 in
theorem slash_any (ao : Option Addr) (len cap : Nat) (ss : List ByteArray) (w : World) (hm : len ≤ 9223372036854775807) (hc : Hid (StrsAt w ao len ss)) :
    Calls Tryd.prog 11 #[.slice ao len cap] w fun e w' => (e = .returned (.bool true) ∨ e = .returned (.bool false)) ∧ w' = w := by
  go_enter Tryd.func11, Tryd.ntmps11
  go_wp2_with fail
  go_loop [7] (fun i => ∃ q : Nat, q ≤ len ∧ i = .int .i64 q) (fun i => len - (intOf i).toNat)
  case atStart => exact ⟨0, Nat.zero_le _, rfl⟩
  case round =>
    obtain ⟨q, hq, rfl⟩ := hrel
    by_cases hlt : q < len
    · obtain ⟨b, off, s, rfl, hb, _, hcell, hsz⟩ := (unhide hc).line q hlt
      have h4 : (q : Int) < len := by omega
      have h5 : (0 : Int) ≤ q := by omega
      by_cases hs : 0 < s.size
      · have t1 : (0 : Int) < s.size := by omega
        have t2 : (0 : Int) ≤ (s.size : Int) - 1 := by omega
        have t3 : (s.size : Int) - 1 < s.size := by omega
        go_wp2_with fail
        go_ways
        · go_ret
          exact ⟨.inl rfl, rfl⟩
        · go_round
          case rel => exact ⟨q + 1, hlt, by go_num⟩
          case measure => simp [intOf]; omega
      · have t1 : ¬ (0 : Int) < s.size := by omega
        go_wp2_with fail
        go_round
        case rel => exact ⟨q + 1, hlt, by go_num⟩
        case measure => simp [intOf]; omega
    · go_wp2_with fail
      go_ret
      exact ⟨.inr rfl, rfl⟩
end Go.Proofs.YteoongjimggbgaaDoor
