/- TextReads, walked. -/
import Derived.Test.YthfccidjckbcbaaDoorR3a
import Derived.Test.YthfccidjckbcbaaDoorR3b
import Derived.Test.YthfccidjckbcbaaDoorR3c
import Derived.Test.YthfccidjckbcbaaDoorR3d
namespace Go.Proofs.YthfccidjckbcbaaDoor
open Go.RowKit Go.Proofs.YthfccidjckbcbaaDoor.Hp
set_option maxRecDepth 100000 in
set_option maxHeartbeats 8000000 in
theorem reads_any (a0 : Option Addr) (cap0 : Nat) (rs : List Rw) (a1 : Option Addr) (cap1 : Nat) (ks : List Int) (a2 : Option Addr) (len2 cap2 : Nat) (ss : List ByteArray) (z : Int) (w : World) (hV : Vars w)
    (hm0 : rs.length ≤ maxLen) (hrs : ∀ i r, rs[i]? = some r → RowX w a0 i r) (_ : ks.length ≤ maxLen) (hk1 : ∀ v ∈ ks, -9223372036854775808 ≤ v ∧ v < 9223372036854775808) (hk2 : ∀ j, j < ks.length → ∃ b' off', a1 = some ⟨b', off', none⟩ ∧ b' < w.heap.size ∧ w.cell? ⟨b', off' + j, none⟩ = some (.int .i64 (ks.getD j 0)))
    (hm2 : len2 ≤ maxLen) (hS : StrsAt w a2 len2 ss) (_ : ∀ s ∈ ss, s.size ≤ maxLen) (hz : -9223372036854775808 ≤ z ∧ z < 9223372036854775808) :
    Calls Tryd.prog 4 #[.slice a0 rs.length cap0, .slice a1 ks.length cap1, .slice a2 len2 cap2, .int .i64 z] w fun e w' => e = .returned (.bool true) ∧ Below w.heap.size w w' := by
  by_cases hbig : 20 < rs.length ∨ 20 < len2
  · have HA := hide (anchor_any w hV)
    have HB : Hid (∀ W, Fr (fun _ => False) w W → Below w.heap.size w W) := hide fun W k => k.below (Nat.le_refl _) (fun _ x => x.elim)
    unfold maxLen at hm0 hm2
    generalize rs.length = len0 at *
    generalize ks.length = len1 at *
    clear hV hrs hk1 hk2 hS
    rcases (show 20 < len0 ∨ (¬ 20 < len0 ∧ 20 < len2) by omega) with h1 | ⟨h1, h2⟩
    · have h1' : (20 : Int) < len0 := by omega
      clear hbig
      go_enter Tryd.func4, Tryd.ntmps4
      go_wp2_with fail
      refine (unhide HA).mono ?_
      rintro e w1 ⟨rfl, hF1, _⟩
      have HF1 := hide hF1
      clear hF1
      go_wp2
      go_ret
      exact ⟨rfl, unhide HB _ (unhide HF1)⟩
    · have h1' : ¬ (20 : Int) < len0 := by omega
      have h1'' : decide ((20 : Int) < len0) = false := decide_eq_false h1'
      have h2' : (20 : Int) < len2 := by omega
      clear hbig
      go_enter Tryd.func4, Tryd.ntmps4
      go_wp2_with fail
      refine (unhide HA).mono ?_
      rintro e w1 ⟨rfl, hF1, _⟩
      have HF1 := hide hF1
      clear hF1
      go_wp2
      go_ret
      exact ⟨rfl, unhide HB _ (unhide HF1)⟩
  · have hl20 : rs.length ≤ 20 := by omega
    have hl22 : len2 ≤ 20 := by omega
    by_cases h0 : 0 < z
    · rcases (show z % 2 = 0 ∨ z % 2 = 1 by omega) with h2 | h2
      · exact reads_c a0 cap0 rs a1 cap1 ks a2 len2 cap2 ss z w hV hrs ⟨hk1, hk2⟩ hS hz hl20 hl22 h0 h2
      · by_cases h3 : z / 2 < (len2 : Int)
        · exact reads_a a0 cap0 rs a1 cap1 ks a2 len2 cap2 ss z w hV hrs ⟨hk1, hk2⟩ hS hz hl20 hl22 h0 h2 h3
        · exact reads_b a0 cap0 rs a1 cap1 ks a2 len2 cap2 ss z w hV hrs ⟨hk1, hk2⟩ hS hz hl20 hl22 h0 h2 (by omega)
    · exact reads_d a0 cap0 rs a1 cap1 ks a2 len2 cap2 ss z w hV hrs ⟨hk1, hk2⟩ hS hz hl20 hl22 (by omega)
end Go.Proofs.YthfccidjckbcbaaDoor
