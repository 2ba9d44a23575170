/- Contracts of the string functions that package types calls. -/
import Derived.Test.YtpmpjbnnjdpbnaaDoorLeaf
import Derived.Test.YtpmpjbnnjdpbnaaDoorRead
import Derived.Test.YtpmpjbnnjdpbnaaDoorTyR
namespace Go.Proofs.YtpmpjbnnjdpbnaaDoor
open Go.RowKit Go.Proofs.YtpmpjbnnjdpbnaaDoor.Lx

theorem mk_toL (a : Array UInt8) : (⟨a⟩ : ByteArray).toList = a.toList := ByteArray.toList_eq _
theorem pre_ext (s p : ByteArray) : ((s.extract 0 p.size).toList == p.toList) = p.toList.isPrefixOf s.toList := by
  rw [ext_toL, Bool.eq_iff_iff, List.isPrefixOf_iff_prefix, List.prefix_iff_eq_take, beq_iff_eq, toL_len]
  simp [sub, eq_comm]
theorem pre_short (s p : ByteArray) (h : ¬ p.size ≤ s.size) : p.toList.isPrefixOf s.toList = false := by
  cases hp : p.toList.isPrefixOf s.toList with
  | false => rfl
  | true =>
    have := (List.isPrefixOf_iff_prefix.1 hp).length_le
    rw [toL_len, toL_len] at this
    omega
set_option maxHeartbeats 400000 in
theorem hasPrefix40 (s p : ByteArray) (w : World) :
    Calls Tryd.prog 40 #[.string s, .string p] w fun e w' => e = .returned (.bool (p.toList.isPrefixOf s.toList)) ∧ w' = w := by
  by_cases h : p.size ≤ s.size
  · have h1 : (p.size : Int) ≤ s.size := by omega
    have HE := hide (pre_ext s p)
    go_enter Tryd.func40, Tryd.ntmps40
    go_wp2
    go_ret
    exact ⟨ret_bool (unhide HE), rfl⟩
  · have h1 : ¬ (p.size : Int) ≤ s.size := by omega
    have HE := hide (pre_short s p h)
    go_enter Tryd.func40, Tryd.ntmps40
    go_wp2
    go_ret
    exact ⟨ret_bool (unhide HE).symm, rfl⟩
set_option maxHeartbeats 400000 in
theorem begins28 (s p : ByteArray) (w : World) :
    Calls Tryd.prog 28 #[.string s, .string p] w fun e w' => e = .returned (.bool (p.toList.isPrefixOf s.toList)) ∧ w' = w := by
  by_cases h : p.size ≤ s.size
  · have h1 : (p.size : Int) ≤ s.size := by omega
    have HE := hide (pre_ext s p)
    go_enter Tryd.func28, Tryd.ntmps28
    go_wp2
    go_ret
    exact ⟨ret_bool (unhide HE), rfl⟩
  · have h1 : ¬ (p.size : Int) ≤ s.size := by omega
    have HE := hide (pre_short s p h)
    go_enter Tryd.func28, Tryd.ntmps28
    go_wp2
    go_ret
    exact ⟨ret_bool (unhide HE).symm, rfl⟩
theorem hasPrefix29 (s p : ByteArray) (w : World) :
    Calls Tryd.prog 29 #[.string s, .string p] w fun e w' => e = .returned (.bool (p.toList.isPrefixOf s.toList)) ∧ w' = w := by
  go_enter Tryd.func29, Tryd.ntmps29
  go_wp2_with (first | (go_at_call 40; refine (hasPrefix40 _ _ _).mono ?_; rintro e w' ⟨rfl, rfl⟩))
  go_ret
  exact ⟨rfl, rfl⟩
/-- What CutPrefix leaves of a text. -/
def cutB (s p : ByteArray) : ByteArray := if p.toList.isPrefixOf s.toList = true then s.extract p.size s.size else s
theorem pre_size {s p : ByteArray} (h : p.toList.isPrefixOf s.toList = true) : p.size ≤ s.size := by
  have := (List.isPrefixOf_iff_prefix.1 h).length_le
  rw [toL_len, toL_len] at this
  exact this
theorem cutPrefix39 (s p : ByteArray) (w : World) :
    Calls Tryd.prog 39 #[.string s, .string p] w fun e w' => e = .returned (.tuple #[.string (cutB s p), .bool (p.toList.isPrefixOf s.toList)]) ∧ w' = w := by
  cases h : p.toList.isPrefixOf s.toList with
  | true =>
    have hz := pre_size h
    have h1 : (p.size : Int) ≤ s.size := by omega
    have HC : Hid (cutB s p = s.extract p.size s.size) := if_pos h
    go_enter Tryd.func39, Tryd.ntmps39
    go_wp2_with (first | (go_at_call 40; refine (hasPrefix40 _ _ _).mono ?_; rintro e w' ⟨rfl, rfl⟩))
    go_ret2
    rw [unhide HC]
    exact ⟨rfl, rfl⟩
  | false =>
    have HC : Hid (cutB s p = s) := if_neg (by rw [h]; simp)
    go_enter Tryd.func39, Tryd.ntmps39
    go_wp2_with (first | (go_at_call 40; refine (hasPrefix40 _ _ _).mono ?_; rintro e w' ⟨rfl, rfl⟩))
    go_ret2
    rw [unhide HC]
    exact ⟨rfl, rfl⟩
theorem cutPrefix27 (s p : ByteArray) (w : World) :
    Calls Tryd.prog 27 #[.string s, .string p] w fun e w' => e = .returned (.tuple #[.string (cutB s p), .bool (p.toList.isPrefixOf s.toList)]) ∧ w' = w := by
  go_enter Tryd.func27, Tryd.ntmps27
  go_wp2_with (first | (go_at_call 39; refine (cutPrefix39 _ _ _).mono ?_; rintro e w' ⟨rfl, rfl⟩))
  go_ret2
  exact ⟨rfl, rfl⟩
theorem cutB_some {s p : ByteArray} {r : List UInt8} (h : cut p.toList s.toList = some r) : p.toList.isPrefixOf s.toList = true ∧ (cutB s p).toList = r ∧ (cutB s p).size ≤ s.size := by
  unfold cut at h
  split at h
  · rename_i hp
    injection h with h
    refine ⟨hp, ?_, ?_⟩
    · rw [cutB, if_pos hp, ext_toL, ← h]
      simp only [sub]
      rw [List.take_of_length_le (by rw [List.length_drop, toL_len]; omega), toL_len]
    · rw [cutB, if_pos hp, ByteArray.size_extract]; omega
  · cases h
theorem cutB_none {s p : ByteArray} (h : cut p.toList s.toList = none) : p.toList.isPrefixOf s.toList = false ∧ cutB s p = s := by
  unfold cut at h
  split at h
  · cases h
  · rename_i hp
    exact ⟨Bool.eq_false_iff.2 hp, if_neg hp⟩
end Go.Proofs.YtpmpjbnnjdpbnaaDoor
