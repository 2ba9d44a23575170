/- The document's heap: New, Free of what is no block; ints. -/
import Derived.Test.YtinmaogbfcmagaaDoorRf4
namespace Go.Proofs.YtinmaogbfcmagaaDoor
open Go.RowKit Go.Proofs.YtinmaogbfcmagaaDoor.Hp
set_option maxHeartbeats 4000000 in
theorem NewR_any (xw : Nat) (w : World) (h1 : 128 ≤ xw) (h2 : xw ≤ 1048576) : Calls Tryd.prog 25 #[.int .i64 xw] w fun e w' => e = .returned (.tuple #[.pointer (some ⟨w.heap.size, 0, none⟩), .bool true]) ∧ RefAt w' w.heap.size w'.heap.size (xw / 64) [] (.slice none 0 0) ∧ Fr (fun _ => False) w w' := by
  go_enter Tryd.func25, Tryd.ntmps25
  go_wp2
  go_ret2
  refine ⟨rfl, ⟨?_, ?_, ?_, ?_, ?_, ?_⟩, ?_⟩
  · rw [World.cell?_alloc_at _ _ _ _ rfl]; simp
  · rw [World.cell?_alloc_at _ _ _ _ rfl]; rfl
  · simp
  · have := World.ownsRow_nil (w.alloc (.cells #[.int .i64 (↑xw / 64), .slice none 0 0] 45)) (w.alloc (.cells #[.int .i64 (↑xw / 64), .slice none 0 0] 45)).heap.size 47 3
    exact this
  · simp
  · intro b hb; simp at hb
  · exact (Fr.refl _ w).alloc _
set_option maxRecDepth 100000 in
set_option maxHeartbeats 4000000 in
theorem ints_any (a1 a2 : Option Addr) (n c1 c2 : Nat) (f : Nat → Int) (w : World) (hn : n ≤ 100000)
    (h1 : ∀ j, j < n → ∃ b off, a1 = some ⟨b, off, none⟩ ∧ w.cell? ⟨b, off + j, none⟩ = some (.int .i64 (f j)))
    (h2 : ∀ j, j < n → ∃ b off, a2 = some ⟨b, off, none⟩ ∧ w.cell? ⟨b, off + j, none⟩ = some (.int .i64 (f j))) :
    Calls Tryd.prog 13 #[.slice a1 n c1, .slice a2 n c2] w fun e w' => e = .returned (.bool true) ∧ w' = w := by
  have H1 := hide h1
  have H2 := hide h2
  clear h1 h2
  go_enter Tryd.func13, Tryd.ntmps13
  go_wp2
  go_loop [14] (fun t => ∃ i : Nat, i ≤ n ∧ t = .int .i64 i) (fun t => n - (intOf t).toNat)
  case atStart => exact ⟨0, by omega, rfl⟩
  case round =>
    obtain ⟨i, hi, rfl⟩ := hrel
    by_cases hlt : i < n
    · obtain ⟨b1, o1, rfl, k1⟩ := unhide H1 i hlt
      obtain ⟨b2, o2, rfl, k2⟩ := unhide H2 i hlt
      generalize f i = z at *
      go_wp2
      go_round
      case rel => exact ⟨i + 1, by omega, by go_num⟩
      case measure => simp [intOf]; omega
    · go_wp2
      go_ret
      exact ⟨rfl, rfl⟩
end Go.Proofs.YtinmaogbfcmagaaDoor
