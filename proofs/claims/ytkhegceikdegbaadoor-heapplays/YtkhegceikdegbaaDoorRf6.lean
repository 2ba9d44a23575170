/- The document's heap: New, Free of what is no block; ints. -/
import Derived.Test.YtkhegceikdegbaaDoorRf5
namespace Go.Proofs.YtkhegceikdegbaaDoor
open Go.RowKit Go.Proofs.YtkhegceikdegbaaDoor.Hp
set_option maxHeartbeats 4000000 in
theorem Free_ref_no (pb base N : Nat) (x : Int) (L : List Rb) (lv : Value) (w : World) (h : RefAt w pb base N L lv) (hi : findI L x 0 = -1) :
    Calls Tryd.prog 24 #[.pointer (some ⟨pb, 0, none⟩), .int .i64 x] w fun e w' => e = .returned (.bool false) ∧ w' = w := by
  have HFi := hide (Find_any pb base N L lv x w h)
  rw [hi] at HFi
  clear h hi
  go_enter Tryd.func24, Tryd.ntmps24
  go_wp2_with fail
  refine (unhide HFi).mono ?_
  rintro e w2 ⟨rfl, rfl⟩
  go_wp2
  go_ret
  exact ⟨rfl, rfl⟩
theorem NewR_no (z : Int) (w : World) (hz : z < 128 ∨ 1048576 < z) : Calls Tryd.prog 10 #[.int .i64 z] w fun e w' => e = .returned (.tuple #[.pointer none, .bool false]) ∧ w' = w := by
  rcases hz with hz | hz
  · go_enter Tryd.func10, Tryd.ntmps10
    go_wp2
    go_ret2
    exact ⟨rfl, rfl⟩
  · have h1 : ¬ z < 128 := by omega
    go_enter Tryd.func10, Tryd.ntmps10
    go_wp2
    go_ret2
    exact ⟨rfl, rfl⟩
set_option maxHeartbeats 4000000 in
theorem NewR_any (xw : Nat) (w : World) (h1 : 128 ≤ xw) (h2 : xw ≤ 1048576) : Calls Tryd.prog 10 #[.int .i64 xw] w fun e w' => e = .returned (.tuple #[.pointer (some ⟨w.heap.size, 0, none⟩), .bool true]) ∧ RefAt w' w.heap.size w'.heap.size (xw / 64) [] (.slice none 0 0) ∧ Fr (fun _ => False) w w' := by
  go_enter Tryd.func10, Tryd.ntmps10
  go_wp2
  go_ret2
  refine ⟨rfl, ⟨?_, ?_, ?_, ?_, ?_, ?_⟩, ?_⟩
  · rw [World.cell?_alloc_at _ _ _ _ rfl]; simp
  · rw [World.cell?_alloc_at _ _ _ _ rfl]; rfl
  · simp
  · have := World.ownsRow_nil (w.alloc (.cells #[.int .i64 (↑xw / 64), .slice none 0 0] 58)) (w.alloc (.cells #[.int .i64 (↑xw / 64), .slice none 0 0] 58)).heap.size 61 3
    exact this
  · simp
  · intro b hb; simp at hb
  · exact (Fr.refl _ w).alloc _
set_option maxRecDepth 100000 in
set_option maxHeartbeats 4000000 in
theorem ints_any (a1 a2 : Option Addr) (n c1 c2 : Nat) (f : Nat → Int) (w : World) (hn : n ≤ 100000)
    (h1 : ∀ j, j < n → ∃ b off, a1 = some ⟨b, off, none⟩ ∧ w.cell? ⟨b, off + j, none⟩ = some (.int .i64 (f j)))
    (h2 : ∀ j, j < n → ∃ b off, a2 = some ⟨b, off, none⟩ ∧ w.cell? ⟨b, off + j, none⟩ = some (.int .i64 (f j))) :
    Calls Tryd.prog 26 #[.slice a1 n c1, .slice a2 n c2] w fun e w' => e = .returned (.bool true) ∧ w' = w := by
  have H1 := hide h1
  have H2 := hide h2
  clear h1 h2
  go_enter Tryd.func26, Tryd.ntmps26
  go_wp2
  go_loop [14] (fun t => ∃ i : Nat, i ≤ n ∧ t = .int .i64 i) (fun t => n - (intOf t).toNat)
  case atStart => exact ⟨0, by omega, rfl⟩
  case round =>
    obtain ⟨i, hi, rfl⟩ := hrel
    by_cases hlt : i < n
    · obtain ⟨b1, o1, rfl, k1⟩ := unhide H1 i hlt
      obtain ⟨b2, o2, rfl, k2⟩ := unhide H2 i hlt
      generalize f i = z at *
      go_wp2
      go_round
      case rel => exact ⟨i + 1, by omega, by go_num⟩
      case measure => simp [intOf]; omega
    · go_wp2
      go_ret
      exact ⟨rfl, rfl⟩
end Go.Proofs.YtkhegceikdegbaaDoor
