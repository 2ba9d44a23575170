/- The document's heap: New, Free of what is no block; ints. -/
import Derived.Test.YtjblmincldaklaaDoorRf4
namespace Go.Proofs.YtjblmincldaklaaDoor
open Go.RowKit Go.Proofs.YtjblmincldaklaaDoor.Hp
set_option maxHeartbeats 4000000 in
theorem NewR_any (xw : Nat) (w : World) (h1 : 128 ≤ xw) (h2 : xw ≤ 1048576) : Calls Tryd.prog 9 #[.int .i64 xw] w fun e w' => e = .returned (.tuple #[.pointer (some ⟨w.heap.size, 0, none⟩), .bool true]) ∧ RefAt w' w.heap.size w'.heap.size (xw / 64) [] (.slice none 0 0) ∧ Fr (fun _ => False) w w' := by
  go_enter Tryd.func9, Tryd.ntmps9
  go_wp2
  go_ret2
  refine ⟨rfl, ⟨?_, ?_, ?_, ?_, ?_, ?_⟩, ?_⟩
  · rw [World.cell?_alloc_at _ _ _ _ rfl]; simp
  · rw [World.cell?_alloc_at _ _ _ _ rfl]; rfl
  · simp
  · have := World.ownsRow_nil (w.alloc (.cells #[.int .i64 (↑xw / 64), .slice none 0 0] 59)) (w.alloc (.cells #[.int .i64 (↑xw / 64), .slice none 0 0] 59)).heap.size 79 3
    exact this
  · simp
  · intro b hb; simp at hb
  · exact (Fr.refl _ w).alloc _
end Go.Proofs.YtjblmincldaklaaDoor
