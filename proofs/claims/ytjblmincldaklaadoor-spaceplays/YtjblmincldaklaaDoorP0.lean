/- New at any number; both begin alike. -/
import Derived.Test.YtjblmincldaklaaDoorU6
namespace Go.Proofs.YtjblmincldaklaaDoor
open Go.RowKit Go.Proofs.YtjblmincldaklaaDoor.Hp
set_option maxHeartbeats 1000000 in
theorem New_no (x : Int) (w : World) (h : x < 128 ∨ 1048576 < x) : Calls Tryd.prog 20 #[.int .i64 x] w fun e w' => e = .returned (.pointer none) ∧ w = w' := by
  rcases h with h | h
  · go_enter Tryd.func20, Tryd.ntmps20
    go_wp2
    go_ret
    exact ⟨rfl, rfl⟩
  · have h2 : ¬ x < 128 := by omega
    go_enter Tryd.func20, Tryd.ntmps20
    go_wp2
    go_ret
    exact ⟨rfl, rfl⟩
set_option maxHeartbeats 1000000 in
theorem SNew_no (x : Int) (w : World) (h : x < 128 ∨ 1048576 < x) : Calls Tryd.prog 8 #[.int .i64 x] w fun e w' => e = .returned (.pointer none) ∧ w = w' := by
  have HN := hide (New_no x w h)
  clear h
  go_enter Tryd.func8, Tryd.ntmps8
  go_wp2_with (first | (go_at_call 20; refine (unhide HN).mono ?_; rintro e w1 ⟨rfl, hw⟩; have HW := hide hw; clear hw))
  go_ret
  exact ⟨rfl, unhide HW⟩
set_option maxHeartbeats 1000000 in
theorem SNew_big (x : Nat) (w : World) (h1 : 128 ≤ x) (h2 : x ≤ 1048576) : Calls Tryd.prog 8 #[.int .i64 x] w fun e w' => ∃ p, e = .returned (.pointer (some ⟨p, 0, none⟩)) ∧ Fr (fun _ => False) w w' := by
  have HN := hide (New_any x w h1 h2)
  go_enter Tryd.func8, Tryd.ntmps8
  go_wp2_with (first | (go_at_call 20; refine (unhide HN).mono ?_; rintro e w1 ⟨B, rfl, hB, hF, hA⟩; have HW := hide hF; unfold HB.ptr; clear hB hF hA))
  go_ret
  exact ⟨_, rfl, (unhide HW).alloc _⟩
/-- The two at the beginning. -/
theorem Duo_start {w0 w1 w2 : World} {B : HB} {p N : Nat} (hL : Lw w0 w1 B N p (emptyA N) (fun _ => 0) (.slice none 0 0) [] 0) (hR : RefAt w2 w1.heap.size w2.heap.size N [] (.slice none 0 0)) (hF : Fr (fun _ => False) w1 w2) (h2 : 2 ≤ w0.heap.size) :
    DuoP w0 (w2.alloc (.cells #[.pointer (some ⟨w1.heap.size, 0, none⟩), .slice none 0 0, .slice none 0 0, .slice none 0 0, .int .i64 0] 33)) B p w2.heap.size w1.heap.size (w2.heap.size + 1) N 0 := by
  have hl2 := hL.quiet hF
  have ha : Fr (fun _ => False) w2 (w2.alloc (.cells #[.pointer (some ⟨w1.heap.size, 0, none⟩), .slice none 0 0, .slice none 0 0, .slice none 0 0, .int .i64 0] 33)) := (Fr.refl _ w2).alloc _
  have hl3 := hl2.quiet ha
  have z1 := hL.far.size
  have z2 := hF.size
  have hlt : w1.heap.size < w2.heap.size := World.block_lt_of_cell? w2 ⟨w1.heap.size, 0, none⟩ hR.cN
  have hR2 := hR.quiet ha
  refine ⟨emptyA N, fun _ => 0, .slice none 0 0, [], 0, [], .slice none 0 0, [], .slice none 0 0, [], .slice none 0 0, .slice none 0 0, ⟨hl3, ⟨?_, ⟨?_, ?_⟩, ⟨?_, ?_⟩, ⟨?_, ?_⟩, ⟨?_, ?_⟩, ⟨hR2.cN, hR2.cL, hR2.fL, World.ownsRow_nil _ _ _ _, hR2.few, hR2.ats⟩, World.ownsRow_nil _ _ _ _, World.ownsRow_nil _ _ _ _, World.ownsRow_nil _ _ _ _, ⟨by omega, by omega, by omega, by omega, by omega, by simp⟩, by simp, by simp, by simp, by simp [Value.ownBlock], by simp⟩, fun k hk ht => ?_, ⟨by omega, by omega⟩⟩, ⟨⟨by simp, by simp, fun x hx => ?_⟩, fun x => ?_, by simp, by simp, by simp⟩, by simp, by simp, by simp, by simp, by omega, by simp⟩
  · rw [World.cell?_alloc_at _ _ _ _ rfl]; rfl
  · rw [World.cell?_alloc_at _ _ _ _ rfl]; rfl
  · exact World.frozen?_alloc_at _ _ _ _ rfl
  · rw [World.cell?_alloc_at _ _ _ _ rfl]; rfl
  · exact World.frozen?_alloc_at _ _ _ _ rfl
  · rw [World.cell?_alloc_at _ _ _ _ rfl]; rfl
  · exact World.frozen?_alloc_at _ _ _ _ rfl
  · rw [World.cell?_alloc_at _ _ _ _ rfl]; rfl
  · exact World.frozen?_alloc_at _ _ _ _ rfl
  · have hk1 := (hL.sp.lt hk).2
    rcases ht with rfl | rfl | ht | ht | ht | ht | ⟨b, hb, _⟩
    · omega
    · omega
    · simp [Value.ownBlock] at ht
    · simp [Value.ownBlock] at ht
    · simp [Value.ownBlock] at ht
    · simp [Value.ownBlock] at ht
    · simp at hb
  · exact absurd (show roomN (emptyA N) x = 0 by unfold roomN emptyA; split <;> rfl) hx
  · constructor
    · intro hx
      exact absurd (show roomN (emptyA N) x = 0 by unfold roomN emptyA; split <;> rfl) hx
    · rintro ⟨b, hb, _⟩
      simp at hb
end Go.Proofs.YtjblmincldaklaaDoor
