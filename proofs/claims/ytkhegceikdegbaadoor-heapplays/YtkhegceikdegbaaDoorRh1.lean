/- HeapPlays, whole. -/
import Derived.Test.YtkhegceikdegbaaDoorRg7
import Derived.Test.YtkhegceikdegbaaDoorRg9
namespace Go.Proofs.YtkhegceikdegbaaDoor
open Go.RowKit Go.Proofs.YtkhegceikdegbaaDoor.Hp
theorem step_all : StepAll := by
  intro w0 w B pb base N A wd L lv kd n k v hP hS h2 h64 hl hn _
  by_cases h1 : kd = 1
  · subst h1; exact step_1 w0 w B pb base N A wd L lv n k v hP hS h2 h64 hl
  by_cases h3 : kd = 2
  · subst h3; exact step_2 w0 w B pb base N A wd L lv n k v hP hS hl hn
  by_cases h4 : kd = 3
  · subst h4; exact step_3 w0 w B pb base N A wd L lv n k v hP hS hl
  by_cases h5 : kd = 4
  · subst h5; exact step_4 w0 w B pb base N A wd L lv n k v hP hS hl hn
  by_cases h6 : kd = 5
  · subst h6
    by_cases hx : ∃ c, c ∈ L ∧ (c.at_ : Int) = n
    · exact step_5yes w0 w B pb base N A wd L lv n k v hP hS hl hx
    · exact step_5no w0 w B pb base N A wd L lv n k v hP hS (fun c hc e => hx ⟨c, hc, e⟩)
  · exact step_0 w0 w B pb base N A wd L lv kd n k v hP ⟨h1, h3, h4, h5, h6⟩
theorem New_over (x : Int) (w : World) (h : 1048576 < x) : Calls Tryd.prog 9 #[.int .i64 x] w fun e w' => e = .returned (.pointer none) ∧ w' = w := by
  have h1 : ¬ x < 128 := by omega
  go_enter Tryd.func9, Tryd.ntmps9
  go_wp2
  go_ret
  exact ⟨rfl, rfl⟩
set_option maxRecDepth 100000 in
set_option maxHeartbeats 4000000 in
theorem plays_none (z : Int) (a0 : Option Addr) (len0 cap0 : Nat) (w : World) (hV : Vars w) (hz : z < 128 ∨ 1048576 < z) :
    Calls Tryd.prog 3 #[.int .i64 z, .slice a0 len0 cap0] w fun e w' => e = .returned (.bool true) ∧ Below w.heap.size w w' := by
  have HAn := hide (anchor_any w hV)
  have HN : Hid (∀ w', Calls Tryd.prog 9 #[.int .i64 z] w' fun e w'' => e = .returned (.pointer none) ∧ w'' = w') := hide fun w' => by
    rcases hz with h | h
    · exact New_none z w' h
    · exact New_over z w' h
  have HR : Hid (∀ w', Calls Tryd.prog 10 #[.int .i64 z] w' fun e w'' => e = .returned (.tuple #[.pointer none, .bool false]) ∧ w'' = w') := hide fun w' => NewR_no z w' hz
  clear hV hz
  go_enter Tryd.func3, Tryd.ntmps3
  go_wp2_with fail
  refine (unhide HAn).mono ?_
  rintro e w1 ⟨rfl, hF1, _⟩
  have HB := hide (hF1.below (n := w.heap.size) (Nat.le_refl _) (fun _ x => x.elim))
  clear hF1 HAn
  go_wp2_with fail
  refine (unhide HN w1).mono ?_
  rintro e w2 ⟨rfl, rfl⟩
  go_wp2_with fail
  refine (unhide HR _).mono ?_
  rintro e w3 ⟨rfl, rfl⟩
  go_wp2
  go_ret
  exact ⟨rfl, unhide HB⟩
set_option maxRecDepth 100000 in
set_option maxHeartbeats 4000000 in
theorem plays_past (xw : Nat) (a0 : Option Addr) (len0 cap0 : Nat) (w : World) (hV : Vars w) (h1 : 128 ≤ xw) (h2 : xw ≤ 1048576) (hz : 4096 < xw ∨ (xw ≤ 4096 ∧ 200 < len0)) :
    Calls Tryd.prog 3 #[.int .i64 xw, .slice a0 len0 cap0] w fun e w' => e = .returned (.bool true) ∧ Below w.heap.size w w' := by
  have HAn := hide (anchor_any w hV)
  clear hV
  rcases hz with hz | ⟨hz1, hz⟩
  all_goals
    go_enter Tryd.func3, Tryd.ntmps3
    go_wp2_with fail
    refine (unhide HAn).mono ?_
    rintro e w1 ⟨rfl, hF1, _⟩
    have HN := hide (New_any xw w1 h1 h2)
    have HF1 := hide hF1
    clear hF1 HAn
    go_wp2_with fail
    refine (unhide HN).mono ?_
    rintro e w2 ⟨B, rfl, _, hF2, _⟩
    have HR := hide (NewR_any xw w2 h1 h2)
    have HF2 := hide ((unhide HF1).trans hF2)
    clear hF2 HN HF1
    unfold HB.ptr
    go_wp2_with fail
    refine (unhide HR).mono ?_
    rintro e w3 ⟨rfl, _, hF3⟩
    have HB3 := hide (((unhide HF2).trans hF3).below (n := w.heap.size) (Nat.le_refl _) (fun _ x => x.elim))
    clear hF3 HR HF2
    go_wp2
    go_ret
    exact ⟨rfl, unhide HB3⟩
theorem plays_w (x : Int) (a0 : Option Addr) (len0 cap0 : Nat) (f : Nat → Int × Int × Int × Int) (w : World) (hV : Vars w)
    (hr : ∀ j, (-9223372036854775808 ≤ (f j).2.1 ∧ (f j).2.1 < 9223372036854775808) ∧ (-9223372036854775808 ≤ (f j).2.2.1 ∧ (f j).2.2.1 < 9223372036854775808))
    (hz : ∀ j, j < len0 → ∃ b off, a0 = some ⟨b, off, none⟩ ∧ b < w.heap.size ∧ w.cell? ⟨b, off + j * 4, none⟩ = some (.int .i64 (f j).1) ∧ w.cell? ⟨b, off + j * 4 + 1, none⟩ = some (.int .i64 (f j).2.1) ∧ w.cell? ⟨b, off + j * 4 + 2, none⟩ = some (.int .i64 (f j).2.2.1) ∧ w.cell? ⟨b, off + j * 4 + 3, none⟩ = some (.int .i64 (f j).2.2.2)) :
    Calls Tryd.prog 3 #[.int .i64 x, .slice a0 len0 cap0] w fun e w' => e = .returned (.bool true) ∧ Below w.heap.size w w' := by
  by_cases h : x < 128 ∨ 1048576 < x
  · exact plays_none x a0 len0 cap0 w hV h
  · obtain ⟨y, rfl⟩ : ∃ y : Nat, x = (y : Int) := ⟨x.toNat, by omega⟩
    by_cases h2 : 4096 < y ∨ 200 < len0
    · exact plays_past y a0 len0 cap0 w hV (by omega) (by omega) (by omega)
    · exact plays_big step_all y (y / 64) a0 len0 cap0 f w hV (by omega) (by omega) rfl (by omega) hr hz
end Go.Proofs.YtkhegceikdegbaaDoor
