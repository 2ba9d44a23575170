/- A step of both heaps: Store. -/
import Derived.Test.YtkhegceikdegbaaDoorRg4
namespace Go.Proofs.YtkhegceikdegbaaDoor
open Go.RowKit Go.Proofs.YtkhegceikdegbaaDoor.Hp
theorem Store_no (B : HB) (n : Nat) (A : Nat → Kd) (wd : Nat → Int) (x k v : Int) (w : World) (h : At w B n (hrOf A wd)) (hI : Inv n A) (hk : ¬ (0 ≤ k ∧ k < roomI A x)) :
    Calls Tryd.prog 16 #[B.ptr, .int .i64 x, .int .i64 k, .int .i64 v] w fun e w' => e = .returned (.bool false) ∧ Fr B.mem w w' ∧ At w' B n (hrOf A wd) := by
  refine (Store_any B n (hrOf A wd) x k v w h (fine_of wd hI) (fits_of wd hI)).mono ?_
  rintro e w' ⟨rfl, hF, hA⟩
  have hin : inB n (hrOf A wd) x k = false := by
    unfold inB
    rw [roomR_I wd hI]
    by_cases h0 : 0 ≤ k
    · rw [decide_eq_false (show ¬ k < (roomI A x : Int) from fun e => hk ⟨h0, e⟩), Bool.and_false]
    · rw [decide_eq_false h0, Bool.false_and]
  refine ⟨ret_bool hin, hF, ?_⟩
  unfold storeH at hA
  rw [hin] at hA
  exact hA
set_option maxRecDepth 100000 in
set_option maxHeartbeats 8000000 in
theorem step_0 (w0 w : World) (B : HB) (pb base N : Nat) (A : Nat → Kd) (wd : Nat → Int) (L : List Rb) (lv : Value) (kd n k v : Int) (hP : Pl w0 w B pb base N A wd L lv) (hd : kd ≠ 1 ∧ kd ≠ 2 ∧ kd ≠ 3 ∧ kd ≠ 4 ∧ kd ≠ 5) :
    Calls Tryd.prog 11 #[B.ptr, .pointer (some ⟨pb, 0, none⟩), .agg #[.int .i64 kd, .int .i64 n, .int .i64 k, .int .i64 v]] w fun e w' => StepP w0 B pb base N L e w' := by
  obtain ⟨d1, d2, d3, d4, d5⟩ := hd
  have HT : Hid (∀ w', Fr (fun _ => False) w w' → StepP w0 B pb base N L (.returned (.bool true)) w') := hide fun w' q => ⟨rfl, _, _, _, _, hP.quiet q, by omega⟩
  clear hP
  unfold HB.ptr
  go_enter Tryd.func11, Tryd.ntmps11
  go_wp2
  go_ret
  exact unhide HT _ ((Fr.refl _ w).alloc _)
end Go.Proofs.YtkhegceikdegbaaDoor
