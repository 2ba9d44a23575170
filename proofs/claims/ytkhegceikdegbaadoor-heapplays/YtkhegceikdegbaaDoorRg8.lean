/- A step of both heaps: Store at an address. -/
import Derived.Test.YtkhegceikdegbaaDoorRg6
namespace Go.Proofs.YtkhegceikdegbaaDoor
open Go.RowKit Go.Proofs.YtkhegceikdegbaaDoor.Hp
set_option maxRecDepth 100000 in
set_option maxHeartbeats 8000000 in
theorem step_5no (w0 w : World) (B : HB) (pb base N : Nat) (A : Nat → Kd) (wd : Nat → Int) (L : List Rb) (lv : Value) (n k v : Int) (hP : Pl w0 w B pb base N A wd L lv) (hS : Ps w0 B pb base) (hno : ∀ c ∈ L, (c.at_ : Int) ≠ n) :
    Calls Tryd.prog 11 #[B.ptr, .pointer (some ⟨pb, 0, none⟩), .agg #[.int .i64 5, .int .i64 n, .int .i64 k, .int .i64 v]] w fun e w' => StepP w0 B pb base N L e w' := by
  obtain ⟨wA, hwA⟩ : ∃ wA, wA = w.alloc (.cells #[.int .i64 5, .int .i64 n, .int .i64 k, .int .i64 v] 30) := ⟨_, rfl⟩
  have hPA : Pl w0 wA B pb base N A wd L lv := by rw [hwA]; exact hP.quiet ((Fr.refl _ w).alloc _)
  have hob : w.heap.size < wA.heap.size := by rw [hwA]; simp
  have hnb : ¬ B.mem w.heap.size := fun x => by have := (hS.mem _ x).2; have := hP.le; omega
  have o1 : wA.cell? ⟨w.heap.size, 1, none⟩ = some (.int .i64 n) := by rw [hwA, World.cell?_alloc_at _ _ _ _ rfl]; rfl
  have o2 : wA.cell? ⟨w.heap.size, 2, none⟩ = some (.int .i64 k) := by rw [hwA, World.cell?_alloc_at _ _ _ _ rfl]; rfl
  have o3 : wA.cell? ⟨w.heap.size, 3, none⟩ = some (.int .i64 v) := by rw [hwA, World.cell?_alloc_at _ _ _ _ rfl]; rfl
  have h00 : ¬ B.mem 0 := fun x => by have := hS.h0 0 x; omega
  have h01 : ¬ B.mem 1 := fun x => by have := hS.h0 1 x; omega
  have hle := hPA.le
  have HP := hide hPA
  have HS := hide hS
  have HN := hide (Find_any pb base N L lv n wA hPA.ref)
  rw [findI_none L 0 hno] at HN
  have HK : Hid (¬ (0 ≤ k ∧ k < (roomI A n : Int))) := hide (by rw [no_room hPA.mt hno]; omega)
  clear hP hS hPA hno
  unfold HB.ptr
  go_enter Tryd.func11, Tryd.ntmps11
  go_wp2_with fail
  rw [← hwA]
  clear hwA
  generalize w.heap.size = ob at *
  refine (unhide HN).mono ?_
  rintro e w1 ⟨rfl, rfl⟩
  clear HN
  go_wp2_with fail
  go_quiet (fail)
  all_goals
    have hQ : Fr (fun _ => False) w1 (w1.drewN nq) := (Fr.refl _ _).drewN _
    generalize w1.drewN nq = wC at *
    have hPB := (unhide HP).quiet hQ
    have e1 := cell_q hQ hob o1
    have e3 := cell_q hQ hob o2
    have e4 := cell_q hQ hob o3
    have hlo : ob < wC.heap.size := Nat.lt_of_lt_of_le hob hQ.size
    have HStC : Hid (∀ w', Fr (fun _ => False) wC w' → Calls Tryd.prog 16 #[.pointer (some ⟨B.p, 0, none⟩), .int .i64 n, .int .i64 k, .int .i64 v] w' fun e w'' => e = .returned (.bool false) ∧ Fr B.mem w' w'' ∧ At w'' B N (hrOf A wd)) := hide fun w' qq => Store_no B N A wd n k v w' (hPB.at_.quiet qq) hPB.inv (unhide HK)
    have HT : Hid (∀ w'', Fr B.mem wC w'' → At w'' B N (hrOf A wd) → StepP w0 B pb base N L (.returned (.bool true)) w'') := hide fun w'' k1 k2 => ⟨rfl, _, _, _, _, hPB.heap (unhide HS) k1 (hPB.vars.fr k1 h00 h01) k2, by omega⟩
    clear hPB hQ o1 o2 o3
    go_wp2_with fail
    refine (unhide HStC _ (Fr.refl _ _)).mono ?_
    rintro e w2 ⟨rfl, hF2, hA2⟩
    have HT2 := hide (unhide HT _ hF2 hA2)
    clear hF2 hA2 HStC
    go_wp2
    go_ret
    exact unhide HT2
end Go.Proofs.YtkhegceikdegbaaDoor
