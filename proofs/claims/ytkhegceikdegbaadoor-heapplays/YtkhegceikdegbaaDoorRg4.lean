/- A step of both heaps: Free of an address. -/
import Derived.Test.YtkhegceikdegbaaDoorRg3
namespace Go.Proofs.YtkhegceikdegbaaDoor
open Go.RowKit Go.Proofs.YtkhegceikdegbaaDoor.Hp
set_option maxRecDepth 100000 in
set_option maxHeartbeats 8000000 in
theorem step_3 (w0 w : World) (B : HB) (pb base N : Nat) (A : Nat → Kd) (wd : Nat → Int) (L : List Rb) (lv : Value) (n k v : Int) (hP : Pl w0 w B pb base N A wd L lv) (hS : Ps w0 B pb base) (hf : L.length ≤ 4000) :
    Calls Tryd.prog 11 #[B.ptr, .pointer (some ⟨pb, 0, none⟩), .agg #[.int .i64 3, .int .i64 n, .int .i64 k, .int .i64 v]] w fun e w' => StepP w0 B pb base N L e w' := by
  obtain ⟨wA, hwA⟩ : ∃ wA, wA = w.alloc (.cells #[.int .i64 3, .int .i64 n, .int .i64 k, .int .i64 v] 30) := ⟨_, rfl⟩
  have hPA : Pl w0 wA B pb base N A wd L lv := by rw [hwA]; exact hP.quiet ((Fr.refl _ w).alloc _)
  have hob : w.heap.size < wA.heap.size := by rw [hwA]; simp
  have hnb : ¬ B.mem w.heap.size := fun x => by have := (hS.mem _ x).2; have := hP.le; omega
  have o1 : wA.cell? ⟨w.heap.size, 1, none⟩ = some (.int .i64 n) := by rw [hwA, World.cell?_alloc_at _ _ _ _ rfl]; rfl
  have o2 : wA.cell? ⟨w.heap.size, 2, none⟩ = some (.int .i64 k) := by rw [hwA, World.cell?_alloc_at _ _ _ _ rfl]; rfl
  have o3 : wA.cell? ⟨w.heap.size, 3, none⟩ = some (.int .i64 v) := by rw [hwA, World.cell?_alloc_at _ _ _ _ rfl]; rfl
  have h00 : ¬ B.mem 0 := fun x => by have := hS.h0 0 x; omega
  have h01 : ¬ B.mem 1 := fun x => by have := hS.h0 1 x; omega
  have hle := hPA.le
  have HP := hide hPA
  have HS := hide hS
  clear hP hS o2 o3
  by_cases hx : ∃ c, c ∈ L ∧ (c.at_ : Int) = n
  · obtain ⟨c, hm, rfl⟩ := hx
    obtain ⟨i, hiL, hc'⟩ := List.mem_iff_getElem.1 hm
    have hc : L[i]? = some c := by rw [List.getElem?_eq_getElem hiL, hc']
    have hcr := (unhide HP).mt.room c hm
    have hfi := find_idx (unhide HP).mt hc
    have HCc := hide hc
    have HFi := hide hfi
    have HFr : Hid (∀ w', Fr (fun _ => False) wA w' → Calls Tryd.prog 17 #[.pointer (some ⟨B.p, 0, none⟩), .int .i64 c.at_] w' fun e w'' => e = .returned (.bool true) ∧ Fr B.mem w' w'' ∧ Vars w'' ∧ Inv N (freeA A c.at_) ∧ At w'' B N (hrOf (freeA A c.at_) wd)) := hide fun w' q => by
      have hq := (unhide HP).quiet q
      exact Free_to B N A wd c.at_ w' hq.at_ hq.inv hq.vars (unhide HS).h0 (by rw [hcr.1]; exact hcr.2)
    clear hcr hc hc' hfi hm hPA
    unfold HB.ptr
    go_enter Tryd.func11, Tryd.ntmps11
    go_wp2_with fail
    rw [← hwA]
    clear hwA
    generalize w.heap.size = ob at *
    go_region_law (first | (go_simp; go_at_call 17; refine (unhide HFr _ (by first | exact (Fr.refl _ _).drew | exact Fr.refl _ _)).mono ?_; rintro e w2 ⟨rfl, hF2, hV2, hI2, hA2⟩; have hW : Fr B.mem wA w2 := (by first | exact ((Fr.refl _ _).drew).trans hF2 | exact hF2); have p1 := cell_m hW hob hnb o1; have hs2 := hW.size; have HRf : Hid (∀ w', Fr (fun _ => False) w2 w' → Calls Tryd.prog 24 #[.pointer (some ⟨pb, 0, none⟩), .int .i64 c.at_] w' fun e w'' => RFreeP w' pb base N L i e w'') := hide (fun w' q => Free_ref pb base N c.at_ L lv w' (((unhide HP).refQ (unhide HS) hW).quiet q) (by have := q.size; omega) (by omega) i (unhide HFi) hiL); have HT : Hid (∀ w' e w3, Fr (fun _ => False) w2 w' → RFreeP w' pb base N L i e w3 → StepP w0 B pb base N L (.returned (.bool true)) w3) := hide (fun w' e w3 q hp => (by obtain ⟨lv', hq⟩ := (unhide HP).free (unhide HS) (unhide HCc) (hW.trans (q.mono fun _ x => x.elim)) (hV2.fr q id id) hI2 (hA2.quiet q) hp; exact ⟨rfl, _, _, _, _, hq, by simp; omega⟩)); clear hF2 hV2 hI2 hA2 hW) | (go_simp; go_at_call 24; refine (unhide HRf _ (by first | exact (Fr.refl _ _).drew | exact Fr.refl _ _)).mono ?_; intro e w3 hp; have he := hp.1; subst he; have HT2 := hide (unhide HT _ _ _ (by first | exact (Fr.refl _ _).drew | exact Fr.refl _ _) hp); clear hp))
    all_goals
      clear HT HRf HFr
      go_wp2
      go_ret
      exact unhide HT2
  · have hno : ∀ c ∈ L, (c.at_ : Int) ≠ n := fun c hc e => hx ⟨c, hc, e⟩
    have HFr : Hid (∀ w', Fr (fun _ => False) wA w' → Calls Tryd.prog 17 #[.pointer (some ⟨B.p, 0, none⟩), .int .i64 n] w' fun e w'' => e = .returned (.bool false) ∧ Fr B.mem w' w'' ∧ Vars w'' ∧ At w'' B N (hrOf A wd)) := hide fun w' q => by
      have hq := (unhide HP).quiet q
      exact Free_noI B N A wd n w' hq.at_ hq.inv hq.vars (unhide HS).h0 (no_room hq.mt hno)
    have HFi : Hid (findI L n 0 = -1) := hide (findI_none L 0 hno)
    clear hx hno hPA
    unfold HB.ptr
    go_enter Tryd.func11, Tryd.ntmps11
    go_wp2_with fail
    rw [← hwA]
    clear hwA
    generalize w.heap.size = ob at *
    go_region_law (first | (go_simp; go_at_call 17; refine (unhide HFr _ (by first | exact (Fr.refl _ _).drew | exact Fr.refl _ _)).mono ?_; rintro e w2 ⟨rfl, hF2, hV2, hA2⟩; have hW : Fr B.mem wA w2 := (by first | exact ((Fr.refl _ _).drew).trans hF2 | exact hF2); have p1 := cell_m hW hob hnb o1; have HP2 := hide ((unhide HP).heap (unhide HS) hW hV2 hA2); clear hF2 hV2 hA2 hW) | (go_simp; go_at_call 24; refine (Free_ref_no pb base N n L lv _ ((unhide HP2).ref.quiet (by first | exact (Fr.refl _ _).drew | exact Fr.refl _ _)) (unhide HFi)).mono ?_; rintro e w3 ⟨rfl, rfl⟩))
    all_goals
      have HT2 := hide (unhide HP2)
      clear HFr
      go_wp2
      go_ret
      refine ⟨rfl, A, wd, L, lv, ?_, Nat.le_add_right _ _⟩
      first | exact unhide HT2 | exact (unhide HT2).quiet (Fr.refl _ _).drew
end Go.Proofs.YtkhegceikdegbaaDoor
