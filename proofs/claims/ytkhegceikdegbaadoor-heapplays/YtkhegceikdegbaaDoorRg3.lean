/- A step of both heaps: Free. -/
import Derived.Test.YtkhegceikdegbaaDoorRg2
namespace Go.Proofs.YtkhegceikdegbaaDoor
open Go.RowKit Go.Proofs.YtkhegceikdegbaaDoor.Hp
theorem find_idx {A : Nat → Kd} {L : List Rb} (m : Match A L) {i : Nat} {c : Rb} (hc : L[i]? = some c) : findI L (c.at_ : Int) 0 = i := by
  have h0 := findI_some L 0 c (List.mem_of_getElem? hc) rfl
  obtain ⟨j, b, h1, h2, h3⟩ := findI_at L 0 h0
  rw [h1]
  have e : b.at_ = c.at_ := by omega
  have hs := m.sorted
  obtain ⟨hi, ei⟩ := List.getElem?_eq_some_iff.1 hc
  obtain ⟨hj, ej⟩ := List.getElem?_eq_some_iff.1 h2
  rcases Nat.lt_trichotomy i j with o | o | o
  · have := List.pairwise_iff_getElem.1 hs i j hi hj o
    rw [ei, ej] at this; omega
  · omega
  · have := List.pairwise_iff_getElem.1 hs j i hj hi o
    rw [ei, ej] at this; omega
theorem Free_noI (B : HB) (n : Nat) (A : Nat → Kd) (wd : Nat → Int) (x : Int) (w : World) (h : At w B n (hrOf A wd)) (hI : Inv n A) (hV : Vars w) (h0 : ∀ k, B.mem k → 2 ≤ k) (hx : roomI A x = 0) :
    Calls Tryd.prog 17 #[B.ptr, .int .i64 x] w fun e w' => e = .returned (.bool false) ∧ Fr B.mem w w' ∧ Vars w' ∧ At w' B n (hrOf A wd) := by
  have h00 : ¬ B.mem 0 := fun x => by have := h0 0 x; omega
  have h01 : ¬ B.mem 1 := fun x => by have := h0 1 x; omega
  refine (Free_any B n A wd x w h hI).mono ?_
  rintro e w' ⟨rfl, hF, hA⟩
  refine ⟨ret_bool (by simp [hx]), hF, hV.fr hF h00 h01, ?_⟩
  unfold freeI at hA
  rw [if_pos hx] at hA
  exact hA
theorem no_room {A : Nat → Kd} {L : List Rb} (m : Match A L) {x : Int} (h : ∀ c ∈ L, (c.at_ : Int) ≠ x) : roomI A x = 0 := by
  unfold roomI
  split
  · rename_i h0
    apply Classical.byContradiction
    intro hn
    obtain ⟨b, hb, e⟩ := m.all _ hn
    exact h b hb (by omega)
  · rfl
set_option maxRecDepth 100000 in
set_option maxHeartbeats 8000000 in
theorem step_2 (w0 w : World) (B : HB) (pb base N : Nat) (A : Nat → Kd) (wd : Nat → Int) (L : List Rb) (lv : Value) (n k v : Int) (hP : Pl w0 w B pb base N A wd L lv) (hS : Ps w0 B pb base) (hf : L.length ≤ 4000) (hn : -9223372036854775808 ≤ n ∧ n < 9223372036854775808) :
    Calls Tryd.prog 11 #[B.ptr, .pointer (some ⟨pb, 0, none⟩), .agg #[.int .i64 2, .int .i64 n, .int .i64 k, .int .i64 v]] w fun e w' => StepP w0 B pb base N L e w' := by
  obtain ⟨wA, hwA⟩ : ∃ wA, wA = w.alloc (.cells #[.int .i64 2, .int .i64 n, .int .i64 k, .int .i64 v] 30) := ⟨_, rfl⟩
  have hPA : Pl w0 wA B pb base N A wd L lv := by rw [hwA]; exact hP.quiet ((Fr.refl _ w).alloc _)
  have hob : w.heap.size < wA.heap.size := by rw [hwA]; simp
  have hnb : ¬ B.mem w.heap.size := fun x => by have := (hS.mem _ x).2; have := hP.le; omega
  have o1 : wA.cell? ⟨w.heap.size, 1, none⟩ = some (.int .i64 n) := by rw [hwA, World.cell?_alloc_at _ _ _ _ rfl]; rfl
  have o2 : wA.cell? ⟨w.heap.size, 2, none⟩ = some (.int .i64 k) := by rw [hwA, World.cell?_alloc_at _ _ _ _ rfl]; rfl
  have o3 : wA.cell? ⟨w.heap.size, 3, none⟩ = some (.int .i64 v) := by rw [hwA, World.cell?_alloc_at _ _ _ _ rfl]; rfl
  have h00 : ¬ B.mem 0 := fun x => by have := hS.h0 0 x; omega
  have h01 : ¬ B.mem 1 := fun x => by have := hS.h0 1 x; omega
  have hle := hPA.le
  have HP := hide hPA
  have HS := hide hS
  obtain ⟨ao, cp, rfl, hg⟩ := hPA.ref.form
  have cL := hPA.ref.cL
  have HN := hide (nth_ref pb base N n L _ wA hPA.ref hn)
  clear hP hS hPA o2 o3
  by_cases hd : L.length = 0 ∨ n < 0
  · rw [if_pos hd] at HN
    have HT2 : Hid (StepP w0 B pb base N L (.returned (.bool true)) wA) := hide ⟨rfl, _, _, _, _, unhide HP, by omega⟩
    unfold HB.ptr
    go_enter Tryd.func11, Tryd.ntmps11
    go_wp2_with fail
    rw [← hwA]
    clear hwA
    generalize w.heap.size = ob at *
    refine (unhide HN).mono ?_
    rintro e w1 ⟨rfl, rfl⟩
    clear HN
    go_wp2
    go_ret
    exact unhide HT2
  · rw [if_neg hd] at HN
    have hl0 : 0 < L.length := by omega
    obtain ⟨i, hi⟩ : ∃ i : Nat, n % (L.length : Int) = i := ⟨(n % (L.length : Int)).toNat, by have := Int.emod_nonneg n (show (L.length : Int) ≠ 0 by omega); omega⟩
    have hiL : i < L.length := by have := Int.emod_lt_of_pos n (show (0 : Int) < (L.length : Int) by omega); omega
    rw [hi] at HN
    obtain ⟨g, hg⟩ := hg hl0
    subst hg
    obtain ⟨c, hc⟩ : ∃ c, L[i]? = some c := ⟨L[i], by simp [hiL]⟩
    obtain ⟨c0, c1, c2⟩ := (unhide HP).ref.cells hc
    have hcr := (unhide HP).mt.room c (List.mem_of_getElem? hc)
    have HFr := hide (Free_to B N A wd c.at_ wA (unhide HP).at_ (unhide HP).inv (unhide HP).vars (unhide HS).h0 (by rw [hcr.1]; exact hcr.2))
    have hfi := find_idx (unhide HP).mt hc
    have HCc := hide hc
    have HFi := hide hfi
    unfold HB.ptr at HFr
    clear hcr hc hfi hi hd
    unfold HB.ptr
    go_enter Tryd.func11, Tryd.ntmps11
    go_wp2_with fail
    rw [← hwA]
    clear hwA
    generalize w.heap.size = ob at *
    refine (unhide HN).mono ?_
    rintro e w1 ⟨rfl, rfl⟩
    clear HN
    go_wp2_with fail
    refine (unhide HFr).mono ?_
    rintro e w2 ⟨rfl, hF2, hV2, hI2, hA2⟩
    have hs2 := hF2.size
    have HRf := hide (Free_ref pb base N c.at_ L _ w2 ((unhide HP).refQ (unhide HS) hF2) (by omega) (by omega) i (unhide HFi) hiL)
    have HT : Hid (∀ e w3, RFreeP w2 pb base N L i e w3 → StepP w0 B pb base N L (.returned (.bool true)) w3) := hide fun e w3 hp => by
      obtain ⟨lv', hq⟩ := (unhide HP).free (unhide HS) (unhide HCc) hF2 hV2 hI2 hA2 hp
      exact ⟨rfl, _, _, _, _, hq, by simp; omega⟩
    clear HFr hF2 hV2 hI2 hA2
    go_wp2_with fail
    refine (unhide HRf).mono ?_
    intro e w3 hp
    have HT2 := hide (unhide HT _ _ hp)
    have he := hp.1
    subst he
    clear hp HT HRf
    go_wp2
    go_ret
    exact unhide HT2
end Go.Proofs.YtkhegceikdegbaaDoor
