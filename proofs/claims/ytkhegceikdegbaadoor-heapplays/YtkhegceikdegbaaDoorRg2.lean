/- A step of both heaps. -/
import Derived.Test.YtkhegceikdegbaaDoorRg1
namespace Go.Proofs.YtkhegceikdegbaaDoor
open Go.RowKit Go.Proofs.YtkhegceikdegbaaDoor.Hp
def StepP (w0 : World) (B : HB) (pb base N : Nat) (L : List Rb) (e : Ending) (w' : World) : Prop :=
  e = .returned (.bool true) ∧ ∃ A' wd' L' lv', Pl w0 w' B pb base N A' wd' L' lv' ∧ L'.length ≤ L.length + 1
theorem Ps.h0 {w0 : World} {B : HB} {pb base : Nat} (h : Ps w0 B pb base) : ∀ k, B.mem k → 2 ≤ k := fun k hk => by have := (h.mem k hk).1; have := h.two; omega
theorem Pl.refQ {w0 w w1 : World} {B : HB} {pb base N : Nat} {A : Nat → Kd} {wd : Nat → Int} {L : List Rb} {lv : Value} (hS : Ps w0 B pb base) (h : Pl w0 w B pb base N A wd L lv) (hF : Fr B.mem w w1) : RefAt w1 pb base N L lv :=
  h.ref.fr hF hS.npb (fun g hg hb => by have := (hS.mem g hb).2; have := (h.ref.own.lt g hg).1; omega)
theorem Alloc_ref_to (pb base N : Nat) (z : Int) (L : List Rb) (lv : Value) (A A1 : Nat → Kd) (a : Nat) (w : World) (h : RefAt w pb base N L lv) (hb : base ≤ w.heap.size) (hI : Inv N A) (hM : Match A L) (hN1 : 1 ≤ N) (hN : N ≤ 64) (hf : L.length ≤ 5000) (h1 : 1 ≤ z) (h2 : z ≤ 16448) (g : Goes N A z.toNat a A1) :
    Calls Tryd.prog 22 #[.pointer (some ⟨pb, 0, none⟩), .int .i64 z] w fun e w' => e = .returned (.tuple #[.int .i64 (a : Int), .bool true]) ∧ AddP w pb base N a (roomOfM z.toNat) L (.returned (.int .i64 (a : Int))) w' := by
  refine (Alloc_ref pb base N z L lv A w h hb hI hM hN1 hN hf).mono ?_
  rintro e w' (⟨_, _, ⟨a', A', g', rfl, hA⟩ | ⟨hn, _⟩⟩ | ⟨hn, _⟩)
  · obtain ⟨rfl, rfl⟩ := g.det g'
    exact ⟨rfl, hA⟩
  · exact absurd hn g.not
  · exact absurd ⟨h1, h2⟩ hn
theorem Alloc_ref_no (pb base N : Nat) (z : Int) (L : List Rb) (lv : Value) (A : Nat → Kd) (w : World) (h : RefAt w pb base N L lv) (hb : base ≤ w.heap.size) (hI : Inv N A) (hM : Match A L) (hN1 : 1 ≤ N) (hN : N ≤ 64) (hf : L.length ≤ 5000) (hn : z < 1 ∨ 16448 < z ∨ NoPlace N A z.toNat) :
    Calls Tryd.prog 22 #[.pointer (some ⟨pb, 0, none⟩), .int .i64 z] w fun e w' => e = .returned (.tuple #[.int .i64 0, .bool false]) ∧ Fr (fun _ => False) w w' := by
  refine (Alloc_ref pb base N z L lv A w h hb hI hM hN1 hN hf).mono ?_
  rintro e w' (⟨h1, h2, ⟨a', A', g', rfl, hA⟩ | ⟨_, he, hF⟩⟩ | ⟨_, he, hF⟩)
  · rcases hn with hn | hn | hn
    · omega
    · omega
    · exact absurd hn g'.not
  · exact ⟨he, hF⟩
  · exact ⟨he, hF⟩
theorem cell_m {w w' : World} {B : HB} {b i : Nat} {u : Value} (k : Fr B.mem w w') (hb : b < w.heap.size) (hn : ¬ B.mem b) (h : w.cell? ⟨b, i, none⟩ = some u) : w'.cell? ⟨b, i, none⟩ = some u :=
  (World.cell?_of_block (w := w) (a := ⟨b, i, none⟩) (k.block b hb hn)).trans h
set_option maxRecDepth 100000 in
set_option maxHeartbeats 8000000 in
theorem step_1 (w0 w : World) (B : HB) (pb base N : Nat) (A : Nat → Kd) (wd : Nat → Int) (L : List Rb) (lv : Value) (n k v : Int) (hP : Pl w0 w B pb base N A wd L lv) (hS : Ps w0 B pb base) (hN1 : 2 ≤ N) (hN : N ≤ 64) (hf : L.length ≤ 4000) :
    Calls Tryd.prog 11 #[B.ptr, .pointer (some ⟨pb, 0, none⟩), .agg #[.int .i64 1, .int .i64 n, .int .i64 k, .int .i64 v]] w fun e w' => StepP w0 B pb base N L e w' := by
  obtain ⟨wA, hwA⟩ : ∃ wA, wA = w.alloc (.cells #[.int .i64 1, .int .i64 n, .int .i64 k, .int .i64 v] 30) := ⟨_, rfl⟩
  have hPA : Pl w0 wA B pb base N A wd L lv := by rw [hwA]; exact hP.quiet ((Fr.refl _ w).alloc _)
  have hob : w.heap.size < wA.heap.size := by rw [hwA]; simp
  have hnb : ¬ B.mem w.heap.size := fun x => by have := (hS.mem _ x).2; have := hP.le; omega
  have o1 : wA.cell? ⟨w.heap.size, 1, none⟩ = some (.int .i64 n) := by rw [hwA, World.cell?_alloc_at _ _ _ _ rfl]; rfl
  have h00 : ¬ B.mem 0 := fun x => by have := hS.h0 0 x; omega
  have h01 : ¬ B.mem 1 := fun x => by have := hS.h0 1 x; omega
  have HA := hide (Alloc_any B N A wd n wA hPA.at_ hPA.inv hPA.vars h00 h01)
  have HP := hide hPA
  have HS := hide hS
  rw [hwA] at HA
  unfold HB.ptr at HA
  clear hP hS hPA
  unfold HB.ptr
  go_enter Tryd.func11, Tryd.ntmps11
  go_wp2_with fail
  refine (unhide HA).mono ?_
  rw [← hwA]
  rintro e w1 ⟨hF, ⟨a, A1, h1, h2, g1, rfl, hA1⟩ | ⟨hn, rfl, hA1⟩⟩
  · have o2 := cell_m hF hob hnb o1
    have hV1 := (unhide HP).vars.fr hF h00 h01
    have hs := hF.size
    have hle := (unhide HP).le
    have HR := hide (Alloc_ref_to pb base N n L lv A A1 a w1 ((unhide HP).refQ (unhide HS) hF) (by omega) (unhide HP).inv (unhide HP).mt (by omega) hN (by omega) h1 h2 g1)
    have HT : Hid (∀ e w2, AddP w1 pb base N a (roomOfM n.toNat) L e w2 → StepP w0 B pb base N L (.returned (.bool true)) w2) := hide fun e w2 hp => by
      obtain ⟨gw, lv', hq⟩ := (unhide HP).alloc (unhide HS) g1 (by omega) hF hV1 hA1 hp
      exact ⟨rfl, _, _, _, _, hq, by rw [ins_len]; omega⟩
    clear HA hA1 g1 hF hV1 o1
    generalize w.heap.size = ob at *
    go_wp2_with fail
    refine (unhide HR).mono ?_
    rintro e w2 ⟨rfl, hadd⟩
    have HT2 := hide (unhide HT _ _ hadd)
    clear hadd HT HR
    go_wp2
    go_ret
    exact unhide HT2
  · have o2 := cell_m hF hob hnb o1
    have hV1 := (unhide HP).vars.fr hF h00 h01
    have hs := hF.size
    have hle := (unhide HP).le
    have hP1 := (unhide HP).heap (unhide HS) hF hV1 hA1
    have HR := hide (Alloc_ref_no pb base N n L lv A w1 hP1.ref (by omega) hP1.inv hP1.mt (by omega) hN (by omega) (by omega))
    have HP1 := hide hP1
    clear HA hA1 hn hF hV1 o1 hP1
    generalize w.heap.size = ob at *
    go_wp2_with fail
    refine (unhide HR).mono ?_
    rintro e w2 ⟨rfl, hF2⟩
    have HT2 : Hid (StepP w0 B pb base N L (.returned (.bool true)) w2) := hide ⟨rfl, _, _, _, _, (unhide HP1).quiet hF2, by omega⟩
    clear hF2 HR
    go_wp2
    go_ret
    exact unhide HT2
end Go.Proofs.YtkhegceikdegbaaDoor
