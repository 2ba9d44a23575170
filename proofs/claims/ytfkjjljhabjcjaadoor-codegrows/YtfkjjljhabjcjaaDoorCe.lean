/- Encode. -/
import Derived.Test.YtfkjjljhabjcjaaDoorCw9
namespace Go.Proofs.YtfkjjljhabjcjaaDoor
open Go.RowKit Go.Proofs.YtfkjjljhabjcjaaDoor.Cx
def EncP (x : Prg) (w : World) (e : Ending) (w' : World) : Prop :=
  ∃ ao cp, e = .returned (.slice ao (encP x).length cp) ∧ w'.ownsRow w.heap.size 5 1 (.slice ao (encP x).length cp) (encP x).length ((encP x).map byteV) ∧ Fr (fun _ => False) w w'
set_option maxRecDepth 100000 in
set_option maxHeartbeats 1000000 in
theorem Encode_any (x : Prg) (cs : List Value) (w : World) (hC : prgC (· < w.heap.size) w x cs) (hl : (encP x).length ≤ 1000000000) :
    Calls Tryd.prog 11 #[.agg cs.toArray] w fun e w' => EncP x w e w' := by
  have HW : ∀ c, WrS ((w.alloc (.cells c 27)).alloc (.cells #[.slice none 0 0] 56)) (w.heap.size + 1) w.heap.size [] := fun c => by
    have e : (w.alloc (.cells c 27)).heap.size = w.heap.size + 1 := by simp
    refine ⟨none, 0, ?_, ?_, ⟨rfl, .inl ⟨rfl, rfl⟩⟩, ?_, by simp; omega⟩
    · rw [← e, World.cell?_alloc_at _ _ _ _ rfl]; rfl
    · rw [← e]; exact World.frozen?_alloc_at _ _ _ _ rfl
    · rw [← e]; exact Ty.new _ _ _
  have hF : ∀ c, WFr w.heap.size (w.heap.size + 1) w ((w.alloc (.cells c 27)).alloc (.cells #[.slice none 0 0] 56)) := fun c => ((WFr.refl _ _ _).alloc _).alloc _
  have HC : Hid (∀ c, Calls Tryd.prog 18 #[.pointer (some ⟨w.heap.size + 1, 0, none⟩), .agg cs.toArray] ((w.alloc (.cells c 27)).alloc (.cells #[.slice none 0 0] 56)) fun e w' => WrP w.heap.size (w.heap.size + 1) [] (encP x) ((w.alloc (.cells c 27)).alloc (.cells #[.slice none 0 0] 56)) e w') :=
    hide fun c => program_w w.heap.size (w.heap.size + 1) [] x cs _ (HW c) (by omega) (WFr.item prgG (hF c) (by omega) (by omega) hC) (by simpa using hl)
  have HF := hide hF
  clear HW hF
  obtain ⟨o0, a1, c1, a2, c2, a3, c3, a4, c4, rfl, h1, h2, h3, h4⟩ := hC
  clear h1 h2 h3 h4 hl
  go_enter Tryd.func11, Tryd.ntmps11
  go_wp2_with fail
  refine ((unhide HC) _).mono ?_
  intro e w1 hp
  obtain rfl := hp.1
  obtain ⟨ao, cp, hc, hf, ho, hT, hb⟩ := hp.2.1
  have HE : Hid (EncP x w (.returned (.slice ao (encP x).length cp)) w1) := hide ⟨ao, cp, rfl, ho, by
    have h2 := ((unhide HF) _).trans hp.2.2
    exact ⟨h2.os, h2.tape, h2.output, h2.size, fun k hk _ => h2.block k hk (by omega) (.inl hk)⟩⟩
  clear hp ho hT HC HF
  go_wp2
  go_ret
  exact unhide HE
end Go.Proofs.YtfkjjljhabjcjaaDoor
