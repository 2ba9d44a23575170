/- The reader: functions. -/
import Derived.Test.YtfkjjljhabjcjaaDoorCr9
namespace Go.Proofs.YtfkjjljhabjcjaaDoor
open Go.RowKit Go.Proofs.YtfkjjljhabjcjaaDoor.Cx
set_option maxRecDepth 100000 in
set_option maxHeartbeats 4000000 in
theorem function_r (pe pf : Addr) (rp lo : Nat) (b : List UInt8) (a : Option Addr) (cap : Nat) (st : Option Nat) (w : World) (h : Rd pe pf w rp lo b a cap st) :
    Calls Tryd.prog 25 #[.pointer (some ⟨rp, 0, none⟩)] w fun e w' => ∃ x0 ia1 il1 ic1 x2 x3 x4 ia5 il5 ic5, e = .returned (.agg #[.string x0, .slice ia1 il1 ic1, .int .i64 x2, .int .i64 x3, .bool x4, .slice ia5 il5 ic5]) ∧ RdP pe pf rp lo b a cap st encF okF (fun W x => fncC (fun k => w.heap.size ≤ k ∧ k < W.heap.size) W x [.string x0, .slice ia1 il1 ic1, .int .i64 x2, .int .i64 x3, .bool x4, .slice ia5 il5 ic5]) w w' := by
  have hlo := h.size
  have hrl := h.rlo
  have HR : Hid (∀ o, Rd pe pf (w.alloc o) rp lo b a cap st) := hide fun o => h.alloc o
  clear h
  go_enter Tryd.func25, Tryd.ntmps25
  go_wp2_with fail
  refine (text_r pe pf rp lo b a cap st _ (unhide HR _)).mono ?_
  rintro e w1 ⟨x0, rfl, hF, st0, hR, hS⟩
  have HR0 := hide hR
  have HS0 := hide hS
  have HF0 := hide hF
  have hsz0 := hF.size
  simp at hsz0
  clear hR hS hF
  go_wp2_with fail
  refine (flags_r pe pf rp lo b a cap st0 _ (unhide HR0)).mono ?_
  rintro e w2 ⟨ia1, il1, ic1, rfl, hF, st1, hR, hS⟩
  have HR1 := hide hR
  have HS1 := hide hS
  have HF1 := hide hF
  have hsz1 := hF.size
  skip
  clear hR hS hF
  go_wp2_with fail
  refine (number_r pe pf rp lo b a cap st1 _ (unhide HR1)).mono ?_
  rintro e w3 ⟨x2, rfl, hF, st2, hR, hS⟩
  have HR2 := hide hR
  have HS2 := hide hS
  have HF2 := hide hF
  have hsz2 := hF.size
  skip
  clear hR hS hF
  go_wp2_with fail
  refine (number_r pe pf rp lo b a cap st2 _ (unhide HR2)).mono ?_
  rintro e w4 ⟨x3, rfl, hF, st3, hR, hS⟩
  have HR3 := hide hR
  have HS3 := hide hS
  have HF3 := hide hF
  have hsz3 := hF.size
  skip
  clear hR hS hF
  go_wp2_with fail
  refine (flag_r pe pf rp lo b a cap st3 _ (unhide HR3)).mono ?_
  rintro e w5 ⟨x4, rfl, hF, st4, hR, hS⟩
  have HR4 := hide hR
  have HS4 := hide hS
  have HF4 := hide hF
  have hsz4 := hF.size
  skip
  clear hR hS hF
  go_wp2_with fail
  refine (code_r pe pf rp lo b a cap st4 _ (unhide HR4)).mono ?_
  rintro e w6 ⟨ia5, il5, ic5, rfl, hF, st5, hR, hS⟩
  have HR5 := hide hR
  have HS5 := hide hS
  have HF5 := hide hF
  have hsz5 := hF.size
  skip
  clear hR hS hF
  have HE : Hid (∀ W, Fr (· = w.heap.size) w6 W → RdP pe pf rp lo b a cap st encF okF (fun W x => fncC (fun k => w.heap.size ≤ k ∧ k < W.heap.size) W x [.string x0, .slice ia1 il1 ic1, .int .i64 x2, .int .i64 x3, .bool x4, .slice ia5 il5 ic5]) w W) := by
    refine hide fun W hW => ⟨res_frame ((Fr.refl _ w).alloc _) ((((((unhide HF0).trans (unhide HF1)).trans (unhide HF2)).trans (unhide HF3)).trans (unhide HF4)).trans (unhide HF5)) hW, st5, (unhide HR5).fr hW (fun k hk => by have hk' : k = w.heap.size := hk; omega), resOk (Res.map Fnc.tup Fnc.of (fun _ => rfl) (Res.seq encT_pf (unhide HS0) (Res.seq (encL_pf encB_pf) (unhide HS1) (Res.seq encN_pf (unhide HS2) (Res.seq encN_pf (unhide HS3) (Res.seq encB_pf (unhide HS4) (unhide HS5))))))) ?_⟩
    rintro x hok ⟨g0, g1, g2, g3, g4, g5⟩
    refine ⟨⟨by rw [show x.name = x0 from g0.1]; exact g0.2, hok.2.2.1, hok.2.2.2.1⟩, ia1, ic1, ia5, ic5, ?_, flagG.carry g1.2 ((((unhide HF2).trans (unhide HF3)).trans (unhide HF4)).trans (unhide HF5)) hW (by omega) (by omega) (by omega), insG.carry g5.2 (Fr.refl (· = rp) _) hW (by omega) (by omega) (by omega)⟩
    rw [← g0.1, ← g1.1, ← g2, ← g3, ← g4, ← g5.1]; rfl
  have rc0 := (res_cells ((((((unhide HF0).trans (unhide HF1)).trans (unhide HF2)).trans (unhide HF3)).trans (unhide HF4)).trans (unhide HF5)) (by omega) 0 _ rfl).1
  have rf0 := (res_cells ((((((unhide HF0).trans (unhide HF1)).trans (unhide HF2)).trans (unhide HF3)).trans (unhide HF4)).trans (unhide HF5)) (by omega) 0 _ rfl).2
  have rc1 := (res_cells ((((((unhide HF0).trans (unhide HF1)).trans (unhide HF2)).trans (unhide HF3)).trans (unhide HF4)).trans (unhide HF5)) (by omega) 1 _ rfl).1
  have rf1 := (res_cells ((((((unhide HF0).trans (unhide HF1)).trans (unhide HF2)).trans (unhide HF3)).trans (unhide HF4)).trans (unhide HF5)) (by omega) 1 _ rfl).2
  have rc2 := (res_cells ((((((unhide HF0).trans (unhide HF1)).trans (unhide HF2)).trans (unhide HF3)).trans (unhide HF4)).trans (unhide HF5)) (by omega) 2 _ rfl).1
  have rf2 := (res_cells ((((((unhide HF0).trans (unhide HF1)).trans (unhide HF2)).trans (unhide HF3)).trans (unhide HF4)).trans (unhide HF5)) (by omega) 2 _ rfl).2
  have rc3 := (res_cells ((((((unhide HF0).trans (unhide HF1)).trans (unhide HF2)).trans (unhide HF3)).trans (unhide HF4)).trans (unhide HF5)) (by omega) 3 _ rfl).1
  have rf3 := (res_cells ((((((unhide HF0).trans (unhide HF1)).trans (unhide HF2)).trans (unhide HF3)).trans (unhide HF4)).trans (unhide HF5)) (by omega) 3 _ rfl).2
  have rc4 := (res_cells ((((((unhide HF0).trans (unhide HF1)).trans (unhide HF2)).trans (unhide HF3)).trans (unhide HF4)).trans (unhide HF5)) (by omega) 4 _ rfl).1
  have rf4 := (res_cells ((((((unhide HF0).trans (unhide HF1)).trans (unhide HF2)).trans (unhide HF3)).trans (unhide HF4)).trans (unhide HF5)) (by omega) 4 _ rfl).2
  have rc5 := (res_cells ((((((unhide HF0).trans (unhide HF1)).trans (unhide HF2)).trans (unhide HF3)).trans (unhide HF4)).trans (unhide HF5)) (by omega) 5 _ rfl).1
  have rf5 := (res_cells ((((((unhide HF0).trans (unhide HF1)).trans (unhide HF2)).trans (unhide HF3)).trans (unhide HF4)).trans (unhide HF5)) (by omega) 5 _ rfl).2
  clear HR HS0
  go_wp2
  refine bodyPost_ret (v := .agg #[.string x0, .slice ia1 il1 ic1, .int .i64 x2, .int .i64 x3, .bool x4, .slice ia5 il5 ic5]) (by simp [results, Tryd.results25, go_sem, rc0, rc1, rc2, rc3, rc4, rc5]) rfl ?_
  exact ⟨_, _, _, _, _, _, _, _, _, _, rfl, unhide HE _ (((((((Fr.refl (· = w.heap.size) w6).setCell (p := ⟨w.heap.size, 0, none⟩) rfl _).setCell (p := ⟨w.heap.size, 1, none⟩) rfl _).setCell (p := ⟨w.heap.size, 2, none⟩) rfl _).setCell (p := ⟨w.heap.size, 3, none⟩) rfl _).setCell (p := ⟨w.heap.size, 4, none⟩) rfl _).setCell (p := ⟨w.heap.size, 5, none⟩) rfl _)⟩
end Go.Proofs.YtfkjjljhabjcjaaDoor
