/- The reader: programs. -/
import Derived.Test.YtfkjjljhabjcjaaDoorCsb
namespace Go.Proofs.YtfkjjljhabjcjaaDoor
open Go.RowKit Go.Proofs.YtfkjjljhabjcjaaDoor.Cx
set_option maxRecDepth 100000 in
set_option maxHeartbeats 4000000 in
theorem program_r (pe pf : Addr) (rp lo : Nat) (b : List UInt8) (a : Option Addr) (cap : Nat) (st : Option Nat) (w : World) (h : Rd pe pf w rp lo b a cap st) :
    Calls Tryd.prog 15 #[.pointer (some ⟨rp, 0, none⟩)] w fun e w' => ∃ ia0 il0 ic0 ia1 il1 ic1 ia2 il2 ic2 ia3 il3 ic3 x4, e = .returned (.agg #[.slice ia0 il0 ic0, .slice ia1 il1 ic1, .slice ia2 il2 ic2, .slice ia3 il3 ic3, .int .i64 x4]) ∧ RdP pe pf rp lo b a cap st encP okP (fun W x => prgC (fun k => w.heap.size ≤ k ∧ k < W.heap.size) W x [.slice ia0 il0 ic0, .slice ia1 il1 ic1, .slice ia2 il2 ic2, .slice ia3 il3 ic3, .int .i64 x4]) w w' := by
  have hlo := h.size
  have hrl := h.rlo
  have HR : Hid (∀ o, Rd pe pf (w.alloc o) rp lo b a cap st) := hide fun o => h.alloc o
  clear h
  go_enter Tryd.func15, Tryd.ntmps15
  go_wp2_with fail
  refine (texts_r pe pf rp lo b a cap st _ (unhide HR _)).mono ?_
  rintro e w1 ⟨ia0, il0, ic0, rfl, hF, st0, hR, hS⟩
  have HR0 := hide hR
  have HS0 := hide hS
  have HF0 := hide hF
  have hsz0 := hF.size
  simp at hsz0
  clear hR hS hF
  go_wp2_with fail
  refine (flags_r pe pf rp lo b a cap st0 _ (unhide HR0)).mono ?_
  rintro e w2 ⟨ia1, il1, ic1, rfl, hF, st1, hR, hS⟩
  have HR1 := hide hR
  have HS1 := hide hS
  have HF1 := hide hF
  have hsz1 := hF.size
  skip
  clear hR hS hF
  go_wp2_with fail
  refine (structs_r pe pf rp lo b a cap st1 _ (unhide HR1)).mono ?_
  rintro e w3 ⟨ia2, il2, ic2, rfl, hF, st2, hR, hS⟩
  have HR2 := hide hR
  have HS2 := hide hS
  have HF2 := hide hF
  have hsz2 := hF.size
  skip
  clear hR hS hF
  go_wp2_with fail
  refine (funcs_r pe pf rp lo b a cap st2 _ (unhide HR2)).mono ?_
  rintro e w4 ⟨ia3, il3, ic3, rfl, hF, st3, hR, hS⟩
  have HR3 := hide hR
  have HS3 := hide hS
  have HF3 := hide hF
  have hsz3 := hF.size
  skip
  clear hR hS hF
  go_wp2_with fail
  refine (number_r pe pf rp lo b a cap st3 _ (unhide HR3)).mono ?_
  rintro e w5 ⟨x4, rfl, hF, st4, hR, hS⟩
  have HR4 := hide hR
  have HS4 := hide hS
  have HF4 := hide hF
  have hsz4 := hF.size
  skip
  clear hR hS hF
  have HE : Hid (∀ W, Fr (· = w.heap.size) w5 W → RdP pe pf rp lo b a cap st encP okP (fun W x => prgC (fun k => w.heap.size ≤ k ∧ k < W.heap.size) W x [.slice ia0 il0 ic0, .slice ia1 il1 ic1, .slice ia2 il2 ic2, .slice ia3 il3 ic3, .int .i64 x4]) w W) := by
    refine hide fun W hW => ⟨res_frame ((Fr.refl _ w).alloc _) (((((unhide HF0).trans (unhide HF1)).trans (unhide HF2)).trans (unhide HF3)).trans (unhide HF4)) hW, st4, (unhide HR4).fr hW (fun k hk => by have hk' : k = w.heap.size := hk; omega), resOk (Res.map Prg.tup Prg.of (fun _ => rfl) (Res.seq (encL_pf encT_pf) (unhide HS0) (Res.seq (encL_pf encB_pf) (unhide HS1) (Res.seq (encL_pf (encL_pf encB_pf)) (unhide HS2) (Res.seq (encL_pf encF_pf) (unhide HS3) (unhide HS4)))))) ?_⟩
    rintro x hok ⟨g0, g1, g2, g3, g4⟩
    refine ⟨hok.2.2.2.2, ia0, ic0, ia1, ic1, ia2, ic2, ia3, ic3, ?_, textG.carry g0.2 ((((unhide HF1).trans (unhide HF2)).trans (unhide HF3)).trans (unhide HF4)) hW (by simp; omega) (by simp) (by simp), flagG.carry g1.2 (((unhide HF2).trans (unhide HF3)).trans (unhide HF4)) hW (by omega) (by omega) (by omega), (listG flagG 1).carry g2.2 ((unhide HF3).trans (unhide HF4)) hW (by omega) (by omega) (by omega), fncG.carry g3.2 (unhide HF4) hW (by omega) (by omega) (by omega)⟩
    rw [← g0.1, ← g1.1, ← g2.1, ← g3.1, ← g4]; rfl
  have rc0 := (res_cells (((((unhide HF0).trans (unhide HF1)).trans (unhide HF2)).trans (unhide HF3)).trans (unhide HF4)) (by omega) 0 _ rfl).1
  have rf0 := (res_cells (((((unhide HF0).trans (unhide HF1)).trans (unhide HF2)).trans (unhide HF3)).trans (unhide HF4)) (by omega) 0 _ rfl).2
  have rc1 := (res_cells (((((unhide HF0).trans (unhide HF1)).trans (unhide HF2)).trans (unhide HF3)).trans (unhide HF4)) (by omega) 1 _ rfl).1
  have rf1 := (res_cells (((((unhide HF0).trans (unhide HF1)).trans (unhide HF2)).trans (unhide HF3)).trans (unhide HF4)) (by omega) 1 _ rfl).2
  have rc2 := (res_cells (((((unhide HF0).trans (unhide HF1)).trans (unhide HF2)).trans (unhide HF3)).trans (unhide HF4)) (by omega) 2 _ rfl).1
  have rf2 := (res_cells (((((unhide HF0).trans (unhide HF1)).trans (unhide HF2)).trans (unhide HF3)).trans (unhide HF4)) (by omega) 2 _ rfl).2
  have rc3 := (res_cells (((((unhide HF0).trans (unhide HF1)).trans (unhide HF2)).trans (unhide HF3)).trans (unhide HF4)) (by omega) 3 _ rfl).1
  have rf3 := (res_cells (((((unhide HF0).trans (unhide HF1)).trans (unhide HF2)).trans (unhide HF3)).trans (unhide HF4)) (by omega) 3 _ rfl).2
  have rc4 := (res_cells (((((unhide HF0).trans (unhide HF1)).trans (unhide HF2)).trans (unhide HF3)).trans (unhide HF4)) (by omega) 4 _ rfl).1
  have rf4 := (res_cells (((((unhide HF0).trans (unhide HF1)).trans (unhide HF2)).trans (unhide HF3)).trans (unhide HF4)) (by omega) 4 _ rfl).2
  clear HR HS0
  go_wp2
  refine bodyPost_ret (v := .agg #[.slice ia0 il0 ic0, .slice ia1 il1 ic1, .slice ia2 il2 ic2, .slice ia3 il3 ic3, .int .i64 x4]) (by simp [results, Tryd.results15, go_sem, rc0, rc1, rc2, rc3, rc4]) rfl ?_
  exact ⟨_, _, _, _, _, _, _, _, _, _, _, _, _, rfl, unhide HE _ ((((((Fr.refl (· = w.heap.size) w5).setCell (p := ⟨w.heap.size, 0, none⟩) rfl _).setCell (p := ⟨w.heap.size, 1, none⟩) rfl _).setCell (p := ⟨w.heap.size, 2, none⟩) rfl _).setCell (p := ⟨w.heap.size, 3, none⟩) rfl _).setCell (p := ⟨w.heap.size, 4, none⟩) rfl _)⟩
end Go.Proofs.YtfkjjljhabjcjaaDoor
