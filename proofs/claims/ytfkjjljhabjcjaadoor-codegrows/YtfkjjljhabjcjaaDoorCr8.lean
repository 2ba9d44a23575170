/- The reader: instructions. -/
import Derived.Test.YtfkjjljhabjcjaaDoorCr7
namespace Go.Proofs.YtfkjjljhabjcjaaDoor
open Go.RowKit Go.Proofs.YtfkjjljhabjcjaaDoor.Cx
theorem Gd.carry {α : Type} {C : (Nat → Prop) → World → α → List Value → Prop} (g : Gd C) {size rp B lo1 base : Nat} {w2 w6 W : World} {l : List α} {a : Option Addr} (h : RowOf C size (fun k => lo1 ≤ k ∧ k < w2.heap.size) w2 l a) (hF : Fr (· = rp) w2 w6) (hW : Fr (· = B) w6 W) (h1 : rp < lo1) (h2 : B < lo1) (h3 : base ≤ lo1) :
    RowOf C size (fun k => base ≤ k ∧ k < W.heap.size) W l a := by
  have s1 := hF.size
  have s2 := hW.size
  exact g.row (fun k hk => ⟨by omega, by omega⟩) (g.rowS (fun k hk => (hW.block k (by omega) (by omega)).trans (hF.block k hk.2 (by omega))) h)
theorem res_cells {rp t : Nat} {w wk : World} {cs : Array Value} (hF : Fr (· = rp) (w.alloc (.cells cs t)) wk) (hne : rp < w.heap.size) (j : Nat) (v : Value) (hj : cs[j]? = some v) : wk.cell? ⟨w.heap.size, j, none⟩ = some v ∧ wk.frozen? ⟨w.heap.size, j, none⟩ = false :=
  ⟨hF.cell (by rw [World.cell?_alloc_at _ _ _ _ rfl]; exact hj) (show ¬ w.heap.size = rp by omega), hF.frozen (show w.heap.size < (w.alloc (.cells cs t)).heap.size by simp) (World.frozen?_alloc_at _ _ _ _ rfl) (show ¬ w.heap.size = rp by omega)⟩
theorem res_frame {rp : Nat} {w w0 wk W : World} (h0 : Fr (· = rp) w w0) (hF : Fr (· = rp) w0 wk) (hW : Fr (· = w.heap.size) wk W) : Fr (· = rp) w W := (h0.trans hF).up hW fun k hk => .inr (by omega)
set_option maxRecDepth 100000 in
set_option maxHeartbeats 4000000 in
theorem instr_r (pe pf : Addr) (rp lo : Nat) (b : List UInt8) (a : Option Addr) (cap : Nat) (st : Option Nat) (w : World) (h : Rd pe pf w rp lo b a cap st) :
    Calls Tryd.prog 43 #[.pointer (some ⟨rp, 0, none⟩)] w fun e w' => ∃ x0 x1 x2 x3 x4 ia il ic, e = .returned (.agg #[.int .i64 x0, .int .i64 x1, .int .i64 x2, .int .i64 x3, .int .i64 x4, .slice ia il ic]) ∧ RdP pe pf rp lo b a cap st encI okI (fun W x => insC (fun k => w.heap.size ≤ k ∧ k < W.heap.size) W x [.int .i64 x0, .int .i64 x1, .int .i64 x2, .int .i64 x3, .int .i64 x4, .slice ia il ic]) w w' := by
  have hlo := h.size
  have hrl := h.rlo
  have HR : Hid (∀ o, Rd pe pf (w.alloc o) rp lo b a cap st) := hide fun o => h.alloc o
  clear h
  go_enter Tryd.func43, Tryd.ntmps43
  go_wp2_with fail
  refine (number_r pe pf rp lo b a cap st _ (unhide HR _)).mono ?_
  rintro e w1 ⟨x0, rfl, hF, st0, hR, hS⟩
  have HR0 := hide hR
  have HS0 := hide hS
  have HF0 := hide hF
  have hsz0 := hF.size
  simp at hsz0
  clear hR hS hF
  go_wp2_with fail
  refine (number_r pe pf rp lo b a cap st0 _ (unhide HR0)).mono ?_
  rintro e w2 ⟨x1, rfl, hF, st1, hR, hS⟩
  have HR1 := hide hR
  have HS1 := hide hS
  have HF1 := hide hF
  have hsz1 := hF.size
  skip
  clear hR hS hF
  go_wp2_with fail
  refine (number_r pe pf rp lo b a cap st1 _ (unhide HR1)).mono ?_
  rintro e w3 ⟨x2, rfl, hF, st2, hR, hS⟩
  have HR2 := hide hR
  have HS2 := hide hS
  have HF2 := hide hF
  have hsz2 := hF.size
  skip
  clear hR hS hF
  go_wp2_with fail
  refine (number_r pe pf rp lo b a cap st2 _ (unhide HR2)).mono ?_
  rintro e w4 ⟨x3, rfl, hF, st3, hR, hS⟩
  have HR3 := hide hR
  have HS3 := hide hS
  have HF3 := hide hF
  have hsz3 := hF.size
  skip
  clear hR hS hF
  go_wp2_with fail
  refine (number_r pe pf rp lo b a cap st3 _ (unhide HR3)).mono ?_
  rintro e w5 ⟨x4, rfl, hF, st4, hR, hS⟩
  have HR4 := hide hR
  have HS4 := hide hS
  have HF4 := hide hF
  have hsz4 := hF.size
  skip
  clear hR hS hF
  go_wp2_with fail
  refine (ints_r pe pf rp lo b a cap st4 _ (unhide HR4)).mono ?_
  rintro e w6 ⟨ia, il, ic, rfl, hF, st5, hR, hS⟩
  have HR5 := hide hR
  have HS5 := hide hS
  have HF5 := hide hF
  have hsz5 := hF.size
  skip
  clear hR hS hF
  have HE : Hid (∀ W, Fr (· = w.heap.size) w6 W → RdP pe pf rp lo b a cap st encI okI (fun W x => insC (fun k => w.heap.size ≤ k ∧ k < W.heap.size) W x [.int .i64 x0, .int .i64 x1, .int .i64 x2, .int .i64 x3, .int .i64 x4, .slice ia il ic]) w W) := by
    refine hide fun W hW => ⟨res_frame ((Fr.refl _ w).alloc _) ((((((unhide HF0).trans (unhide HF1)).trans (unhide HF2)).trans (unhide HF3)).trans (unhide HF4)).trans (unhide HF5)) hW, st5, (unhide HR5).fr hW (fun k hk => by have hk' : k = w.heap.size := hk; omega), resOk (Res.map Ins.tup Ins.of (fun _ => rfl) (Res.seq encN_pf (unhide HS0) (Res.seq encN_pf (unhide HS1) (Res.seq encN_pf (unhide HS2) (Res.seq encN_pf (unhide HS3) (Res.seq encN_pf (unhide HS4) (unhide HS5))))))) ?_⟩
    rintro x hok ⟨g0, g1, g2, g3, g4, g5⟩
    refine ⟨⟨hok.1, hok.2.1, hok.2.2.1, hok.2.2.2.1, hok.2.2.2.2.1⟩, ia, ic, ?_, numG.carry g5.2 (Fr.refl (· = rp) _) hW (by omega) (by omega) (by omega)⟩
    rw [← g0, ← g1, ← g2, ← g3, ← g4, ← g5.1]; rfl
  have rc0 := (res_cells ((((((unhide HF0).trans (unhide HF1)).trans (unhide HF2)).trans (unhide HF3)).trans (unhide HF4)).trans (unhide HF5)) (by omega) 0 _ rfl).1
  have rf0 := (res_cells ((((((unhide HF0).trans (unhide HF1)).trans (unhide HF2)).trans (unhide HF3)).trans (unhide HF4)).trans (unhide HF5)) (by omega) 0 _ rfl).2
  have rc1 := (res_cells ((((((unhide HF0).trans (unhide HF1)).trans (unhide HF2)).trans (unhide HF3)).trans (unhide HF4)).trans (unhide HF5)) (by omega) 1 _ rfl).1
  have rf1 := (res_cells ((((((unhide HF0).trans (unhide HF1)).trans (unhide HF2)).trans (unhide HF3)).trans (unhide HF4)).trans (unhide HF5)) (by omega) 1 _ rfl).2
  have rc2 := (res_cells ((((((unhide HF0).trans (unhide HF1)).trans (unhide HF2)).trans (unhide HF3)).trans (unhide HF4)).trans (unhide HF5)) (by omega) 2 _ rfl).1
  have rf2 := (res_cells ((((((unhide HF0).trans (unhide HF1)).trans (unhide HF2)).trans (unhide HF3)).trans (unhide HF4)).trans (unhide HF5)) (by omega) 2 _ rfl).2
  have rc3 := (res_cells ((((((unhide HF0).trans (unhide HF1)).trans (unhide HF2)).trans (unhide HF3)).trans (unhide HF4)).trans (unhide HF5)) (by omega) 3 _ rfl).1
  have rf3 := (res_cells ((((((unhide HF0).trans (unhide HF1)).trans (unhide HF2)).trans (unhide HF3)).trans (unhide HF4)).trans (unhide HF5)) (by omega) 3 _ rfl).2
  have rc4 := (res_cells ((((((unhide HF0).trans (unhide HF1)).trans (unhide HF2)).trans (unhide HF3)).trans (unhide HF4)).trans (unhide HF5)) (by omega) 4 _ rfl).1
  have rf4 := (res_cells ((((((unhide HF0).trans (unhide HF1)).trans (unhide HF2)).trans (unhide HF3)).trans (unhide HF4)).trans (unhide HF5)) (by omega) 4 _ rfl).2
  have rc5 := (res_cells ((((((unhide HF0).trans (unhide HF1)).trans (unhide HF2)).trans (unhide HF3)).trans (unhide HF4)).trans (unhide HF5)) (by omega) 5 _ rfl).1
  have rf5 := (res_cells ((((((unhide HF0).trans (unhide HF1)).trans (unhide HF2)).trans (unhide HF3)).trans (unhide HF4)).trans (unhide HF5)) (by omega) 5 _ rfl).2
  clear HR HS0
  go_wp2
  refine bodyPost_ret (v := .agg #[.int .i64 x0, .int .i64 x1, .int .i64 x2, .int .i64 x3, .int .i64 x4, .slice ia il ic]) (by simp [results, Tryd.results43, go_sem, rc0, rc1, rc2, rc3, rc4, rc5]) rfl ?_
  exact ⟨_, _, _, _, _, _, _, _, rfl, unhide HE _ (((((((Fr.refl (· = w.heap.size) w6).setCell (p := ⟨w.heap.size, 0, none⟩) rfl _).setCell (p := ⟨w.heap.size, 1, none⟩) rfl _).setCell (p := ⟨w.heap.size, 2, none⟩) rfl _).setCell (p := ⟨w.heap.size, 3, none⟩) rfl _).setCell (p := ⟨w.heap.size, 4, none⟩) rfl _).setCell (p := ⟨w.heap.size, 5, none⟩) rfl _)⟩
end Go.Proofs.YtfkjjljhabjcjaaDoor
