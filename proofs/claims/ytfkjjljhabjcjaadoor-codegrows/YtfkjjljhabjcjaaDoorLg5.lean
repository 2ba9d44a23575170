/- CodeGrows: what is read back. -/
import Derived.Test.YtfkjjljhabjcjaaDoorLg4
namespace Go.Proofs.YtfkjjljhabjcjaaDoor
open Go.RowKit Go.Proofs.YtfkjjljhabjcjaaDoor.Cx
theorem new_read {S : Nat → Prop} {W : World} {s : ByteArray} {z : Int} {l : List Int} {cs : List Value} (h : fncC S W (newF s z l) cs) :
    ∃ yb yoff yc la0 lc0 la1 lc1, cs[5]? = some (.slice (some ⟨yb, yoff, none⟩) 3 yc) ∧ W.cell? ⟨yb, yoff + 15, none⟩ = some (.int .i64 4611686018427387904) ∧ W.cell? ⟨yb, yoff + 4, none⟩ = some (.int .i64 (-4611686018427387904)) ∧
      W.cell? ⟨yb, yoff + 5, none⟩ = some (.slice la0 l.length lc0) ∧ RowOf numC 1 S W l la0 ∧ W.cell? ⟨yb, yoff + 11, none⟩ = some (.slice la1 0 lc1) := by
  obtain ⟨_, a1, c1, a2, c2, rfl, _, hr⟩ := h
  obtain ⟨yb, yoff, cs0, e0, _, h0, _, g0⟩ := hr.2 0 (by show 0 < 3; decide)
  obtain ⟨yb1, yoff1, cs1, e1, _, h1, _, g1⟩ := hr.2 1 (by show 1 < 3; decide)
  obtain ⟨yb2, yoff2, cs2, e2, _, h2, _, g2⟩ := hr.2 2 (by show 2 < 3; decide)
  subst e0
  cases e1
  cases e2
  obtain ⟨_, la0, lc0, rfl, hr0⟩ := h0
  obtain ⟨_, la1, lc1, rfl, _⟩ := h1
  obtain ⟨_, la2, lc2, rfl, _⟩ := h2
  exact ⟨yb, yoff, c2, la0, lc0, la1, lc1, rfl, g2 3 _ rfl, g0 4 _ rfl, g0 5 _ rfl, hr0, g1 5 _ rfl⟩
theorem newP_len (x : Prg) (s : ByteArray) (z : Int) (l : List Int) : (newP x s z l).texts.length = x.texts.length + 1 ∧ (newP x s z l).funcs.length = x.funcs.length + 1 := by simp [newP]
theorem new_last (x : Prg) (s : ByteArray) (z : Int) (l : List Int) (h : x.funcs.length < (newP x s z l).funcs.length) : (newP x s z l).funcs[x.funcs.length] = newF s z l := by simp [newP]
theorem row_lift {α : Type} {C : (Nat → Prop) → World → α → List Value → Prop} (g : Gd C) {size n m : Nat} {w wr : World} {l : List α} {a : Option Addr} (h : RowOf C size (· < n) w l a) (hn : n ≤ w.heap.size) (hF : Fr (fun _ => False) w wr) (hm : n ≤ m) : RowOf C size (· < m) wr l a :=
  g.row (fun _ hk => Nat.lt_of_lt_of_le hk hm) (row_at g h hn hF)
theorem newP_at {x : Prg} {s : ByteArray} {z : Int} {l : List Int} {w2 W7 wc : World} {B g4 cap4 g6 c6 c2 c3 : Nat} {a2 a3 : Option Addr} (hT : RowOf textC 1 (fun k => k < W7.heap.size ∧ k ≠ B) W7 (x.texts ++ [s]) (some ⟨g4, 0, none⟩)) (h2 : RowOf flagC 1 (· < w2.heap.size) w2 x.globals a2) (h3 : RowOf (listC flagC 1) 1 (· < w2.heap.size) w2 x.structs a3)
    (hRf : RowOf fncC 6 (· < wc.heap.size) wc (x.funcs ++ [newF s z l]) (some ⟨g6, 0, none⟩)) (hF : Fr (fun _ => False) w2 wc) (hFc : Fr (· = B) W7 wc) (hm : okN x.main) :
    prgC (· < wc.heap.size) wc (newP x s z l) [.slice (some ⟨g4, 0, none⟩) (x.texts.length + 1) cap4, .slice a2 x.globals.length c2, .slice a3 x.structs.length c3, .slice (some ⟨g6, 0, none⟩) (x.funcs.length + 1) c6, .int .i64 x.main] := by
  refine ⟨hm, some ⟨g4, 0, none⟩, cap4, a2, c2, a3, c3, some ⟨g6, 0, none⟩, c6, ?_, ?_, row_lift flagG h2 (Nat.le_refl _) hF hF.size, row_lift (listG flagG 1) h3 (Nat.le_refl _) hF hF.size, hRf⟩
  · rw [(newP_len x s z l).1, (newP_len x s z l).2]; rfl
  · exact textG.row (fun k hk => Nat.lt_of_lt_of_le hk.1 hFc.size) (textG.rowS (fun k hk => hFc.block k hk.1 hk.2) hT)
end Go.Proofs.YtfkjjljhabjcjaaDoor
