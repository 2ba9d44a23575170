import Derived.Test.YtgckmkiiheaeaaaGreatDoorMark
import Derived.Deep.AppendLies
import Derived.Deep.RegionLaw
import Derived.Deep.RegionHeld3
namespace Go.Proofs.YtgckmkiiheaeaaaGreatDoor
open Go.RowKit Lx
def tokCells (t : Tok) : List Value := [.int .i64 t.kind, .string ⟨t.text.toArray⟩, .int .i64 t.num, .int .i64 t.pos]
def toksCells (ts : List Tok) : List Value := ts.flatMap tokCells
theorem toksCells_len (ts : List Tok) : (toksCells ts).length = ts.length * 4 := by
 induction ts with
 | nil => rfl
 | cons t r ih =>
   have e : toksCells (t :: r) = tokCells t ++ toksCells r := rfl
   rw [e, List.length_append, ih]
   simp [tokCells]
   omega
theorem toksCells_snoc (ts : List Tok) (t : Tok) : toksCells (ts ++ [t]) = toksCells ts ++ tokCells t := by
 simp [toksCells]
theorem ba_of (x : ByteArray) : (⟨x.toList.toArray⟩ : ByteArray) = x := by
 rw [ByteArray.toList_eq]
theorem toks_push (ts : List Tok) (kd nm ps : Int) (x : ByteArray) : toksCells (ts ++ [⟨kd, x.toList, nm, ps⟩]) = toksCells ts ++ [.int .i64 kd, .string x, .int .i64 nm, .int .i64 ps] := by
 rw [toksCells_snoc]; simp [tokCells, ba_of]
structure St (w : World) (b : Nat) (s : ByteArray) (k : Nat) (sv : Value) (ts : List Tok) : Prop where
 blk : w.heap[b]? = some (.cells #[.string s, .int .i64 k, sv] 61)
 own : w.ownsRow (b + 1) 36 4 sv ts.length (toksCells ts)
theorem blk_lt {w : World} {b : Nat} {o : Obj} (h : w.heap[b]? = some o) : b < w.heap.size := (Array.getElem?_eq_some_iff.1 h).1
theorem blk_cell {w : World} {b : Nat} {cs : Array Value} {t : TypeId} (h : w.heap[b]? = some (.cells cs t)) (j : Nat) : w.cell? ⟨b, j, none⟩ = cs[j]? := by
 simp [World.cell?, h]
theorem blk_frozen {w : World} {b : Nat} {cs : Array Value} {t : TypeId} (h : w.heap[b]? = some (.cells cs t)) (j : Nat) : w.frozen? ⟨b, j, none⟩ = false := by
 simp [World.frozen?, h]
theorem Tryz.info33 : (Tryz.prog.info? 36).map (fun i => (i.zero, i.size, i.bytes)) = some (some (.agg #[.int .i64 0, .string ⟨#[]⟩, .int .i64 0, .int .i64 0]), 4, 40) := by kernel_rfl
theorem own_heap {w w' : World} {base e size n : Nat} {v : Value} {xs : List Value} (hh : w'.heap = w.heap) (h : w.ownsRow base e size v n xs) : w'.ownsRow base e size v n xs := by
 unfold World.ownsRow at *
 rw [hh]; exact h
theorem setCell_blk {w : World} {b : Nat} {cs : Array Value} {t : TypeId} (h : w.heap[b]? = some (.cells cs t)) (j : Nat) (v : Value) : (w.setCell ⟨b, j, none⟩ v).heap[b]? = some (.cells (cs.setIfInBounds j v) t) := by
 simp [World.setCell, Array.getElem?_modify, h]
theorem own_ne {w : World} {b n : Nat} {sv : Value} {xs : List Value} (h : w.ownsRow (b + 1) 36 4 sv n xs) : some b ≠ sv.ownBlock := by
 intro e
 have := (h.lt b e.symm).1
 omega
theorem heap_alloc_new' (w : World) (o : Obj) {n : Nat} (h : n = w.heap.size) : (w.alloc o).heap[n]? = some o := by
 subst h; exact heap_alloc_new w o
theorem blk_alloc {w : World} {b : Nat} {x : Obj} (h : w.heap[b]? = some x) (o : Obj) : (w.alloc o).heap[b]? = some x := by
 rw [Below.heap_alloc _ _ _ (blk_lt h)]; exact h
set_option maxHeartbeats 400000 in
theorem add_any (b k e : Nat) (s : ByteArray) (sv : Value) (ts : List Tok) (kd nm ps : Int) (x : ByteArray) (w : World) (h : St w b s k sv ts) (hn : ts.length ≤ 100000) :
 Calls Tryz.prog 38 #[.pointer (some ⟨b, 0, none⟩), .agg #[.int .i64 kd, .string x, .int .i64 nm, .int .i64 ps], .int .i64 e] w fun ev w' => ev = .returned (.tuple #[]) ∧
  ∃ sv', St w' b s e sv' (ts ++ [⟨kd, x.toList, nm, ps⟩]) ∧ Below b w w' := by
 obtain ⟨hblk, hown⟩ := h
 have hlt := blk_lt hblk
 have c2 : w.cell? ⟨b, 2, none⟩ = some sv := blk_cell hblk 2
 have f1 : w.frozen? ⟨b, 1, none⟩ = false := blk_frozen hblk 1
 have f2 : w.frozen? ⟨b, 2, none⟩ = false := blk_frozen hblk 2
 obtain ⟨i0, hi, hz0, hz1, hz2⟩ := info_parts Tryz.info33
 have HO := hide ((hown.alloc (.cells #[.int .i64 kd, .string x, .int .i64 nm, .int .i64 ps] 36)).alloc (.cells #[.int .i64 kd, .string x, .int .i64 nm, .int .i64 ps] 36))
 have HB := hide (blk_alloc (blk_alloc hblk (.cells #[.int .i64 kd, .string x, .int .i64 nm, .int .i64 ps] 36)) (.cells #[.int .i64 kd, .string x, .int .i64 nm, .int .i64 ps] 36))
 have HN := hide (World.news_of_block (w := (w.alloc (.cells #[.int .i64 kd, .string x, .int .i64 nm, .int .i64 ps] 36)).alloc (.cells #[.int .i64 kd, .string x, .int .i64 nm, .int .i64 ps] 36)) (B := w.heap.size + 1) (cs := #[.int .i64 kd, .string x, .int .i64 nm, .int .i64 ps]) (t := 36) (fr := (0, 0)) (by rw [heap_alloc_new' _ _ (by simp)]))
 have HE := hide (own_ne hown)
 have HL : Hid (b + 1 ≤ w.heap.size) := by exact hlt
 clear hblk hown
 go_enter Tryz.func38, Tryz.ntmps38
 go_wp2
 go_region_law (refine step_append_lies _ rfl (.tmp 10) (.tmp 12) 30 rfl (b + 1) 36 i0 _ 4 40 Tryz.underlying30 hi hz0 hz1 hz2 rfl (by decide) sv ts.length (toksCells ts) (by simp [Act.eval]) (own_heap rfl (unhide HO)) ⟨w.heap.size + 1, 0, none⟩ 1 1 [.int .i64 kd, .string x, .int .i64 nm, .int .i64 ps] (by simp [Act.eval]) rfl (unhide HN) (by simp [Value.oneCell']) (by decide) (by unfold maxLen; omega) (by omega) (Nat.le_trans (unhide HL) (by simp; omega)) _ rfl ?_; intro g cap w1 hown1 hgrow hat hg1; have k1 := (hgrow.block b (Nat.lt_of_lt_of_le (unhide HL) (by simp; omega)) (unhide HE)).trans (unhide HB); have q1 := blk_cell k1 1; have q2 := blk_cell k1 2; have g1 := blk_frozen k1 1; have g2 := blk_frozen k1 2; have K1 := hide k1; have HO1 := hide hown1; have HG1 := hide hgrow; clear k1 hown1 hgrow hat hg1)
 all_goals
  go_wp2
  go_end0
  refine ⟨rfl, _, ⟨by rw [setCell_blk (setCell_blk (unhide K1) 2 _) 1 _]; rfl, ?_⟩, ?_⟩
  ·rw [toks_push, List.length_append]
   exact ownsRow_setCell_below (ownsRow_setCell_below (unhide HO1) (Nat.lt_succ_self b) _) (Nat.lt_succ_self b) _
  ·exact ((((((Below.refl b w).alloc (by omega) _).alloc (by simp; omega) _).drew).grown (unhide HG1) (by simp; omega) (fun j hj => by have := ((unhide HO).lt j hj).1; omega)).setCell (Nat.le_refl b) _).setCell (Nat.le_refl b) _
end Go.Proofs.YtgckmkiiheaeaaaGreatDoor
