import Derived.Test.YtheknbfbneghgaaGreatDoorMark
import Derived.Deep.AppendLies
import Derived.Deep.RegionLaw
import Derived.Deep.RegionHeld3
set_option maxHeartbeats 400000
set_option maxRecDepth 100000
namespace Go.Proofs.YtheknbfbneghgaaGreatDoor
open Go.RowKit Lx
def tokCells (t : Tok) : List Value := [.int .i64 t.kind, .string ⟨t.text.toArray⟩, .int .i64 t.num, .int .i64 t.pos]
def yi (ts : List Tok) : List Value := ts.flatMap tokCells
theorem toksCells_len (ts : List Tok) : (yi ts).length = ts.length * 4 := by
 induction ts with
 | nil => rfl
 | cons t r ih =>
   have e : yi (t :: r) = tokCells t ++ yi r := rfl
   rw [e, List.length_append, ih]
   simp [tokCells]
   omega
theorem toksCells_snoc (ts : List Tok) (t : Tok) : yi (ts ++ [t]) = yi ts ++ tokCells t := by
 simp [yi]
theorem ba_of (x : ByteArray) : (⟨x.toList.toArray⟩ : ByteArray) = x := by
 rw [ByteArray.toList_eq]
theorem toks_push (ts : List Tok) (kd nm ps : Int) (x : ByteArray) : yi (ts ++ [⟨kd, x.toList, nm, ps⟩]) = yi ts ++ [.int .i64 kd, .string x, .int .i64 nm, .int .i64 ps] := by
 rw [toksCells_snoc]; simp [tokCells, ba_of]
structure St (w : World) (b : Nat) (s : ByteArray) (k : Nat) (sv : Value) (ts : List Tok) : Prop where
 blk : w.heap[b]? = some (.cells #[.string s, .int .i64 k, sv] 54)
 own : w.ownsRow (b + 1) 85 4 sv ts.length (yi ts)
theorem blk_lt {w : World} {b : Nat} {o : Obj} (h : w.heap[b]? = some o) : b < w.heap.size := (Array.getElem?_eq_some_iff.1 h).1
theorem zv {w : World} {b : Nat} {cs : Array Value} {t : TypeId} (h : w.heap[b]? = some (.cells cs t)) (j : Nat) : w.cell? ⟨b, j, none⟩ = cs[j]? := by
 simp [World.cell?, h]
theorem yT {w : World} {b : Nat} {cs : Array Value} {t : TypeId} (h : w.heap[b]? = some (.cells cs t)) (j : Nat) : w.frozen? ⟨b, j, none⟩ = false := by
 simp [World.frozen?, h]
theorem Tryz.info35 : (Tryz.prog.info? 85).map (fun i => (i.zero, i.size, i.bytes)) = some (some (.agg #[.int .i64 0, .string ⟨#[]⟩, .int .i64 0, .int .i64 0]), 4, 40) := by kernel_rfl
theorem own_heap {w w' : World} {base e size n : Nat} {v : Value} {xs : List Value} (hh : w'.heap = w.heap) (h : w.ownsRow base e size v n xs) : w'.ownsRow base e size v n xs := by
 unfold World.ownsRow at *
 rw [hh]; exact h
theorem setCell_blk {w : World} {b : Nat} {cs : Array Value} {t : TypeId} (h : w.heap[b]? = some (.cells cs t)) (j : Nat) (v : Value) : (w.setCell ⟨b, j, none⟩ v).heap[b]? = some (.cells (cs.setIfInBounds j v) t) := by
 simp [World.setCell, Array.getElem?_modify, h]
theorem own_ne {w : World} {b n : Nat} {sv : Value} {xs : List Value} (h : w.ownsRow (b + 1) 85 4 sv n xs) : some b ≠ sv.ownBlock := by
 intro e
 have := (h.lt b e.symm).1
 omega
theorem yW (w : World) (o : Obj) {n : Nat} (h : n = w.heap.size) : (w.alloc o).heap[n]? = some o := by
 subst h; exact heap_alloc_new w o
theorem blk_alloc {w : World} {b : Nat} {x : Obj} (h : w.heap[b]? = some x) (o : Obj) : (w.alloc o).heap[b]? = some x := by
 rw [Below.heap_alloc _ _ _ (blk_lt h)]; exact h
theorem add_any (b k e : Nat) (s : ByteArray) (sv : Value) (ts : List Tok) (kd nm ps : Int) (x : ByteArray) (w : World) (h : St w b s k sv ts) (hn : ts.length ≤ 100000) :
 Calls Tryz.prog 29 #[.pointer (some ⟨b, 0, none⟩), .agg #[.int .i64 kd, .string x, .int .i64 nm, .int .i64 ps], .int .i64 e] w fun ev w' => ev = .returned (.tuple #[]) ∧
  ∃ sv', St w' b s e sv' (ts ++ [⟨kd, x.toList, nm, ps⟩]) ∧ Below b w w' := by
 obtain ⟨hblk, hown⟩ := h
 have hlt := blk_lt hblk
 have c2 : w.cell? ⟨b, 2, none⟩ = some sv := zv hblk 2
 have f1 : w.frozen? ⟨b, 1, none⟩ = false := yT hblk 1
 have f2 : w.frozen? ⟨b, 2, none⟩ = false := yT hblk 2
 obtain ⟨i0, hi, hz0, hz1, hz2⟩ := info_parts Tryz.info35
 have HO := zm ((hown.alloc (.cells #[.int .i64 kd, .string x, .int .i64 nm, .int .i64 ps] 85)).alloc (.cells #[.int .i64 kd, .string x, .int .i64 nm, .int .i64 ps] 85))
 have HB := zm (blk_alloc (blk_alloc hblk (.cells #[.int .i64 kd, .string x, .int .i64 nm, .int .i64 ps] 85)) (.cells #[.int .i64 kd, .string x, .int .i64 nm, .int .i64 ps] 85))
 have HN := zm (World.news_of_block (w := (w.alloc (.cells #[.int .i64 kd, .string x, .int .i64 nm, .int .i64 ps] 85)).alloc (.cells #[.int .i64 kd, .string x, .int .i64 nm, .int .i64 ps] 85)) (B := w.heap.size + 1) (cs := #[.int .i64 kd, .string x, .int .i64 nm, .int .i64 ps]) (t := 85) (fr := (0, 0)) (by rw [yW _ _ zK]))
 have HE := zm (own_ne hown)
 have HL : Hid (b + 1 ≤ w.heap.size) := by exact hlt
 clear hblk hown
 go_enter Tryz.func29, Tryz.ntmps29
 go_wp2
 go_region_law (refine step_append_lies _ rfl (.tmp 10) (.tmp 12) 34 rfl (b + 1) 85 i0 _ 4 40 Tryz.underlying34 hi hz0 hz1 hz2 rfl dc sv ts.length (yi ts) zH (own_heap rfl (zk HO)) ⟨w.heap.size + 1, 0, none⟩ 1 1 [.int .i64 kd, .string x, .int .i64 nm, .int .i64 ps] zH rfl (zk HN) (by simp [Value.oneCell']) dc (by unfold maxLen; omega) om (Nat.le_trans (zk HL) sp) _ rfl ?_; intro g cap w1 hown1 hgrow hat hg1; have k1 := (hgrow.block b (Nat.lt_of_lt_of_le (zk HL) sp) (zk HE)).trans (zk HB); have q1 := zv k1 1; have q2 := zv k1 2; have g1 := yT k1 1; have g2 := yT k1 2; have K1 := zm k1; have HO1 := zm hown1; have HG1 := zm hgrow; clear k1 hown1 hgrow hat hg1)
 all_goals
  go_wp2
  go_end0
  refine ⟨rfl, _, ⟨by rw [setCell_blk (setCell_blk (zk K1) 2 _) 1 _]; rfl, ?_⟩, ?_⟩
  ·rw [toks_push, List.length_append]
   exact ownsRow_setCell_below (ownsRow_setCell_below (zk HO1) (Nat.lt_succ_self b) _) (Nat.lt_succ_self b) _
  ·exact ((((((Below.refl b w).alloc om _).alloc sp _).drew).grown (zk HG1) sp (fun j hj => by have := ((zk HO).lt j hj).1; omega)).setCell (Nat.le_refl b) _).setCell (Nat.le_refl b) _
end Go.Proofs.YtheknbfbneghgaaGreatDoor
