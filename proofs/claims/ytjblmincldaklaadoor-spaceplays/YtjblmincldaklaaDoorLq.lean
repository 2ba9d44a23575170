/- The twin's list of blocks. -/
import Derived.Test.YtjblmincldaklaaDoorD0
import Derived.Test.YtjblmincldaklaaDoorRg1
namespace Go.Proofs.YtjblmincldaklaaDoor
open Go.RowKit Go.Proofs.YtjblmincldaklaaDoor.Hp
/-- The made blocks' list in memory: five cells a block. -/
structure Lb where
  at_ : Nat
  kd : Int
  sz : Int
  ms : Int
  wa : Option Addr
  wn : Nat
  wc : Nat
def lbCells (b : Lb) : List Value := [.int .i64 b.at_, .int .i64 b.kd, .int .i64 b.sz, .int .i64 b.ms, .slice b.wa b.wn b.wc]
def lbAll (L : List Lb) : List Value := L.flatMap lbCells
def lcell (F : Nat → Lb) (i : Nat) : Value := (lbCells (F (i / 5))).getD (i % 5) undef
theorem lbAll_len (L : List Lb) : (lbAll L).length = L.length * 5 := by
  induction L with
  | nil => rfl
  | cons a L ih =>
    have : lbAll (a :: L) = lbCells a ++ lbAll L := rfl
    rw [this, List.length_append, ih, List.length_cons]
    simp [lbCells]; omega
theorem lbAll_get : ∀ (L : List Lb) (i j : Nat) (b : Lb), L[i]? = some b → j < 5 → (lbAll L)[i * 5 + j]? = (lbCells b)[j]?
  | [], i, j, b, h, _ => by simp at h
  | c :: L, 0, j, b, h, hj => by
    simp at h; subst h
    show (lbCells c ++ lbAll L)[0 * 5 + j]? = _
    rw [Nat.zero_mul, Nat.zero_add, List.getElem?_append_left (by simp [lbCells]; omega)]
  | c :: L, i + 1, j, b, h, hj => by
    have ih := lbAll_get L i j b (by simpa using h) hj
    show (lbCells c ++ lbAll L)[(i + 1) * 5 + j]? = _
    rw [List.getElem?_append_right (by simp [lbCells]; omega)]
    have : (i + 1) * 5 + j - (lbCells c).length = i * 5 + j := by simp [lbCells]; omega
    rw [this]
    exact ih
theorem lb_one (b : Lb) : ∀ u ∈ lbCells b, u.oneCell' = true := by
  intro u hu
  simp only [lbCells, List.mem_cons, List.mem_nil_iff, or_false] at hu
  rcases hu with rfl | rfl | rfl | rfl | rfl <;> rfl
theorem lb_news {w : World} (b : Lb) : ∀ j u, (lbCells b)[j]? = some u → (w.alloc (.cells #[.int .i64 b.at_, .int .i64 b.kd, .int .i64 b.sz, .int .i64 b.ms, .slice b.wa b.wn b.wc] 62)).cell? ((⟨w.heap.size, 0, none⟩ : Addr).add j) = some u := by
  intro j u hj
  have e : (⟨w.heap.size, 0, none⟩ : Addr).add j = ⟨w.heap.size, j, none⟩ := by
    unfold Addr.add
    split
    · rename_i h; rw [h]
    · simp
  rw [e, World.cell?_alloc_at _ _ _ _ rfl, ← hj]
  simp [lbCells]
theorem lcell_at (F : Nat → Lb) (i j : Nat) (hj : j < 5) : lcell F (i * 5 + j) = (lbCells (F i)).getD j undef := by
  unfold lcell
  rw [show (i * 5 + j) / 5 = i by omega, show (i * 5 + j) % 5 = j by omega]
end Go.Proofs.YtjblmincldaklaaDoor
