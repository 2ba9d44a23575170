/- Rows of cells; what a call leaves as it was. -/
import Derived.Test.YtogjblikljggbaaDoorBt
namespace Go.Proofs.YtogjblikljggbaaDoor
open Go.RowKit Go.Proofs.YtogjblikljggbaaDoor.Hp

/-- The first m cells of block b. -/
def Row (w : World) (b m : Nat) (f : Nat → Value) : Prop := ∀ i, i < m → w.cell? ⟨b, i, none⟩ = some (f i) ∧ w.frozen? ⟨b, i, none⟩ = false
theorem Row.set {w : World} {b m : Nat} {f : Nat → Value} (h : Row w b m f) (i : Nat) (v : Value) (hi : i < m) : Row (w.setCell ⟨b, i, none⟩ v) b m (upd f i v) := by
  intro j hj
  refine ⟨?_, by rw [World.frozen?_setCell]; exact (h j hj).2⟩
  by_cases e : j = i
  · subst e; rw [upd_same]; exact World.cell?_setCell_same _ _ _ (h j hj).1
  · rw [upd_ne _ _ e, World.cell?_setCell_other _ _ _ _ (by intro e'; exact e (by injection e' with _ e2; exact e2.symm))]; exact (h j hj).1
theorem Row.same {w w' : World} {b m : Nat} {f : Nat → Value} (h : Row w b m f) (e : w'.heap[b]? = w.heap[b]?) : Row w' b m f := by
  intro i hi
  exact ⟨(World.cell?_of_block (w := w) (a := ⟨b, i, none⟩) e).trans (h i hi).1, (World.frozen?_of_block (w := w) (a := ⟨b, i, none⟩) e).trans (h i hi).2⟩
theorem Row.ext {w : World} {b m : Nat} {f g : Nat → Value} (h : Row w b m f) (e : ∀ i, i < m → f i = g i) : Row w b m g := fun i hi => by rw [← e i hi]; exact h i hi
theorem Row.lt {w : World} {b m : Nat} {f : Nat → Value} (h : Row w b m f) (hm : 0 < m) : b < w.heap.size := World.block_lt_of_cell? w ⟨b, 0, none⟩ (h 0 hm).1

/-- All that was there is as it was, but for blocks of K. -/
structure Fr (K : Nat → Prop) (w w' : World) : Prop where
  os : w'.os = w.os
  tape : w'.tape = w.tape
  output : w'.output = w.output
  size : w.heap.size ≤ w'.heap.size
  block : ∀ k, k < w.heap.size → ¬ K k → w'.heap[k]? = w.heap[k]?
theorem Fr.refl (K : Nat → Prop) (w : World) : Fr K w w := ⟨rfl, rfl, rfl, Nat.le_refl _, fun _ _ _ => rfl⟩
theorem Fr.trans {K : Nat → Prop} {a b c : World} (h : Fr K a b) (k : Fr K b c) : Fr K a c :=
  ⟨k.os.trans h.os, k.tape.trans h.tape, k.output.trans h.output, Nat.le_trans h.size k.size, fun i hi hk => (k.block i (Nat.lt_of_lt_of_le hi h.size) hk).trans (h.block i hi hk)⟩
theorem Fr.mono {K L : Nat → Prop} {a b : World} (h : Fr K a b) (hk : ∀ i, K i → L i) : Fr L a b :=
  ⟨h.os, h.tape, h.output, h.size, fun i hi hl => h.block i hi fun x => hl (hk i x)⟩
theorem Fr.drew {K : Nat → Prop} {a w : World} (h : Fr K a w) : Fr K a w.drew := ⟨h.os, h.tape, h.output, h.size, h.block⟩
theorem Fr.alloc {K : Nat → Prop} {a w : World} (h : Fr K a w) (o : Obj) : Fr K a (w.alloc o) :=
  h.trans ⟨rfl, rfl, rfl, by simp, fun k hk _ => Below.heap_alloc _ _ _ hk⟩
theorem Fr.setCell {K : Nat → Prop} {a w : World} (h : Fr K a w) {p : Addr} (hp : K p.block) (u : Value) : Fr K a (w.setCell p u) :=
  h.trans ⟨rfl, rfl, rfl, by simp [World.setCell], fun k _ hk => Below.heap_setCell _ _ _ _ (fun e => hk (e ▸ hp))⟩
theorem Fr.below {K : Nat → Prop} {w w' : World} {n : Nat} (h : Fr K w w') (hn : n ≤ w.heap.size) (hk : ∀ k, K k → n ≤ k) : Below n w w' :=
  ⟨h.os, h.tape, h.output, h.size, fun k hkn => h.block k (by omega) fun x => by have := hk k x; omega⟩
theorem Row.fr {w w' : World} {b m : Nat} {f : Nat → Value} {K : Nat → Prop} (h : Row w b m f) (k : Fr K w w') (hb : ¬ K b) : Row w' b m f := by
  intro i hi
  exact h.same (k.block b (h.lt (by omega)) hb) i hi

/-- A set of spans, a bit each, in m words. -/
def SetAt (w : World) (b m : Nat) (S : Nat → Bool) : Prop := Row w b m (fun i => .int .u64 (wordN (fun j => S (64 * i + j)) 64))
theorem SetAt.upd {w : World} {b m : Nat} {S : Nat → Bool} (h : SetAt w b m S) (s : Nat) (v : Bool) (hs : s < 64 * m) :
    SetAt (w.setCell ⟨b, s / 64, none⟩ (.int .u64 (wordN (fun j => upd S s v (64 * (s / 64) + j)) 64))) b m (upd S s v) := by
  refine (Row.set h (s / 64) _ (by omega)).ext fun i hi => ?_
  by_cases e : i = s / 64
  · rw [e, upd_same]
  · rw [upd_ne _ _ e]
    congr 2
    exact wordN_ext fun j hj => by rw [upd_ne]; omega
theorem set_or (S : Nat → Bool) (s : Nat) : bits .or .u64 (wordN (fun j => S (64 * (s / 64) + j)) 64 : Nat) (IntKind.u64.wrap (2 ^ (s % 64))) = (wordN (fun j => upd S s true (64 * (s / 64) + j)) 64 : Nat) := by
  have hp : 2 ^ (s % 64) < 2 ^ 64 := Nat.pow_lt_pow_right (by decide) (show s % 64 < 64 by omega)
  have e : IntKind.u64.wrap (2 ^ (s % 64)) = ((2 ^ (s % 64) : Nat) : Int) := by
    rw [IntKind.wrap_u64, show (2 : Int) ^ (s % 64) = ((2 ^ (s % 64) : Nat) : Int) by simp]
    generalize 2 ^ (s % 64) = z at hp ⊢
    omega
  rw [e, u64_or_nat _ _ (wordN_lt _ 64) hp, wordN_or _ _ _ (by omega)]
  congr 1
  exact wordN_ext fun j hj => by
    unfold upd
    simp only [show (j = s % 64) ↔ (64 * (s / 64) + j = s) by omega]
theorem set_andNot (S : Nat → Bool) (s : Nat) : bits .andNot .u64 (wordN (fun j => S (64 * (s / 64) + j)) 64 : Nat) (IntKind.u64.wrap (2 ^ (s % 64))) = (wordN (fun j => upd S s false (64 * (s / 64) + j)) 64 : Nat) := by
  have hp : 2 ^ (s % 64) < 2 ^ 64 := Nat.pow_lt_pow_right (by decide) (show s % 64 < 64 by omega)
  have e : IntKind.u64.wrap (2 ^ (s % 64)) = ((2 ^ (s % 64) : Nat) : Int) := by
    rw [IntKind.wrap_u64, show (2 : Int) ^ (s % 64) = ((2 ^ (s % 64) : Nat) : Int) by simp]
    generalize 2 ^ (s % 64) = z at hp ⊢
    omega
  rw [e, u64_andNot_nat _ _ (wordN_lt _ 64) hp, show 18446744073709551615 - 2 ^ (s % 64) = 2 ^ 64 - 1 - 2 ^ (s % 64) from rfl, wordN_andNot _ _ _ (by omega)]
  congr 1
  exact wordN_ext fun j hj => by
    unfold upd
    simp only [show (j = s % 64) ↔ (64 * (s / 64) + j = s) by omega]
end Go.Proofs.YtogjblikljggbaaDoor
