/- Rows of numbers in memory; what a call leaves as it was. -/
import Derived.Test.YtidacjkpioenhaaChecked
import Derived.WalkKit
import Derived.WalkSpells
import Derived.WalkLawsBesides
import Derived.Deep.QuietTactic
import Derived.BigQuiet
import Derived.Deep.AppendSrc
import Derived.Deep.Upon
import Derived.Laws.IdiomCopy
import Derived.Laws.Small
namespace Go.Proofs.Ytidacjkpioenhaa
open Go.RowKit
theorem hide {p : Prop} (h : p) : Hid p := h
theorem unhide {p : Prop} (h : Hid p) : p := h
theorem ret_bool {a b : Bool} (h : a = b) : Ending.returned (.bool a) = .returned (.bool b) := by rw [h]
theorem ret_int {k : IntKind} {a b : Int} (h : a = b) : Ending.returned (.int k a) = .returned (.int k b) := by rw [h]

/-- All that was there is as it was, but for blocks of K. -/
structure Fr (K : Nat → Prop) (w w' : World) : Prop where
  os : w'.os = w.os
  tape : w'.tape = w.tape
  output : w'.output = w.output
  size : w.heap.size ≤ w'.heap.size
  block : ∀ k, k < w.heap.size → ¬ K k → w'.heap[k]? = w.heap[k]?
theorem Fr.refl (K : Nat → Prop) (w : World) : Fr K w w := ⟨rfl, rfl, rfl, Nat.le_refl _, fun _ _ _ => rfl⟩
theorem Fr.trans {K : Nat → Prop} {a b c : World} (h : Fr K a b) (k : Fr K b c) : Fr K a c :=
  ⟨k.os.trans h.os, k.tape.trans h.tape, k.output.trans h.output, Nat.le_trans h.size k.size, fun i hi hk => (k.block i (Nat.lt_of_lt_of_le hi h.size) hk).trans (h.block i hi hk)⟩
theorem Fr.mono {K L : Nat → Prop} {a b : World} (h : Fr K a b) (hk : ∀ i, K i → L i) : Fr L a b :=
  ⟨h.os, h.tape, h.output, h.size, fun i hi hl => h.block i hi fun x => hl (hk i x)⟩
/-- Only blocks that were there count. -/
theorem Fr.low {K L : Nat → Prop} {a b : World} (h : Fr K a b) (hk : ∀ i, i < a.heap.size → K i → L i) : Fr L a b :=
  ⟨h.os, h.tape, h.output, h.size, fun i hi hl => h.block i hi fun x => hl (hk i hi x)⟩
theorem Fr.drew {K : Nat → Prop} {a w : World} (h : Fr K a w) : Fr K a w.drew := ⟨h.os, h.tape, h.output, h.size, h.block⟩
theorem Fr.alloc {K : Nat → Prop} {a w : World} (h : Fr K a w) (o : Obj) : Fr K a (w.alloc o) :=
  h.trans ⟨rfl, rfl, rfl, by simp, fun k hk _ => Below.heap_alloc _ _ _ hk⟩
theorem Fr.setCell {K : Nat → Prop} {a w : World} (h : Fr K a w) {p : Addr} (hp : K p.block) (u : Value) : Fr K a (w.setCell p u) :=
  h.trans ⟨rfl, rfl, rfl, by simp [World.setCell], fun k _ hk => Below.heap_setCell _ _ _ _ (fun e => hk (e ▸ hp))⟩
theorem Fr.setCells {K : Nat → Prop} {a : World} {b : Nat} (hb : K b) : ∀ (vs : List Value) (o : Nat) {w : World}, Fr K a w → Fr K a (w.setCells b o vs)
  | [], _, _, h => h
  | v :: r, o, _, h => Fr.setCells hb r (o + 1) (h.setCell (p := ⟨b, o, none⟩) hb v)
theorem Fr.below {K : Nat → Prop} {w w' : World} {n : Nat} (h : Fr K w w') (hn : n ≤ w.heap.size) (hk : ∀ k, K k → n ≤ k) : Below n w w' :=
  ⟨h.os, h.tape, h.output, h.size, fun k hkn => h.block k (by omega) fun x => by have := hk k x; omega⟩
theorem Fr.cell {K : Nat → Prop} {w w' : World} (h : Fr K w w') {b i : Nat} {u : Value} (hc : w.cell? ⟨b, i, none⟩ = some u) (hb : ¬ K b) : w'.cell? ⟨b, i, none⟩ = some u :=
  (World.cell?_of_block (w := w) (a := ⟨b, i, none⟩) (h.block b (World.block_lt_of_cell? w ⟨b, i, none⟩ hc) hb)).trans hc
theorem Fr.free {K : Nat → Prop} {w w' : World} (h : Fr K w w') {b i : Nat} (hl : b < w.heap.size) (hc : w.frozen? ⟨b, i, none⟩ = false) (hb : ¬ K b) : w'.frozen? ⟨b, i, none⟩ = false :=
  (World.frozen?_of_block (w := w) (a := ⟨b, i, none⟩) (h.block b hl hb)).trans hc
theorem Fr.up {K : Nat → Prop} {w0 w w' : World} (h : Fr (fun _ => False) w0 w) (k : Fr K w w') (hk : ∀ b, K b → w0.heap.size ≤ b) : Fr (fun _ => False) w0 w' :=
  ⟨k.os.trans h.os, k.tape.trans h.tape, k.output.trans h.output, Nat.le_trans h.size k.size, fun i hi _ => (k.block i (Nat.lt_of_lt_of_le hi h.size) (fun x => by have := hk i x; omega)).trans (h.block i hi id)⟩

/-- Numbers that lie behind an address. -/
def IntsAt (w : World) (ao : Option Addr) (zs : List Int) : Prop := ∀ j, j < zs.length → ∃ b off, ao = some ⟨b, off, none⟩ ∧ b < w.heap.size ∧ w.cell? ⟨b, off + j, none⟩ = some (.int .i64 (zs.getD j 0))
theorem IntsAt.fr {K : Nat → Prop} {w w' : World} {ao : Option Addr} {zs : List Int} (h : IntsAt w ao zs) (k : Fr K w w') (hb : ∀ b off, ao = some ⟨b, off, none⟩ → b < w.heap.size → ¬ K b) : IntsAt w' ao zs := by
  intro j hj
  obtain ⟨b, off, e, hl, hc⟩ := h j hj
  exact ⟨b, off, e, Nat.lt_of_lt_of_le hl k.size, k.cell hc (hb b off e hl)⟩
theorem IntsAt.quiet {w w' : World} {ao : Option Addr} {zs : List Int} (h : IntsAt w ao zs) (k : Fr (fun _ => False) w w') : IntsAt w' ao zs := h.fr k fun _ _ _ _ => id
theorem IntsAt.nil (w : World) (ao : Option Addr) : IntsAt w ao [] := fun j hj => absurd hj (by simp)
/-- Numbers of one's own, of which the first may lie within the block b; there is room for cap of them. -/
def Own (w : World) (v : Value) (ib : Option Nat) (zs : List Int) : Prop :=
  (v = .slice none 0 0 ∧ zs = [] ∧ ib = none) ∨
  ∃ g off cap, v = .slice (some ⟨g, off, none⟩) zs.length cap ∧ ib = some g ∧ g < w.heap.size ∧ zs.length ≤ cap ∧
    (∀ j, j < cap → (w.cell? ⟨g, off + j, none⟩).isSome = true ∧ w.frozen? ⟨g, off + j, none⟩ = false) ∧ ∀ j, j < zs.length → w.cell? ⟨g, off + j, none⟩ = some (.int .i64 (zs.getD j 0))
theorem Own.nil (w : World) : Own w (.slice none 0 0) none [] := .inl ⟨rfl, rfl, rfl⟩
theorem Own.lt {w : World} {v : Value} {ib : Option Nat} {zs : List Int} (h : Own w v ib zs) : ∀ k, ib = some k → k < w.heap.size := by
  intro k hk
  rcases h with ⟨_, _, e⟩ | ⟨g, off, cap, _, e, hl, _⟩
  · rw [e] at hk; cases hk
  · rw [e] at hk; cases hk; exact hl
theorem Own.fr {K : Nat → Prop} {w w' : World} {v : Value} {ib : Option Nat} {zs : List Int} (h : Own w v ib zs) (k : Fr K w w') (hb : ∀ g, ib = some g → ¬ K g) : Own w' v ib zs := by
  rcases h with h | ⟨g, off, cap, hv, e, hl, hle, hs, hc⟩
  · exact .inl h
  · refine .inr ⟨g, off, cap, hv, e, Nat.lt_of_lt_of_le hl k.size, hle, fun j hj => ?_, fun j hj => k.cell (hc j hj) (hb g e)⟩
    obtain ⟨h1, h2⟩ := hs j hj
    obtain ⟨u, hu⟩ := Option.isSome_iff_exists.1 h1
    exact ⟨by rw [k.cell hu (hb g e)]; rfl, k.free hl h2 (hb g e)⟩
theorem Own.ints {w : World} {ao : Option Addr} {n cap : Nat} {ib : Option Nat} {zs : List Int} (h : Own w (.slice ao n cap) ib zs) : IntsAt w ao zs := by
  intro j hj
  rcases h with ⟨_, e, _⟩ | ⟨g, off, cap', hv, e, hl, hle, hs, hc⟩
  · rw [e] at hj; simp at hj
  · cases hv
    exact ⟨g, off, rfl, hl, hc j hj⟩
theorem Own.form {w : World} {v : Value} {ib : Option Nat} {zs : List Int} (h : Own w v ib zs) : ∃ ao cap, v = .slice ao zs.length cap ∧ zs.length ≤ cap ∧ ∀ a, ao = some a → ib = some a.block := by
  rcases h with ⟨rfl, rfl, _⟩ | ⟨g, off, cap, hv, e, hl, hle, hs, hc⟩
  · exact ⟨none, 0, rfl, Nat.le_refl _, fun a h => by cases h⟩
  · exact ⟨_, cap, hv, hle, fun a h => by cases h; exact e⟩
/-- The first one is cut off. -/
theorem Own.tail {w : World} {b off cap : Nat} {ib : Option Nat} {z : Int} {zs : List Int} {n : Nat} (h : Own w (.slice (some ⟨b, off, none⟩) n cap) ib (z :: zs)) :
    (cap ≠ 1 → Own w (.slice (some ⟨b, off + 1, none⟩) zs.length (cap - 1)) ib zs) ∧ (cap = 1 → Own w (.slice (some ⟨b, off, none⟩) 0 0) ib zs) := by
  rcases h with ⟨_, e, _⟩ | ⟨g, off', cap', hv, e, hl, hle, hs, hc⟩
  · cases e
  · cases hv
    simp only [List.length_cons] at hle hc
    constructor
    · intro _
      refine .inr ⟨b, off + 1, cap - 1, rfl, e, hl, by omega, fun j hj => ?_, fun j hj => ?_⟩
      · have := hs (j + 1) (by omega)
        rwa [show off + (j + 1) = off + 1 + j by omega] at this
      · have := hc (j + 1) (by omega)
        rw [show off + (j + 1) = off + 1 + j by omega] at this
        simpa using this
    · intro h1
      obtain rfl : zs = [] := List.eq_nil_of_length_eq_zero (by omega)
      exact .inr ⟨b, off, 0, rfl, e, hl, by simp, fun j hj => by omega, fun j hj => by simp at hj⟩
theorem info_parts {i : Option TypeInfo} {z : Option Value} {s b : Nat} (h : i.map (fun i => (i.zero, i.size, i.bytes)) = some (z, s, b)) : ∃ j, i = some j ∧ j.zero = z ∧ j.size = s ∧ j.bytes = b := by
  obtain ⟨j, h1, h2⟩ := Option.map_eq_some_iff.1 h
  simp only [Prod.mk.injEq] at h2
  exact ⟨j, h1, h2.1, h2.2.1, h2.2.2⟩
end Go.Proofs.Ytidacjkpioenhaa
