/- HeapReuses, walked. -/
import Derived.Test.YtogjblikljggbaaDoorRe1
namespace Go.Proofs.YtogjblikljggbaaDoor
open Go.RowKit Go.Proofs.YtogjblikljggbaaDoor.Hp
theorem own_blk {w w' : World} {base e size n : Nat} {v : Value} {xs : List Value} (h : w.ownsRow base e size v n xs) (hb : ∀ g, v.ownBlock = some g → w'.heap[g]? = w.heap[g]?) : w'.ownsRow base e size v n xs := by
  refine ⟨h.1, ?_⟩
  rcases h.2 with h2 | ⟨g, cap, cur, rfl, h3, h4, h5⟩
  · exact .inl h2
  · exact .inr ⟨g, cap, cur, rfl, h3, (hb g rfl).trans h4, h5⟩
theorem own_fr {w w' : World} {K : Nat → Prop} {base e size n : Nat} {v : Value} {xs : List Value} (h : w.ownsRow base e size v n xs) (k : Fr K w w') (hb : ∀ j, K j → j < base) : w'.ownsRow base e size v n xs :=
  own_blk h fun g hg => k.block g (h.lt g hg).2 fun x => by have := hb g x; have := (h.lt g hg).1; omega
theorem own_form {w : World} {base e size n : Nat} {v : Value} {xs : List Value} (h : w.ownsRow base e size v n xs) : ∃ ao cp, v = .slice ao n cp ∧ (0 < n → ∃ g, ao = some ⟨g, 0, none⟩) := by
  rcases h.2 with ⟨h2, h3⟩ | ⟨g, cap, cur, h2, _⟩
  · exact ⟨none, 0, by rw [h2, h3], fun hn => by omega⟩
  · exact ⟨_, cap, h2, fun _ => ⟨g, rfl⟩⟩
theorem Fr.grown {w w' : World} {row : Option Nat} (h : w.grownBy w' row) : Fr (fun k => some k = row) w w' := ⟨h.os, h.tape, h.output, h.size, fun k hk hn => h.block k hk hn⟩
def adL (ad : Nat → Nat) (k : Nat) : List Value := (List.range k).map fun j => .int .i64 (ad j)
theorem adL_len (ad : Nat → Nat) (k : Nat) : (adL ad k).length = k := by simp [adL]
theorem adL_succ (ad : Nat → Nat) (k : Nat) : adL ad k ++ [.int .i64 (ad k)] = adL ad (k + 1) := by simp [adL, List.range_succ]
theorem adL_get (ad : Nat → Nat) {j k : Nat} (h : j < k) : (adL ad k)[j]? = some (.int .i64 (ad j)) := by simp [adL, h]
/-- Addresses in a slice of the law's own, beside the heap. -/
structure L1 (w0 w : World) (B : HB) (base n : Nat) (ad : Nat → Nat) (A : Nat → Kd) (k : Nat) (v : Value) : Prop where
  own : w.ownsRow base 3 1 v k (adL ad k)
  hp : ∃ wd, At w B n (hrOf A wd)
  far : Fr (fun _ => False) w0 w
  vars : Vars w
  le : base ≤ w.heap.size
theorem L1.heap {w0 w w' : World} {B : HB} {base n k : Nat} {ad : Nat → Nat} {A A' : Nat → Kd} {v : Value} (h : L1 w0 w B base n ad A k v) (hB : ∀ j, B.mem j → w0.heap.size ≤ j ∧ j < base) (hF : Fr B.mem w w') (hV : Vars w') {wd : Nat → Int} (hA : At w' B n (hrOf A' wd)) : L1 w0 w' B base n ad A' k v :=
  ⟨own_fr h.own hF (fun j hj => (hB j hj).2), ⟨wd, hA⟩, h.far.up hF (fun j hj => (hB j hj).1), hV, Nat.le_trans h.le hF.size⟩
theorem L1.push {w0 w w1 : World} {B : HB} {base n k : Nat} {ad : Nat → Nat} {A : Nat → Kd} {v v' : Value} (h : L1 w0 w B base n ad A k v) (hB : ∀ j, B.mem j → w0.heap.size ≤ j ∧ j < base) (h2 : 2 ≤ w0.heap.size) (hb : w0.heap.size ≤ base) (o : Obj)
    (ho : w1.ownsRow base 3 1 v' (k + 1) (adL ad k ++ [.int .i64 (ad k)])) (hg : (w.alloc o).grownBy w1 v.ownBlock) : L1 w0 w1 B base n ad A (k + 1) v' := by
  have hlt : ∀ g, v.ownBlock = some g → base ≤ g := fun g hg => (h.own.lt g hg).1
  have hF : Fr (fun j => some j = v.ownBlock) w w1 := ((Fr.refl _ w).alloc o).trans (Fr.grown hg)
  have hn : ∀ j, j < base → ¬ (some j = v.ownBlock) := fun j hj e => by have := hlt j e.symm; omega
  obtain ⟨wd, hA⟩ := h.hp
  refine ⟨by rw [← adL_succ]; exact ho, ⟨wd, hA.fr' hF fun b hb' => hn b (hB b hb').2⟩, h.far.up hF (fun j hj => Nat.le_trans hb (hlt j hj.symm)), h.vars.fr hF (hn 0 (by omega)) (hn 1 (by omega)), Nat.le_trans h.le hF.size⟩
theorem L1.cell {w0 w : World} {B : HB} {base n k g cp : Nat} {ad : Nat → Nat} {A : Nat → Kd} (h : L1 w0 w B base n ad A k (.slice (some ⟨g, 0, none⟩) k cp)) {j : Nat} (hj : j < k) : w.cell? ⟨g, j, none⟩ = some (.int .i64 (ad j)) := by
  rw [h.own.cellAt j (by omega), adL_get ad hj]
theorem L1.quiet {w0 w w' : World} {B : HB} {base n k : Nat} {ad : Nat → Nat} {A : Nat → Kd} {v : Value} (h : L1 w0 w B base n ad A k v) (hF : Fr (fun _ => False) w w') : L1 w0 w' B base n ad A k v := by
  obtain ⟨wd, hA⟩ := h.hp
  exact ⟨own_fr h.own hF (fun j hj => hj.elim), ⟨wd, hA.quiet hF⟩, h.far.trans hF, h.vars.fr hF id id, Nat.le_trans h.le hF.size⟩
theorem L1.beside {w0 w w' : World} {B : HB} {base n k gb : Nat} {ad : Nat → Nat} {A : Nat → Kd} {v : Value} (h : L1 w0 w B base n ad A k v) (hB : ∀ j, B.mem j → w0.heap.size ≤ j ∧ j < base) (h2 : 2 ≤ w0.heap.size) (hb : w0.heap.size ≤ base) (hg : base ≤ gb) (hn : v.ownBlock ≠ some gb) (hF : Fr (· = gb) w w') : L1 w0 w' B base n ad A k v := by
  obtain ⟨wd, hA⟩ := h.hp
  exact ⟨own_blk h.own (fun g hgv => hF.block g (h.own.lt g hgv).2 (fun e => hn (by rw [hgv, e]))), ⟨wd, hA.fr' hF fun b hb' e => by have := (hB b hb').2; omega⟩, h.far.up hF (fun j hj => by omega), h.vars.fr hF (by omega) (by omega), Nat.le_trans h.le hF.size⟩
theorem Alloc_some (B : HB) (n : Nat) (A : Nat → Kd) (wd : Nat → Int) (m : Nat) (w : World) (h : At w B n (hrOf A wd)) (hI : Inv n A) (hV : Vars w) (h0 : ∀ k, B.mem k → 2 ≤ k) (hm : 1 ≤ m) (hm2 : m ≤ 16448) (hn : ¬ NoPlace n A m) :
    Calls Tryd.prog 31 #[B.ptr, .int .i64 m] w fun e w' => ∃ a A', Goes n A m a A' ∧ e = .returned (.tuple #[.int .i64 ((a : Nat) : Int), .bool true]) ∧ Fr B.mem w w' ∧ Vars w' ∧ Inv n A' ∧ At w' B n (hrOf A' (clearW wd a (roomOfM m))) := by
  have h00 : ¬ B.mem 0 := fun x => by have := h0 0 x; omega
  have h01 : ¬ B.mem 1 := fun x => by have := h0 1 x; omega
  refine (Alloc_any B n A wd (m : Int) w h hI hV h00 h01).mono ?_
  rintro e w' ⟨hF, ⟨a', A1, _, _, g', rfl, hA⟩ | ⟨hn', rfl, hA⟩⟩
  · exact ⟨a', A1, g', rfl, hF, hV.fr hF h00 h01, g'.inv hI hm2, hA⟩
  · rcases hn' with hn' | hn' | hn'
    · omega
    · omega
    · exact absurd hn' hn
end Go.Proofs.YtogjblikljggbaaDoor
