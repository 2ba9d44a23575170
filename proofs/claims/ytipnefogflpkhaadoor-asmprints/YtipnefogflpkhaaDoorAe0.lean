/- Names, what each instruction uses. -/
import Derived.Test.YtipnefogflpkhaaDoorAd0
set_option linter.unusedVariables false
set_option linter.unusedSimpArgs false
namespace Go.Proofs.YtipnefogflpkhaaDoor
open Go.RowKit
def nmL : List (List UInt8) := [[63], [99, 111, 110, 115, 116], [116, 101, 120, 116], [100, 105, 114, 101, 99, 116], [99, 108, 111, 115, 117, 114, 101], [109, 111, 118, 101], [103, 101, 116, 103, 108, 111, 98, 97, 108], [115, 101, 116, 103, 108, 111, 98, 97, 108], [109, 97, 107, 101, 98, 111, 120], [103, 101, 116, 98, 111, 120], [115, 101, 116, 98, 111, 120], [110, 101, 103], [110, 111, 116], [97, 100, 100], [115, 117, 98], [109, 117, 108], [100, 105, 118], [109, 111, 100], [108, 116], [108, 101], [101, 113], [110, 101], [106, 111, 105, 110], [116, 101, 120, 116, 101, 113], [116, 101, 120, 116, 108, 116], [116, 101, 120, 116, 108, 101], [106, 117, 109, 112], [117, 110, 108, 101, 115, 115], [110, 101, 119, 111, 98, 106, 101, 99, 116], [103, 101, 116, 102, 105, 101, 108, 100], [115, 101, 116, 102, 105, 101, 108, 100], [108, 105, 115, 116], [109, 97, 107, 101, 115, 108, 105, 99, 101], [109, 97, 107, 101, 99, 104, 97, 110], [105, 110, 100, 101, 120], [115, 101, 116, 105, 110, 100, 101, 120], [116, 101, 120, 116, 105, 110, 100, 101, 120], [115, 108, 105, 99, 101], [115, 117, 98, 116, 101, 120, 116], [97, 112, 112, 101, 110, 100], [116, 101, 120, 116, 108, 101, 110], [115, 108, 105, 99, 101, 108, 101, 110], [115, 108, 105, 99, 101, 99, 97, 112], [99, 104, 97, 110, 108, 101, 110], [99, 104, 97, 110, 99, 97, 112], [99, 97, 108, 108], [103, 111], [100, 101, 102, 101, 114], [114, 101, 116, 117, 114, 110], [115, 101, 110, 100], [114, 101, 99, 118], [99, 108, 111, 115, 101], [115, 101, 108, 101, 99, 116], [112, 114, 105, 110, 116], [112, 97, 110, 105, 99], [114, 101, 99, 111, 118, 101, 114], [121, 105, 101, 108, 100]]
def usL : List (List UInt8) := [[], [65, 66], [65, 66], [65, 66], [65, 66, 76], [65, 66], [65, 66], [65, 66], [65, 66], [65, 66], [65, 66], [65, 66], [65, 66], [65, 66, 67], [65, 66, 67], [65, 66, 67], [65, 66, 67], [65, 66, 67], [65, 66, 67], [65, 66, 67], [65, 66, 67], [65, 66, 67], [65, 66, 67], [65, 66, 67], [65, 66, 67], [65, 66, 67], [65], [65, 66], [65, 66], [65, 66, 67], [65, 66, 67], [65, 66, 76], [65, 66, 67], [65, 66, 67], [65, 66, 67], [65, 66, 67], [65, 66, 67], [65, 66, 67, 68], [65, 66, 67, 68], [65, 66, 67, 76], [65, 66], [65, 66], [65, 66], [65, 66], [65, 66], [65, 66, 76], [66, 76], [66, 76], [65], [65, 66], [65, 66], [65], [65, 66, 76], [65, 66], [65], [65], []]
def nm (i : Nat) : ByteArray := ⟨(nmL.getD i []).toArray⟩
def us (i : Nat) : ByteArray := ⟨(usL.getD i []).toArray⟩
def nrm (z : Int) : Nat := if 1 ≤ z ∧ z ≤ 56 then z.toNat else 0
theorem nrm_lt (z : Int) : nrm z < 57 := by unfold nrm; split <;> omega
theorem nrm_at {z : Int} {k : Nat} (h : (z == (k : Int)) = true) (h1 : 1 ≤ k) (h2 : k ≤ 56) : nrm z = k := by
  have e : z = (k : Int) := by simpa using h
  subst e
  unfold nrm
  rw [if_pos (by omega)]
  rfl
theorem us_eq {z : Int} {k : Nat} {s : ByteArray} (h : (z == (k : Int)) = true) (h1 : 1 ≤ k) (h2 : k ≤ 56) (hs : us k = s) : Ending.returned (.string s) = .returned (.string (us (nrm z))) := by rw [nrm_at h h1 h2, hs]
set_option maxRecDepth 100000 in
set_option maxHeartbeats 8000000 in
theorem uses_any (w : World) (op : Int) : Calls Tryd.prog 27 #[.int .i64 op] w fun e w' => e = .returned (.string (us (nrm op))) ∧ w' = w := by
  go_enter Tryd.func27, Tryd.ntmps27
  go_wp2
  all_goals go_ret
  all_goals refine ⟨?_, rfl⟩
  all_goals first
    | (rename_i h; exact us_eq h (by decide) (by decide) rfl)
    | (have hq : nrm op = 0 ∨ nrm op = 56 := by
         simp only [beq_eq_false_iff_ne, ne_eq] at *
         unfold nrm
         split <;> omega
       rcases hq with hq | hq <;> (rw [hq]; rfl))
/-- The names as the start lays them. -/
def NamesOk (w : World) : Prop := ∀ i, 1 ≤ i → i < 57 → w.cell? ⟨0, i, none⟩ = some (.string (nm i))
set_option maxRecDepth 100000 in
set_option maxHeartbeats 4000000 in
theorem Name_any (w : World) (op : Int) (hN : NamesOk w) : Calls Tryd.prog 11 #[.int .i64 op] w fun e w' => e = .returned (.string (nm (nrm op))) ∧ w' = w := by
  by_cases h : 1 ≤ op ∧ op ≤ 56
  · obtain ⟨i, rfl⟩ : ∃ i : Nat, op = i := ⟨op.toNat, by omega⟩
    have hc := hN i (by omega) (by omega)
    have e : nrm i = i := by unfold nrm; rw [if_pos h]; rfl
    rw [e]
    have h1 : ¬ (i : Int) < 1 := by omega
    have h2 : ¬ (57 : Int) ≤ (i : Int) := by omega
    go_enter Tryd.func11, Tryd.ntmps11
    go_wp2
    go_ret
    exact ⟨rfl, rfl⟩
  · have e : nrm op = 0 := by unfold nrm; rw [if_neg h]
    rw [e]
    by_cases h1 : op < 1
    · go_enter Tryd.func11, Tryd.ntmps11
      go_wp2
      go_ret
      exact ⟨rfl, rfl⟩
    · have h2 : (57 : Int) ≤ op := by omega
      go_enter Tryd.func11, Tryd.ntmps11
      go_wp2
      go_ret
      exact ⟨rfl, rfl⟩
def tabV (f : Nat → ByteArray) : Array Value := ((List.range 57).map fun i => Value.string (f i)).toArray
theorem tabV_at (f : Nat → ByteArray) (i : Nat) (h : i < 57) : (tabV f)[i]? = some (.string (f i)) := by simp [tabV, h]
structure TabP (w : World) (e : Ending) (w' : World) : Prop where
  e : e = .returned (.tuple #[.slice (some ⟨w.heap.size, 0, none⟩) 57 57, .slice (some ⟨w.heap.size + 1, 0, none⟩) 57 57])
  g : w.grownBy w' none
  n : ∀ i, i < 57 → w'.cell? ⟨w.heap.size, i, none⟩ = some (.string (nm i))
  u : ∀ i, i < 57 → w'.cell? ⟨w.heap.size + 1, i, none⟩ = some (.string (us i))
theorem tab_w (w : World) : TabP w (.returned (.tuple #[.slice (some ⟨w.heap.size, 0, none⟩) 57 57, .slice (some ⟨w.heap.size + 1, 0, none⟩) 57 57])) ((w.alloc (.cells (tabV nm) 9)).alloc (.cells (tabV us) 9)) := by
  refine ⟨rfl, (World.grownBy_alloc w _ none).trans (World.grownBy_alloc _ _ none) , fun i hi => ?_, fun i hi => ?_⟩
  · rw [Lib.cell_of_heap ((Lib.alloc_old _ _ _ (by simp)).trans (heap_alloc_new w _))]
    exact tabV_at nm i hi
  · have h : ((w.alloc (.cells (tabV nm) 9)).alloc (.cells (tabV us) 9)).heap[w.heap.size + 1]? = some (.cells (tabV us) 9) := by
      have := heap_alloc_new (w.alloc (.cells (tabV nm) 9)) (.cells (tabV us) 9)
      simpa using this
    rw [Lib.cell_of_heap h]
    exact tabV_at us i hi
set_option maxRecDepth 100000 in
set_option maxHeartbeats 4000000 in
theorem table_any (w : World) : Calls Tryd.prog 10 #[] w fun e w' => TabP w e w' := by
  go_enter Tryd.func10, Tryd.ntmps10
  go_wp2
  go_ret2
  exact tab_w w
end Go.Proofs.YtipnefogflpkhaaDoor
