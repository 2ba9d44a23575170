/- The anchor. -/
import Derived.Test.YtipnefogflpkhaaDoorAh0
set_option linter.unusedVariables false
set_option linter.unusedSimpArgs false
namespace Go.Proofs.YtipnefogflpkhaaDoor
open Go.RowKit
def i0 : Ins := ⟨2, 0, 0, 0, 0, []⟩
def i1 : Ins := ⟨48, -1, 0, 0, 0, []⟩
def f0 : Fnc := ⟨⟨#[109, 97, 105, 110]⟩, [true], 0, 0, false, [i0, i1]⟩
def p0 : Prg := ⟨[⟨#[97]⟩], [], [], [f0], 1⟩
def k0 : List UInt8 := [116, 101, 120, 116, 32, 48, 32, 34, 97, 34, 10, 102, 117, 110, 99, 32, 49, 32, 109, 97, 105, 110, 32, 112, 97, 114, 97, 109, 115, 32, 48, 32, 99, 97, 112, 116, 117, 114, 101, 115, 32, 48, 32, 114, 101, 103, 105, 115, 116, 101, 114, 115, 32, 114, 10, 9, 48, 32, 116, 101, 120, 116, 32, 48, 32, 48, 10, 9, 49, 32, 114, 101, 116, 117, 114, 110, 32, 45, 49, 10, 109, 97, 105, 110, 32, 49, 10]
theorem itoa_dig {n : Nat} (h : n < 10) : itoaT (n : Int) = [UInt8.ofNat (48 + n)] := by
  unfold itoaT Lib.itoa
  rw [if_neg (by omega)]
  show Lib.decDigits n = _
  rw [Lib.decDigits, dif_pos h]
theorem itoa_0 : itoaT 0 = [48] := itoa_dig (n := 0) (by decide)
theorem itoa_1 : itoaT 1 = [49] := itoa_dig (n := 1) (by decide)
theorem itoa_m : itoaT (-1) = [45, 49] := by
  unfold itoaT Lib.itoa
  rw [if_pos (by decide)]
  show 45 :: Lib.decDigits 1 = _
  rw [Lib.decDigits, dif_pos (by decide)]
  rfl
theorem p0_text : printT p0 = k0 := by
  have a : cat (textT p0.texts) p0.texts.length = [116, 101, 120, 116, 32, 48, 32, 34, 97, 34, 10] := by
    show [] ++ lineT (textP 0 ⟨#[97]⟩) = _
    unfold lineT textP
    simp only [List.flatMap_cons, List.flatMap_nil, partT]
    rw [show ((0 : Nat) : Int) = 0 from rfl, itoa_0]
    rfl
  have n0 : nrm i0.op = 2 := by decide
  have n1 : nrm i1.op = 48 := by decide
  have c0 : lineT (insF 0 i0) = [9, 48, 32, 116, 101, 120, 116, 32, 48, 32, 48, 10] := by
    unfold insF insP lineT
    rw [n0]
    show (List.flatMap partT [.s ⟨#[9]⟩, .n 0, .s ⟨#[32]⟩, .s (nm 2), .s ⟨#[32]⟩, .n 0, .s ⟨#[32]⟩, .n 0]) ++ [10] = _
    simp only [List.flatMap_cons, List.flatMap_nil, partT, itoa_0]
    rfl
  have c1 : lineT (insF 1 i1) = [9, 49, 32, 114, 101, 116, 117, 114, 110, 32, 45, 49, 10] := by
    unfold insF insP lineT
    rw [n1]
    show (List.flatMap partT [.s ⟨#[9]⟩, .n 1, .s ⟨#[32]⟩, .s (nm 48), .s ⟨#[32]⟩, .n (-1)]) ++ [10] = _
    simp only [List.flatMap_cons, List.flatMap_nil, partT, itoa_1, itoa_m]
    rfl
  have b : fncT 1 f0 = [102, 117, 110, 99, 32, 49, 32, 109, 97, 105, 110, 32, 112, 97, 114, 97, 109, 115, 32, 48, 32, 99, 97, 112, 116, 117, 114, 101, 115, 32, 48, 32, 114, 101, 103, 105, 115, 116, 101, 114, 115, 32, 114, 10] ++ (lineT (insF 0 i0) ++ lineT (insF 1 i1)) := by
    show lineT (fncP 1 f0) ++ (([] ++ lineT (insF 0 i0)) ++ lineT (insF 1 i1)) = _
    have e : lineT (fncP 1 f0) = [102, 117, 110, 99, 32, 49, 32, 109, 97, 105, 110, 32, 112, 97, 114, 97, 109, 115, 32, 48, 32, 99, 97, 112, 116, 117, 114, 101, 115, 32, 48, 32, 114, 101, 103, 105, 115, 116, 101, 114, 115, 32, 114, 10] := by
      unfold lineT fncP
      simp only [List.flatMap_cons, List.flatMap_nil, partT]
      rw [show ((1 : Nat) : Int) = 1 from rfl, show f0.params = 0 from rfl, show f0.captures = 0 from rfl, itoa_0, itoa_1]
      rfl
    rw [e, List.nil_append]
  have m : lineT (mainP 1) = [109, 97, 105, 110, 32, 49, 10] := by
    unfold lineT mainP
    simp only [List.flatMap_cons, List.flatMap_nil, partT, itoa_1]
    rfl
  show cat (textT p0.texts) p0.texts.length ++ (([] ++ fncT 1 f0) ++ lineT (mainP 1)) = k0
  rw [a, b, c0, c1, m]
  rfl
theorem p0_mem (w : World) : prgC (· < (((((w.alloc (.cells #[.string ⟨#[97]⟩] 9)).alloc (.cells #[.bool true] 4)).alloc (.cells #[.int .i64 2, .int .i64 0, .int .i64 0, .int .i64 0, .int .i64 0, .slice none 0 0, .int .i64 48, .int .i64 (-1), .int .i64 0, .int .i64 0, .int .i64 0, .slice none 0 0] 34)).alloc (.cells #[.string ⟨#[109, 97, 105, 110]⟩, .slice (some ⟨w.heap.size + 1, 0, none⟩) 1 1, .int .i64 0, .int .i64 0, .bool false, .slice (some ⟨w.heap.size + 1 + 1, 0, none⟩) 2 2] 31)).alloc (.cells #[.slice (some ⟨w.heap.size, 0, none⟩) 1 1, .slice none 0 0, .slice none 0 0, .slice (some ⟨w.heap.size + 1 + 1 + 1, 0, none⟩) 1 1, .int .i64 1] 27)).heap.size) (((((w.alloc (.cells #[.string ⟨#[97]⟩] 9)).alloc (.cells #[.bool true] 4)).alloc (.cells #[.int .i64 2, .int .i64 0, .int .i64 0, .int .i64 0, .int .i64 0, .slice none 0 0, .int .i64 48, .int .i64 (-1), .int .i64 0, .int .i64 0, .int .i64 0, .slice none 0 0] 34)).alloc (.cells #[.string ⟨#[109, 97, 105, 110]⟩, .slice (some ⟨w.heap.size + 1, 0, none⟩) 1 1, .int .i64 0, .int .i64 0, .bool false, .slice (some ⟨w.heap.size + 1 + 1, 0, none⟩) 2 2] 31)).alloc (.cells #[.slice (some ⟨w.heap.size, 0, none⟩) 1 1, .slice none 0 0, .slice none 0 0, .slice (some ⟨w.heap.size + 1 + 1 + 1, 0, none⟩) 1 1, .int .i64 1] 27)) p0 [.slice (some ⟨w.heap.size, 0, none⟩) 1 1, .slice none 0 0, .slice none 0 0, .slice (some ⟨w.heap.size + 1 + 1 + 1, 0, none⟩) 1 1, .int .i64 1] := by
  obtain ⟨W, hW⟩ : ∃ W, ((((w.alloc (.cells #[.string ⟨#[97]⟩] 9)).alloc (.cells #[.bool true] 4)).alloc (.cells #[.int .i64 2, .int .i64 0, .int .i64 0, .int .i64 0, .int .i64 0, .slice none 0 0, .int .i64 48, .int .i64 (-1), .int .i64 0, .int .i64 0, .int .i64 0, .slice none 0 0] 34)).alloc (.cells #[.string ⟨#[109, 97, 105, 110]⟩, .slice (some ⟨w.heap.size + 1, 0, none⟩) 1 1, .int .i64 0, .int .i64 0, .bool false, .slice (some ⟨w.heap.size + 1 + 1, 0, none⟩) 2 2] 31)).alloc (.cells #[.slice (some ⟨w.heap.size, 0, none⟩) 1 1, .slice none 0 0, .slice none 0 0, .slice (some ⟨w.heap.size + 1 + 1 + 1, 0, none⟩) 1 1, .int .i64 1] 27) = W := ⟨_, rfl⟩
  have b0 : W.heap[w.heap.size]? = some (.cells #[.string ⟨#[97]⟩] 9) := by
    rw [← hW]
    iterate 4 rw [Below.heap_alloc _ _ _ (by simp; try omega)]
    exact heap_alloc_new w _
  have key : ∀ (w : World) (o : Obj) (n : Nat), w.heap.size = n → (w.alloc o).heap[n]? = some o := fun w o n h => by rw [← h]; exact heap_alloc_new w o
  have b1 : W.heap[w.heap.size + 1]? = some (.cells #[.bool true] 4) := by
    rw [← hW]
    iterate 3 rw [Below.heap_alloc _ _ _ (by simp; try omega)]
    exact key _ _ _ (by simp)
  have b2 : W.heap[w.heap.size + 1 + 1]? = some (.cells #[.int .i64 2, .int .i64 0, .int .i64 0, .int .i64 0, .int .i64 0, .slice none 0 0, .int .i64 48, .int .i64 (-1), .int .i64 0, .int .i64 0, .int .i64 0, .slice none 0 0] 34) := by
    rw [← hW]
    iterate 2 rw [Below.heap_alloc _ _ _ (by simp; try omega)]
    exact key _ _ _ (by simp)
  have b3 : W.heap[w.heap.size + 1 + 1 + 1]? = some (.cells #[.string ⟨#[109, 97, 105, 110]⟩, .slice (some ⟨w.heap.size + 1, 0, none⟩) 1 1, .int .i64 0, .int .i64 0, .bool false, .slice (some ⟨w.heap.size + 1 + 1, 0, none⟩) 2 2] 31) := by
    rw [← hW]
    rw [Below.heap_alloc _ _ _ (by simp; try omega)]
    exact key _ _ _ (by simp)
  have hs : W.heap.size = w.heap.size + 1 + 1 + 1 + 1 + 1 := by rw [← hW]; simp
  rw [hW]
  clear hW key
  have ok0 : okN 0 := by unfold okN; decide
  have hi0 : insC (· < W.heap.size) W i0 [.int .i64 2, .int .i64 0, .int .i64 0, .int .i64 0, .int .i64 0, .slice none 0 0] := ⟨⟨by unfold okN i0; decide, ok0, ok0, ok0, ok0⟩, none, 0, rfl, rowNil _ _ _ _ _⟩
  have hi1 : insC (· < W.heap.size) W i1 [.int .i64 48, .int .i64 (-1), .int .i64 0, .int .i64 0, .int .i64 0, .slice none 0 0] := ⟨⟨by unfold okN i1; decide, by unfold okN i1; decide, ok0, ok0, ok0⟩, none, 0, rfl, rowNil _ _ _ _ _⟩
  have hf : fncC (· < W.heap.size) W f0 [.string ⟨#[109, 97, 105, 110]⟩, .slice (some ⟨w.heap.size + 1, 0, none⟩) 1 1, .int .i64 0, .int .i64 0, .bool false, .slice (some ⟨w.heap.size + 1 + 1, 0, none⟩) 2 2] := by
    refine ⟨⟨by show 4 ≤ _; decide, ok0, ok0⟩, _, _, _, _, rfl, ⟨by show 1 ≤ _; decide, fun j hj => ?_⟩, ⟨by show 2 ≤ _; decide, fun j hj => ?_⟩⟩
    · have hj' : j < 1 := hj
      obtain rfl : j = 0 := by omega
      refine ⟨w.heap.size + 1, 0, [.bool true], rfl, by show _ < _; omega, rfl, rfl, fun k u hk => ?_⟩
      match k, hk with
      | 0, hk => cases hk; rw [Lib.cell_of_heap b1]; rfl
    · have hj' : j < 2 := hj
      match j, hj' with
      | 0, _ =>
        refine ⟨w.heap.size + 1 + 1, 0, _, rfl, by show _ < _; omega, hi0, rfl, fun k u hk => ?_⟩
        rw [Lib.cell_of_heap b2]
        match k, hk with
        | 0, hk => cases hk; rfl
        | 1, hk => cases hk; rfl
        | 2, hk => cases hk; rfl
        | 3, hk => cases hk; rfl
        | 4, hk => cases hk; rfl
        | 5, hk => cases hk; rfl
      | 1, _ =>
        refine ⟨w.heap.size + 1 + 1, 0, _, rfl, by show _ < _; omega, hi1, rfl, fun k u hk => ?_⟩
        rw [Lib.cell_of_heap b2]
        match k, hk with
        | 0, hk => cases hk; rfl
        | 1, hk => cases hk; rfl
        | 2, hk => cases hk; rfl
        | 3, hk => cases hk; rfl
        | 4, hk => cases hk; rfl
        | 5, hk => cases hk; rfl
  refine ⟨by unfold okN p0; decide, _, _, none, 0, none, 0, _, _, rfl, ⟨by show 1 ≤ _; decide, fun j hj => ?_⟩, rowNil _ _ _ _ _, rowNil _ _ _ _ _, ⟨by show 1 ≤ _; decide, fun j hj => ?_⟩⟩
  · have hj' : j < 1 := hj
    obtain rfl : j = 0 := by omega
    refine ⟨w.heap.size, 0, [.string ⟨#[97]⟩], rfl, by show _ < _; omega, ⟨by show 1 ≤ _; decide, rfl⟩, rfl, fun k u hk => ?_⟩
    match k, hk with
    | 0, hk => cases hk; rw [Lib.cell_of_heap b0]; rfl
  · have hj' : j < 1 := hj
    obtain rfl : j = 0 := by omega
    refine ⟨w.heap.size + 1 + 1 + 1, 0, _, rfl, by show _ < _; omega, hf, rfl, fun k u hk => ?_⟩
    rw [Lib.cell_of_heap b3]
    match k, hk with
    | 0, hk => cases hk; rfl
    | 1, hk => cases hk; rfl
    | 2, hk => cases hk; rfl
    | 3, hk => cases hk; rfl
    | 4, hk => cases hk; rfl
    | 5, hk => cases hk; rfl
/-- What the start lays for this program. -/
structure Vs (W0 : World) : Prop where
  tab : TabOk W0
  names : NamesOk W0
theorem Vs.nm {W0 : World} (h : Vs W0) (w : World) (hB : Below W0.heap.size W0 w) : NamesOk w := fun i h1 h2 => by
  have hc := h.names i h1 h2
  exact (World.cell?_of_block (hB.block _ (World.block_lt_of_cell? _ _ hc))).trans hc
theorem Vs.env {W0 : World} (h : Vs W0) {w : World} (hB : Below W0.heap.size W0 w) : Env W0 w w.heap.size := ⟨h.tab, hB, hB.size⟩
theorem below_grown {W0 w w' : World} (h : Below W0.heap.size W0 w) (hg : w.grownBy w' none) : Below W0.heap.size W0 w' := h.grown hg h.size (fun k hk => by cases hk)
def SP (s : ByteArray) (w : World) (e : Ending) (w' : World) : Prop := e = .returned (.string s) ∧ w.grownBy w' none
def AP (w : World) (e : Ending) (w' : World) : Prop := e = .returned (.bool true) ∧ w.grownBy w' none
theorem p0_calls (W0 : World) (hV : Vs W0) (w : World) (hB : Below W0.heap.size W0 w) :
    Calls Tryd.prog 9 #[.agg #[.slice (some ⟨w.heap.size, 0, none⟩) 1 1, .slice none 0 0, .slice none 0 0, .slice (some ⟨w.heap.size + 1 + 1 + 1, 0, none⟩) 1 1, .int .i64 1]] (((((w.alloc (.cells #[.string ⟨#[97]⟩] 9)).alloc (.cells #[.bool true] 4)).alloc (.cells #[.int .i64 2, .int .i64 0, .int .i64 0, .int .i64 0, .int .i64 0, .slice none 0 0, .int .i64 48, .int .i64 (-1), .int .i64 0, .int .i64 0, .int .i64 0, .slice none 0 0] 34)).alloc (.cells #[.string ⟨#[109, 97, 105, 110]⟩, .slice (some ⟨w.heap.size + 1, 0, none⟩) 1 1, .int .i64 0, .int .i64 0, .bool false, .slice (some ⟨w.heap.size + 1 + 1, 0, none⟩) 2 2] 31)).alloc (.cells #[.slice (some ⟨w.heap.size, 0, none⟩) 1 1, .slice none 0 0, .slice none 0 0, .slice (some ⟨w.heap.size + 1 + 1 + 1, 0, none⟩) 1 1, .int .i64 1] 27)) fun e w' => SP ⟨#[116, 101, 120, 116, 32, 48, 32, 34, 97, 34, 10, 102, 117, 110, 99, 32, 49, 32, 109, 97, 105, 110, 32, 112, 97, 114, 97, 109, 115, 32, 48, 32, 99, 97, 112, 116, 117, 114, 101, 115, 32, 48, 32, 114, 101, 103, 105, 115, 116, 101, 114, 115, 32, 114, 10, 9, 48, 32, 116, 101, 120, 116, 32, 48, 32, 48, 10, 9, 49, 32, 114, 101, 116, 117, 114, 110, 32, 45, 49, 10, 109, 97, 105, 110, 32, 49, 10]⟩ w e w' := by
  have hm := p0_mem w
  have hg : w.grownBy (((((w.alloc (.cells #[.string ⟨#[97]⟩] 9)).alloc (.cells #[.bool true] 4)).alloc (.cells #[.int .i64 2, .int .i64 0, .int .i64 0, .int .i64 0, .int .i64 0, .slice none 0 0, .int .i64 48, .int .i64 (-1), .int .i64 0, .int .i64 0, .int .i64 0, .slice none 0 0] 34)).alloc (.cells #[.string ⟨#[109, 97, 105, 110]⟩, .slice (some ⟨w.heap.size + 1, 0, none⟩) 1 1, .int .i64 0, .int .i64 0, .bool false, .slice (some ⟨w.heap.size + 1 + 1, 0, none⟩) 2 2] 31)).alloc (.cells #[.slice (some ⟨w.heap.size, 0, none⟩) 1 1, .slice none 0 0, .slice none 0 0, .slice (some ⟨w.heap.size + 1 + 1 + 1, 0, none⟩) 1 1, .int .i64 1] 27)) none := ((((World.grownBy_alloc w _ none).trans (World.grownBy_alloc _ _ none)).trans (World.grownBy_alloc _ _ none)).trans (World.grownBy_alloc _ _ none)).trans (World.grownBy_alloc _ _ none)
  generalize ((((w.alloc (.cells #[.string ⟨#[97]⟩] 9)).alloc (.cells #[.bool true] 4)).alloc (.cells #[.int .i64 2, .int .i64 0, .int .i64 0, .int .i64 0, .int .i64 0, .slice none 0 0, .int .i64 48, .int .i64 (-1), .int .i64 0, .int .i64 0, .int .i64 0, .slice none 0 0] 34)).alloc (.cells #[.string ⟨#[109, 97, 105, 110]⟩, .slice (some ⟨w.heap.size + 1, 0, none⟩) 1 1, .int .i64 0, .int .i64 0, .bool false, .slice (some ⟨w.heap.size + 1 + 1, 0, none⟩) 2 2] 31)).alloc (.cells #[.slice (some ⟨w.heap.size, 0, none⟩) 1 1, .slice none 0 0, .slice none 0 0, .slice (some ⟨w.heap.size + 1 + 1 + 1, 0, none⟩) 1 1, .int .i64 1] 27) = W1 at *
  have hB1 := below_grown hB hg
  refine (Print_any W0 p0 _ W1 (hV.env hB1) hV.nm hm (by rw [p0_text]; decide) (fun s hs => by
    rcases List.mem_cons.1 hs with rfl | hs
    · decide
    · cases hs)).mono ?_
  rintro e w' ⟨rfl, hg2⟩
  exact ⟨by rw [p0_text]; rfl, hg.trans hg2⟩
set_option maxRecDepth 100000 in
set_option maxHeartbeats 4000000 in
theorem anchor_any (W0 : World) (hV : Vs W0) (w : World) (hB : Below W0.heap.size W0 w) : Calls Tryd.prog 5 #[] w fun e w' => AP w e w' := by
  have HC := hide (p0_calls W0 hV w hB)
  have HN1 : Hid (∀ w1, w.grownBy w1 none → Calls Tryd.prog 11 #[.int .i64 56] w1 fun e w' => SP ⟨#[121, 105, 101, 108, 100]⟩ w e w') := hide (fun w1 hg => by
    refine (Name_any w1 56 (hV.nm w1 (below_grown hB hg))).mono ?_
    rintro e w' ⟨rfl, rfl⟩
    exact ⟨by rw [show nrm 56 = 56 from by decide]; rfl, hg⟩)
  have HN2 : Hid (∀ w1, w.grownBy w1 none → Calls Tryd.prog 11 #[.int .i64 57] w1 fun e w' => SP ⟨#[63]⟩ w e w') := hide (fun w1 hg => by
    refine (Name_any w1 57 (hV.nm w1 (below_grown hB hg))).mono ?_
    rintro e w' ⟨rfl, rfl⟩
    exact ⟨by rw [show nrm 57 = 0 from by decide]; rfl, hg⟩)
  go_enter Tryd.func5, Tryd.ntmps5
  go_wp2_with (go_at_call 9; refine (unhide HC).mono ?_)
  rintro e w1 ⟨rfl, hg1⟩
  have H1 := hide ((unhide HN1) w1 hg1)
  clear hg1 HC HN1
  go_wp2_with (go_at_call 11; refine (unhide H1).mono ?_)
  rintro e w2 ⟨rfl, hg2⟩
  have H2 := hide ((unhide HN2) w2 hg2)
  clear hg2 H1 HN2
  go_wp2_with (go_at_call 11; refine (unhide H2).mono ?_)
  rintro e w3 ⟨rfl, hg3⟩
  have HG := hide hg3
  clear hg3 H2
  go_wp2
  go_ret
  exact ⟨rfl, unhide HG⟩
end Go.Proofs.YtipnefogflpkhaaDoor
