/- CodeGrows: the new function in memory. -/
import Derived.Test.YtfkjjljhabjcjaaDoorLg3
namespace Go.Proofs.YtfkjjljhabjcjaaDoor
open Go.RowKit Go.Proofs.YtfkjjljhabjcjaaDoor.Cx
def cellsI (z : Int) (l : List Int) (la : Option Addr) (lcap : Nat) : List Value := [.int .i64 z, .int .i64 (wrap64 (-z)), .int .i64 l.length, .int .i64 4611686018427387904, .int .i64 (-4611686018427387904), .slice la l.length lcap]
def cells0 : List Value := [.int .i64 0, .int .i64 0, .int .i64 0, .int .i64 0, .int .i64 0, .slice none 0 0]
theorem newI_at {S : Nat → Prop} {W : World} {z : Int} {l : List Int} {la : Option Addr} {lcap : Nat} (hz : okN z) (hn : l.length ≤ 500) (hl : RowOf numC 1 S W l la) : insC S W (newI z l) (cellsI z l la lcap) :=
  ⟨⟨hz, wrap_ok _, ⟨by show (-9223372036854775808 : Int) ≤ (l.length : Int); omega, by show (l.length : Int) ≤ 9223372036854775807; omega⟩, okC, okD⟩, la, lcap, rfl, hl⟩
theorem zeroI_at (S : Nat → Prop) (W : World) : insC S W zeroI cells0 := ⟨⟨ok0, ok0, ok0, ok0, ok0⟩, none, 0, rfl, rowNil _ _ _ _ _⟩
theorem box_row {α : Type} {C : (Nat → Prop) → World → α → List Value → Prop} {size b : Nat} {S : Nat → Prop} {W : World} {items : List (α × List Value)} (hb : Box W b (items.flatMap (·.2))) (hS : S b) (h : ∀ p ∈ items, C S W p.1 p.2 ∧ p.2.length = size) (hl : items.length ≤ 1000000) : RowOf C size S W (items.map (·.1)) (some ⟨b, 0, none⟩) := by
  refine ⟨by simp; omega, fun j hj => ?_⟩
  have hj' : j < items.length := by simpa using hj
  obtain ⟨h1, h2⟩ := h items[j] (List.getElem_mem _)
  refine ⟨b, 0, items[j].2, rfl, hS, by rw [List.getElem_map]; exact h1, h2, fun k u hk => ?_⟩
  rw [Nat.zero_add]
  exact hb _ _ (chunk_at items j k u hj' (fun p hp => (h p hp).2) hk)
theorem newF_at {S : Nat → Prop} {W : World} {rb cb : Nat} {s : ByteArray} {z : Int} {l : List Int} {la : Option Addr} {lcap : Nat} (hB : Box W rb [.bool true, .bool false]) (hC : Box W cb (cellsI z l la lcap ++ (cells0 ++ cellsI z l la lcap))) (hSr : S rb) (hSc : S cb) (hs : s.size ≤ 1000) (hz : okN z) (hn : l.length ≤ 500) (hl : RowOf numC 1 S W l la) :
    fncC S W (newF s z l) [.string s, .slice (some ⟨rb, 0, none⟩) 2 2, .int .i64 0, .int .i64 0, .bool false, .slice (some ⟨cb, 0, none⟩) 3 3] := by
  refine ⟨⟨by show s.size ≤ _; omega, ok0, ok0⟩, some ⟨rb, 0, none⟩, 2, some ⟨cb, 0, none⟩, 3, rfl, ?_, ?_⟩
  · exact box_row (C := flagC) (size := 1) (items := [(true, [.bool true]), (false, [.bool false])]) hB hSr (fun p hp => by
      simp only [List.mem_cons, List.not_mem_nil, or_false] at hp
      rcases hp with rfl | rfl <;> exact ⟨rfl, rfl⟩) (by decide)
  · have hi := newI_at (lcap := lcap) hz hn hl
    exact box_row (C := insC) (size := 6) (items := [(newI z l, cellsI z l la lcap), (zeroI, cells0), (newI z l, cellsI z l la lcap)]) (by simpa using hC) hSc (fun p hp => by
      simp only [List.mem_cons, List.not_mem_nil, or_false] at hp
      rcases hp with rfl | rfl | rfl
      · exact ⟨hi, rfl⟩
      · exact ⟨zeroI_at _ _, rfl⟩
      · exact ⟨hi, rfl⟩) (by simp)
/-- What stands behind the drawn statement. -/
def GrR (x : Prg) (s : ByteArray) (z : Int) (l : List Int) (B nt g4 cap4 : Nat) (v1 v2 v4 : Value) (W7 wc : World) : Prop :=
  ∃ g6 c6, Box wc B [.slice (some ⟨g4, 0, none⟩) nt cap4, v1, v2, .slice (some ⟨g6, 0, none⟩) (x.funcs.length + 1) c6, v4] ∧ RowOf fncC 6 (· < wc.heap.size) wc (x.funcs ++ [newF s z l]) (some ⟨g6, 0, none⟩) ∧ Fr (· = B) W7 wc
theorem GrR.of {x : Prg} {s : ByteArray} {z : Int} {l : List Int} {la : Option Addr} {B nt g4 cap4 lcap rb cb g6 c6 lo : Nat} {v1 v2 v3 v4 : Value} {w2 W7 V : World} {items : List (Fnc × List Value)}
    (hQ : Box W7 B [.slice (some ⟨g4, 0, none⟩) nt cap4, v1, v2, v3, v4]) (hit : items.map (·.1) = x.funcs) (hC : ∀ p ∈ items, fncC (· < lo) w2 p.1 p.2 ∧ p.2.length = 6) (hlo : lo ≤ B) (hlo2 : lo ≤ w2.heap.size) (hF2 : Fr (fun _ => False) w2 W7) (hF : Fr (fun _ => False) W7 V)
    (ho : V.ownsRow W7.heap.size 38 6 (.slice (some ⟨g6, 0, none⟩) (x.funcs.length + 1) c6) (x.funcs.length + 1) (items.flatMap (·.2) ++ [.string s, .slice (some ⟨rb, 0, none⟩) 2 2, .int .i64 0, .int .i64 0, .bool false, .slice (some ⟨cb, 0, none⟩) 3 3]))
    (hB : Blk V rb [.bool true, .bool false] 4) (hCo : Blk V cb (cellsI z l la lcap ++ (cells0 ++ cellsI z l la lcap)) 43) (hBW : B < W7.heap.size) (hTB : Ty W7 B 27) (hs : s.size ≤ 1000) (hz : okN z) (hn : l.length ≤ 500) (hl : RowOf numC 1 (· < lo) w2 l la) (hfew : x.funcs.length ≤ 5000) :
    GrR x s z l B nt g4 cap4 v1 v2 v4 W7 (V.setCell ⟨B, 3, none⟩ (.slice (some ⟨g6, 0, none⟩) (x.funcs.length + 1) c6)) := by
  have hTV : Ty V B 27 := hTB.same (hF.block B hBW id)
  have hgB : g6 ≠ B := fun e => by have := (ho.lt g6 rfl).1; omega
  have hrB : rb ≠ B := fun e => (hB.2.ne (by decide)) (e ▸ hTV)
  have hcB : cb ≠ B := fun e => (hCo.2.ne (by decide)) (e ▸ hTV)
  have hS : Fr (· = B) V (V.setCell ⟨B, 3, none⟩ (.slice (some ⟨g6, 0, none⟩) (x.funcs.length + 1) c6)) := (Fr.refl (· = B) V).setCell (p := ⟨B, 3, none⟩) rfl _
  have hsz : (V.setCell ⟨B, 3, none⟩ (.slice (some ⟨g6, 0, none⟩) (x.funcs.length + 1) c6)).heap.size = V.heap.size := by simp [World.setCell]
  have hVQ := hQ.fr hF
  have hlow : ∀ k, k < lo → (V.setCell ⟨B, 3, none⟩ (.slice (some ⟨g6, 0, none⟩) (x.funcs.length + 1) c6)).heap[k]? = w2.heap[k]? := fun k hk =>
    (hS.block k (by have := hF.size; have := hF2.size; omega) (by omega)).trans ((hF.block k (by have := hF2.size; omega) id).trans (hF2.block k (by omega) id))
  have hVs := hF.size
  have hWs := hF2.size
  refine ⟨g6, c6, ?_, ?_, (hF.mono fun _ h => h.elim).trans hS⟩
  · intro j v hj
    match j, hj with
    | 0, hj => cases hj; rw [cell_ne (by intro e; injection e with _ e; cases e)]; exact hVQ 0 _ rfl
    | 1, hj => cases hj; rw [cell_ne (by intro e; injection e with _ e; cases e)]; exact hVQ 1 _ rfl
    | 2, hj => cases hj; rw [cell_ne (by intro e; injection e with _ e; cases e)]; exact hVQ 2 _ rfl
    | 3, hj => cases hj; exact World.cell?_setCell_same _ _ _ (hVQ 3 _ rfl)
    | 4, hj => cases hj; rw [cell_ne (by intro e; injection e with _ e; cases e)]; exact hVQ 4 _ rfl
  · have hlen : items.length = x.funcs.length := by rw [← hit, List.length_map]
    have hrow : RowOf fncC 6 (· < (V.setCell ⟨B, 3, none⟩ (.slice (some ⟨g6, 0, none⟩) (x.funcs.length + 1) c6)).heap.size) (V.setCell ⟨B, 3, none⟩ (.slice (some ⟨g6, 0, none⟩) (x.funcs.length + 1) c6)) ((items ++ [(newF s z l, [Value.string s, .slice (some ⟨rb, 0, none⟩) 2 2, .int .i64 0, .int .i64 0, .bool false, .slice (some ⟨cb, 0, none⟩) 3 3])]).map (·.1)) (some ⟨g6, 0, none⟩) := by
      refine row_owned (base := W7.heap.size) (e := 38) (cap := c6) ?_ (by rw [hsz]; exact (ho.lt g6 rfl).2) ?_ (by simp; omega)
      · rw [List.length_append, hlen, List.flatMap_append]
        simp only [List.length_cons, List.length_nil, List.flatMap_cons, List.flatMap_nil, List.append_nil]
        exact own_blk ho fun k hk => hS.block k (ho.lt k hk).2 (fun e => by
          have : g6 = k := by simpa [Value.ownBlock] using hk
          exact hgB (this.trans e))
      · intro p hp
        rcases List.mem_append.1 hp with hp | hp
        · obtain ⟨h1, h2⟩ := hC p hp
          exact ⟨fncG.mono (fun k hk => by rw [hsz]; omega) (fncG.same (fun k hk => hlow k hk) h1), h2⟩
        · rw [List.mem_singleton.1 hp]
          refine ⟨newF_at (fun j v hj => hS.cell (hB.1 j v hj) (show ¬ rb = B from hrB)) (fun j v hj => hS.cell (hCo.1 j v hj) (show ¬ cb = B from hcB)) (by rw [hsz]; exact hB.lt) (by rw [hsz]; exact hCo.lt) hs hz hn ?_, rfl⟩
          exact numG.row (fun k hk => by rw [hsz]; omega) (numG.rowS (fun k hk => hlow k hk) hl)
    rw [List.map_append, hit] at hrow
    exact hrow
end Go.Proofs.YtfkjjljhabjcjaaDoor
