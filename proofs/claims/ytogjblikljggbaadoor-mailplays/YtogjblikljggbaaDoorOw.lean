/- Rows of numbers of one's own; append. -/
import Derived.Test.YtogjblikljggbaaDoorM6
import Derived.Deep.AppendSrc
import Derived.Deep.Upon
namespace Go.Proofs.YtogjblikljggbaaDoor
open Go.RowKit Go.Proofs.YtogjblikljggbaaDoor.Hp
theorem Fr.cell {K : Nat → Prop} {w w' : World} (h : Fr K w w') {b i : Nat} {u : Value} (hc : w.cell? ⟨b, i, none⟩ = some u) (hb : ¬ K b) : w'.cell? ⟨b, i, none⟩ = some u :=
  (World.cell?_of_block (w := w) (a := ⟨b, i, none⟩) (h.block b (World.block_lt_of_cell? w ⟨b, i, none⟩ hc) hb)).trans hc
theorem Fr.free {K : Nat → Prop} {w w' : World} (h : Fr K w w') {b i : Nat} (hl : b < w.heap.size) (hc : w.frozen? ⟨b, i, none⟩ = false) (hb : ¬ K b) : w'.frozen? ⟨b, i, none⟩ = false :=
  (World.frozen?_of_block (w := w) (a := ⟨b, i, none⟩) (h.block b hl hb)).trans hc
/-- Numbers that lie behind an address. -/
def IntsAt (w : World) (ao : Option Addr) (zs : List Int) : Prop := ∀ j, j < zs.length → ∃ b off, ao = some ⟨b, off, none⟩ ∧ b < w.heap.size ∧ w.cell? ⟨b, off + j, none⟩ = some (.int .i64 (zs.getD j 0))
theorem IntsAt.fr {K : Nat → Prop} {w w' : World} {ao : Option Addr} {zs : List Int} (h : IntsAt w ao zs) (k : Fr K w w') (hb : ∀ b off, ao = some ⟨b, off, none⟩ → b < w.heap.size → ¬ K b) : IntsAt w' ao zs := by
  intro j hj
  obtain ⟨b, off, e, hl, hc⟩ := h j hj
  exact ⟨b, off, e, Nat.lt_of_lt_of_le hl k.size, k.cell hc (hb b off e hl)⟩
theorem IntsAt.quiet {w w' : World} {ao : Option Addr} {zs : List Int} (h : IntsAt w ao zs) (k : Fr (fun _ => False) w w') : IntsAt w' ao zs := h.fr k fun _ _ _ _ => id
theorem IntsAt.nil (w : World) (ao : Option Addr) : IntsAt w ao [] := fun j hj => absurd hj (by simp)
/-- Numbers of one's own, of which the first may lie within the block b; there is room for cap of them. -/
def Own (w : World) (v : Value) (ib : Option Nat) (zs : List Int) : Prop :=
  (v = .slice none 0 0 ∧ zs = [] ∧ ib = none) ∨
  ∃ g off cap, v = .slice (some ⟨g, off, none⟩) zs.length cap ∧ ib = some g ∧ g < w.heap.size ∧ zs.length ≤ cap ∧
    (∀ j, j < cap → (w.cell? ⟨g, off + j, none⟩).isSome = true ∧ w.frozen? ⟨g, off + j, none⟩ = false) ∧ ∀ j, j < zs.length → w.cell? ⟨g, off + j, none⟩ = some (.int .i64 (zs.getD j 0))
theorem Own.nil (w : World) : Own w (.slice none 0 0) none [] := .inl ⟨rfl, rfl, rfl⟩
theorem Own.lt {w : World} {v : Value} {ib : Option Nat} {zs : List Int} (h : Own w v ib zs) : ∀ k, ib = some k → k < w.heap.size := by
  intro k hk
  rcases h with ⟨_, _, e⟩ | ⟨g, off, cap, _, e, hl, _⟩
  · rw [e] at hk; cases hk
  · rw [e] at hk; cases hk; exact hl
theorem Own.fr {K : Nat → Prop} {w w' : World} {v : Value} {ib : Option Nat} {zs : List Int} (h : Own w v ib zs) (k : Fr K w w') (hb : ∀ g, ib = some g → ¬ K g) : Own w' v ib zs := by
  rcases h with h | ⟨g, off, cap, hv, e, hl, hle, hs, hc⟩
  · exact .inl h
  · refine .inr ⟨g, off, cap, hv, e, Nat.lt_of_lt_of_le hl k.size, hle, fun j hj => ?_, fun j hj => k.cell (hc j hj) (hb g e)⟩
    obtain ⟨h1, h2⟩ := hs j hj
    obtain ⟨u, hu⟩ := Option.isSome_iff_exists.1 h1
    exact ⟨by rw [k.cell hu (hb g e)]; rfl, k.free hl h2 (hb g e)⟩
theorem Own.ints {w : World} {ao : Option Addr} {n cap : Nat} {ib : Option Nat} {zs : List Int} (h : Own w (.slice ao n cap) ib zs) : IntsAt w ao zs := by
  intro j hj
  rcases h with ⟨_, e, _⟩ | ⟨g, off, cap', hv, e, hl, hle, hs, hc⟩
  · rw [e] at hj; simp at hj
  · cases hv
    exact ⟨g, off, rfl, hl, hc j hj⟩
theorem Own.form {w : World} {v : Value} {ib : Option Nat} {zs : List Int} (h : Own w v ib zs) : ∃ ao cap, v = .slice ao zs.length cap ∧ zs.length ≤ cap ∧ ∀ a, ao = some a → ib = some a.block := by
  rcases h with ⟨rfl, rfl, _⟩ | ⟨g, off, cap, hv, e, hl, hle, hs, hc⟩
  · exact ⟨none, 0, rfl, Nat.le_refl _, fun a h => by cases h⟩
  · exact ⟨_, cap, hv, hle, fun a h => by cases h; exact e⟩
/-- The first one is cut off. -/
theorem Own.tail {w : World} {b off cap : Nat} {ib : Option Nat} {z : Int} {zs : List Int} {n : Nat} (h : Own w (.slice (some ⟨b, off, none⟩) n cap) ib (z :: zs)) :
    (cap ≠ 1 → Own w (.slice (some ⟨b, off + 1, none⟩) zs.length (cap - 1)) ib zs) ∧ (cap = 1 → Own w (.slice (some ⟨b, off, none⟩) 0 0) ib zs) := by
  rcases h with ⟨_, e, _⟩ | ⟨g, off', cap', hv, e, hl, hle, hs, hc⟩
  · cases e
  · cases hv
    simp only [List.length_cons] at hle hc
    constructor
    · intro _
      refine .inr ⟨b, off + 1, cap - 1, rfl, e, hl, by omega, fun j hj => ?_, fun j hj => ?_⟩
      · have := hs (j + 1) (by omega)
        rwa [show off + (j + 1) = off + 1 + j by omega] at this
      · have := hc (j + 1) (by omega)
        rw [show off + (j + 1) = off + 1 + j by omega] at this
        simpa using this
    · intro h1
      obtain rfl : zs = [] := List.eq_nil_of_length_eq_zero (by omega)
      exact .inr ⟨b, off, 0, rfl, e, hl, by simp, fun j hj => by omega, fun j hj => by simp at hj⟩
/-- The world is as it was but for the block of ib, which may have grown into a new one. -/
structure Grew (w w' : World) (ib ib' : Option Nat) : Prop where
  fr : Fr (fun k => ib = some k) w w'
  at_ : ib' = ib ∨ ib' = some w.heap.size
theorem ints_one (ys : List Int) : ∀ u ∈ ys.map (Value.int .i64), u.oneCell' = true := by
  intro u hu
  obtain ⟨z, _, rfl⟩ := List.mem_map.1 hu
  rfl
theorem ints_get {w : World} {b off : Nat} {ys : List Int} (h : ∀ j, j < ys.length → w.cell? ⟨b, off + j, none⟩ = some (.int .i64 (ys.getD j 0))) : ∀ j u, (ys.map (Value.int .i64))[j]? = some u → w.cell? ((⟨b, off, none⟩ : Addr).add j) = some u := by
  intro j u hj
  have hjl : j < ys.length := by
    have := (List.getElem?_eq_some_iff.1 hj).1
    simpa using this
  rw [Go.WideShapes.add_plain, h j hjl]
  rw [List.getElem?_map, List.getElem?_eq_getElem hjl] at hj
  simp [List.getD, List.getElem?_eq_getElem hjl]
  simpa using hj
theorem getD_map_app (zs ys : List Int) (j : Nat) (hj : j < (zs ++ ys).length) : ((zs.map (Value.int .i64)) ++ (ys.map (Value.int .i64)))[j]? = some (.int .i64 ((zs ++ ys).getD j 0)) := by
  rw [← List.map_append, List.getElem?_map, List.getElem?_eq_getElem hj]
  simp [List.getD, List.getElem?_eq_getElem hj]
/-- A row that was just made. -/
theorem own_made (w : World) (zs : List Int) (cs : Array Value) (cap : Nat) (h : cs.size = cap) (hl : zs.length ≤ cap) (hc : ∀ j, j < zs.length → cs[j]? = some (.int .i64 (zs.getD j 0))) : Own (w.alloc (.cells cs 3)) (.slice (some ⟨w.heap.size, 0, none⟩) zs.length cap) (some w.heap.size) zs := by
  have hh : (w.alloc (.cells cs 3)).heap[w.heap.size]? = some (.cells cs 3 (0, 0)) := heap_alloc_new w _
  have hcell : ∀ j, (w.alloc (.cells cs 3)).cell? ⟨w.heap.size, j, none⟩ = cs[j]? := fun j => cell_of_row _ _ j cs 3 (0, 0) hh
  refine .inr ⟨w.heap.size, 0, cap, rfl, rfl, by simp, hl, fun j hj => ⟨?_, ?_⟩, fun j hj => ?_⟩
  · rw [Nat.zero_add, hcell]; simp; omega
  · unfold World.frozen?; simp only [hh]; simp
  · rw [Nat.zero_add, hcell]; exact hc j hj
theorem own_grown (w : World) (zs ys : List Int) (need cap : Nat) (hn : need = zs.length + ys.length) (hc : need ≤ cap) :
    Own (w.alloc (.cells (((zs.map (Value.int .i64)) ++ (ys.map (Value.int .i64))).toArray ++ Builtin.zeroCells (Value.int .i64 0).cells (cap - need)) 3)) (.slice (some ⟨w.heap.size, 0, none⟩) need cap) (some w.heap.size) (zs ++ ys) := by
  have := own_made w (zs ++ ys) (((zs.map (Value.int .i64)) ++ (ys.map (Value.int .i64))).toArray ++ Builtin.zeroCells (Value.int .i64 0).cells (cap - need)) cap (by simp [size_zeroCells, Value.cells]; omega) (by simp; omega) (fun j hj => by
    rw [Array.getElem?_append_left (by simpa using hj)]
    simpa using getD_map_app zs ys j hj)
  rw [List.length_append, ← hn] at this
  exact this
theorem run_app (w : World) (v : Value) (ib : Option Nat) (zs : List Int) (hown : Own w v ib zs) (ao : Option Addr) (c : Nat) (ys : List Int) (hy : IntsAt w ao ys) (hlen : zs.length + ys.length ≤ 1000000) (ty : TypeId) :
    ∃ v' ib' w', (Builtin.append_ #[28, 28] ty #[v, .slice ao ys.length c]).run Tryd.prog w = .ok v' w' ∧ Own w' v' ib' (zs ++ ys) ∧ Grew w w' ib ib' := by
  obtain ⟨i0, hi, hi0, hi1, hi2⟩ := info_parts Tryd.info3
  by_cases h0 : ys = []
  · subst h0
    obtain ⟨ao', cap, rfl, hle, _⟩ := hown.form
    refine ⟨_, ib, w, ?_, by simpa using hown, Fr.refl _ _, .inl rfl⟩
    refine run_append_nothing (P := Tryd.prog) w 28 28 ty 3 i0 Tryd.underlying28 hi ao' zs.length cap hle _ ?_
    cases ao with
    | none => exact Src.ofNil w Tryd.underlying28 c
    | some a => exact Src.ofSlice w Tryd.underlying28 a 0 c [] (by simp) (by simp) (by simp)
  · have hpos : 0 < ys.length := List.length_pos_iff.2 h0
    obtain ⟨b, off, rfl, hbl, _⟩ := hy 0 hpos
    have hcy : ∀ j, j < ys.length → w.cell? ⟨b, off + j, none⟩ = some (.int .i64 (ys.getD j 0)) := fun j hj => by
      obtain ⟨b', off', e, _, h⟩ := hy j hj
      cases e
      exact h
    have hsrc : Src Tryd.prog i0.size 28 (.slice (some ⟨b, off, none⟩) ys.length c) ys.length (ys.map (Value.int .i64)) w :=
      Src.ofSlice w Tryd.underlying28 ⟨b, off, none⟩ ys.length c _ (by simp [hi1]) (ints_get hcy) (ints_one ys)
    have grows : ∀ (ao' : Option Addr) (cap : Nat), (∀ j, j < zs.length → ∃ b' off', ao' = some ⟨b', off', none⟩ ∧ w.cell? ⟨b', off' + j, none⟩ = some (.int .i64 (zs.getD j 0))) → cap < zs.length + ys.length →
        ∃ v' ib' w', (Builtin.append_ #[28, 28] ty #[.slice ao' zs.length cap, .slice (some ⟨b, off, none⟩) ys.length c]).run Tryd.prog w = .ok v' w' ∧ Own w' v' ib' (zs ++ ys) ∧ Grew w w' ib ib' := by
      intro ao' cap hz hcap
      have hold : (Builtin.firstCells i0.size zs.length (.slice ao' zs.length cap)).run Tryd.prog w.drew = .ok (zs.map (Value.int .i64)).toArray w.drew := by
        cases ao' with
        | none =>
          have : zs = [] := by
            cases zs with
            | nil => rfl
            | cons z zs => obtain ⟨_, _, h, _⟩ := hz 0 (by simp); cases h
          subst this
          exact run_firstCells_none _ _ _ _ _
        | some a =>
          refine run_firstCells_some (P := Tryd.prog) w.drew i0.size zs.length a zs.length cap _ (by simp [hi1]) ?_
          intro j u hj
          have hjl : j < zs.length := by
            have := (List.getElem?_eq_some_iff.1 hj).1
            simpa using this
          obtain ⟨b', off', e, _⟩ := hz 0 (by omega)
          cases e
          exact ints_get (w := w) (b := b') (off := off') (ys := zs) (fun j hj => by obtain ⟨_, _, e, h⟩ := hz j hj; cases e; exact h) j u hj
      have hr := run_append_grow_src (P := Tryd.prog) w 28 28 ty 3 i0 (.int .i64 0) Tryd.underlying28 hi hi0 ao' zs.length cap (zs.map (Value.int .i64)) hold _ ys.length (ys.map (Value.int .i64)) hsrc hcap (by omega) (growslice_fits hcap (by rw [hi2]; omega))
      refine ⟨_, _, _, hr, own_grown w.drew zs ys _ _ rfl (grownCap_ge w _ _ _), ((Fr.refl _ w).drew).alloc _, .inr rfl⟩
    rcases hown with ⟨rfl, rfl, rfl⟩ | ⟨g, o, cap, rfl, rfl, hgl, hle, hsp, hcz⟩
    · exact grows none 0 (fun j hj => absurd hj (by simp)) (by simp; omega)
    · by_cases hroom : zs.length + ys.length ≤ cap
      · have hr := run_append_room_src (P := Tryd.prog) w 28 28 ty 3 i0 Tryd.underlying28 hi g o zs.length cap _ ys.length (ys.map (Value.int .i64)) hsrc hroom (fun j hj => by
            rw [hi1, Nat.mul_one, Nat.add_assoc]; simp at hj; exact (hsp (zs.length + j) (by omega)).1) (fun j hj => by
            rw [hi1, Nat.mul_one, Nat.add_assoc]; simp at hj; exact (hsp (zs.length + j) (by omega)).2)
        rw [hi1, Nat.mul_one] at hr
        have F : Fr (fun k => some g = some k) w (w.setCells g (o + zs.length) (ys.map (Value.int .i64))) := Fr.setCells (K := fun k => some g = some k) (b := g) rfl _ _ (Fr.refl _ w)
        refine ⟨_, some g, _, hr, .inr ⟨g, o, cap, by rw [List.length_append], rfl, Nat.lt_of_lt_of_le hgl F.size, by rw [List.length_append]; exact hroom, fun j hj => ⟨?_, ?_⟩, fun j hj => ?_⟩, F, .inl rfl⟩
        · by_cases hin : zs.length ≤ j ∧ j < zs.length + ys.length
          · have := World.cell?_setCells_in g (ys.map (Value.int .i64)) (o + zs.length) w (fun i hi => by simp at hi; rw [Nat.add_assoc]; exact (hsp _ (by omega)).1) (j - zs.length) (by simp; omega)
            rw [show o + zs.length + (j - zs.length) = o + j by omega] at this
            rw [this]; rfl
          · rw [World.cell?_setCells_out g _ _ _ _ (fun _ _ => by simp; omega)]
            exact (hsp j hj).1
        · rw [World.frozen?_setCells]; exact (hsp j hj).2
        · rw [List.length_append] at hj
          by_cases hin : zs.length ≤ j
          · have := World.cell?_setCells_in g (ys.map (Value.int .i64)) (o + zs.length) w (fun i hi => by simp at hi; rw [Nat.add_assoc]; exact (hsp _ (by omega)).1) (j - zs.length) (by simp; omega)
            rw [show o + zs.length + (j - zs.length) = o + j by omega] at this
            rw [this]
            simp [List.getD, List.getElem?_append_right hin, List.getElem?_eq_getElem (show j - zs.length < ys.length by omega)]
          · rw [World.cell?_setCells_out g _ _ _ _ (fun _ _ => by simp; omega), hcz j (by omega)]
            simp [List.getD, List.getElem?_append_left (show j < zs.length by omega)]
      · exact grows _ cap (fun j hj => ⟨g, o, rfl, hcz j hj⟩) (by omega)
section
variable {w : World} {ops : Array Oper} {rest : List Oper} {o : Oper} {a : Act} {Q : Exit → Act → World → Prop}
theorem wpList_app (hg : o.guard = none) (s x : Operand) (ho : o.op = .call { callee := .builtin .append, args := #[s, x], argTypes := #[28, 28] })
    (v : Value) (ib : Option Nat) (zs : List Int) (hs : a.eval s = v) (hown : Own w v ib zs) (ao : Option Addr) (n c : Nat) (ys : List Int) (hx : a.eval x = .slice ao n c) (hn : n = ys.length) (hy : IntsAt w ao ys) (hlen : zs.length + ys.length ≤ 1000000)
    (hK : ∀ ao' c' ib' w', Own w' (.slice ao' (zs.length + ys.length) c') ib' (zs ++ ys) → Grew w w' ib ib' → wpList Tryd.prog ops Q rest (a.put o.dst (.slice ao' (zs.length + ys.length) c')) w') : wpList Tryd.prog ops Q (o :: rest) a w := by
  subst hn
  refine wpList_plain hg fun K hK' => ?_
  obtain ⟨v', ib', w', hr, h2, h3⟩ := run_app w v ib zs hown ao c ys hy hlen o.type
  obtain ⟨ao', cap, rfl, _⟩ := h2.form
  rw [List.length_append] at h2 hr
  unfold Oper.wp execOp
  simp only [ho, resolve, invoke, builtin, Sem.run_bind, Sem.run_pure, Result.andThen_ok, List.map_toArray, List.map_cons, List.map_nil, hs, hx, hr]
  exact hK' _ _ (hK ao' cap ib' w' h2 h3)
theorem step_app {K : Act → World → Prop} {E : Prop} (hg : o.guard = none) (s x : Operand) (ho : o.op = .call { callee := .builtin .append, args := #[s, x], argTypes := #[28, 28] })
    (v : Value) (ib : Option Nat) (zs : List Int) (hs : a.eval s = v) (hown : Own w v ib zs) (ao : Option Addr) (n c : Nat) (ys : List Int) (hx : a.eval x = .slice ao n c) (hn : n = ys.length) (hy : IntsAt w ao ys) (hlen : zs.length + ys.length ≤ 1000000)
    (hK : ∀ ao' c' ib' w', Own w' (.slice ao' (zs.length + ys.length) c') ib' (zs ++ ys) → Grew w w' ib ib' → K (a.put o.dst (.slice ao' (zs.length + ys.length) c')) w') : if Region.wanted o (yielded ops a.tmps) = true then Oper.wp Tryd.prog o a w K Q else E := by
  subst hn
  rw [if_pos (by simp [Region.wanted, hg])]
  obtain ⟨v', ib', w', hr, h2, h3⟩ := run_app w v ib zs hown ao c ys hy hlen o.type
  obtain ⟨ao', cap, rfl, _⟩ := h2.form
  rw [List.length_append] at h2 hr
  unfold Oper.wp execOp
  simp only [ho, resolve, invoke, builtin, Sem.run_bind, Sem.run_pure, Result.andThen_ok, List.map_toArray, List.map_cons, List.map_nil, hs, hx, hr]
  exact hK ao' cap ib' w' h2 h3
end
end Go.Proofs.YtogjblikljggbaaDoor
