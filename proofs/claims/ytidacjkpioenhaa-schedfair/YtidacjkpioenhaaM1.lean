/- append and copy, over numbers of one's own. -/
import Derived.Test.YtidacjkpioenhaaM0
namespace Go.Proofs.Ytidacjkpioenhaa
open Go.RowKit
theorem Try.info3 : (Try.prog.info? 3).map (fun i => (i.zero, i.size, i.bytes)) = some (some (.int .i64 0), 1, 8) := by kernel_rfl
/-- The world is as it was but for the block of ib, which may have grown into a new one. -/
structure Grew (w w' : World) (ib ib' : Option Nat) : Prop where
  fr : Fr (fun k => ib = some k) w w'
  at_ : ib' = ib ∨ ib' = some w.heap.size
theorem ints_one (ys : List Int) : ∀ u ∈ ys.map (Value.int .i64), u.oneCell' = true := by
  intro u hu
  obtain ⟨z, _, rfl⟩ := List.mem_map.1 hu
  rfl
theorem ints_get {w : World} {b off : Nat} {ys : List Int} (h : ∀ j, j < ys.length → w.cell? ⟨b, off + j, none⟩ = some (.int .i64 (ys.getD j 0))) : ∀ j u, (ys.map (Value.int .i64))[j]? = some u → w.cell? ((⟨b, off, none⟩ : Addr).add j) = some u := by
  intro j u hj
  have hjl : j < ys.length := by
    have := (List.getElem?_eq_some_iff.1 hj).1
    simpa using this
  rw [Go.WideShapes.add_plain, h j hjl]
  rw [List.getElem?_map, List.getElem?_eq_getElem hjl] at hj
  simp [List.getD, List.getElem?_eq_getElem hjl]
  simpa using hj
theorem getD_map_app (zs ys : List Int) (j : Nat) (hj : j < (zs ++ ys).length) : ((zs.map (Value.int .i64)) ++ (ys.map (Value.int .i64)))[j]? = some (.int .i64 ((zs ++ ys).getD j 0)) := by
  rw [← List.map_append, List.getElem?_map, List.getElem?_eq_getElem hj]
  simp [List.getD, List.getElem?_eq_getElem hj]
/-- A row that was just made. -/
theorem own_made (w : World) (zs : List Int) (cs : Array Value) (cap : Nat) (h : cs.size = cap) (hl : zs.length ≤ cap) (hc : ∀ j, j < zs.length → cs[j]? = some (.int .i64 (zs.getD j 0))) : Own (w.alloc (.cells cs 3)) (.slice (some ⟨w.heap.size, 0, none⟩) zs.length cap) (some w.heap.size) zs := by
  have hh : (w.alloc (.cells cs 3)).heap[w.heap.size]? = some (.cells cs 3 (0, 0)) := heap_alloc_new w _
  have hcell : ∀ j, (w.alloc (.cells cs 3)).cell? ⟨w.heap.size, j, none⟩ = cs[j]? := fun j => cell_of_row _ _ j cs 3 (0, 0) hh
  refine .inr ⟨w.heap.size, 0, cap, rfl, rfl, by simp, hl, fun j hj => ⟨?_, ?_⟩, fun j hj => ?_⟩
  · rw [Nat.zero_add, hcell]; simp; omega
  · unfold World.frozen?; simp only [hh]; simp
  · rw [Nat.zero_add, hcell]; exact hc j hj
theorem own_grown (w : World) (zs ys : List Int) (need cap : Nat) (hn : need = zs.length + ys.length) (hc : need ≤ cap) :
    Own (w.alloc (.cells (((zs.map (Value.int .i64)) ++ (ys.map (Value.int .i64))).toArray ++ Builtin.zeroCells (Value.int .i64 0).cells (cap - need)) 3)) (.slice (some ⟨w.heap.size, 0, none⟩) need cap) (some w.heap.size) (zs ++ ys) := by
  have := own_made w (zs ++ ys) (((zs.map (Value.int .i64)) ++ (ys.map (Value.int .i64))).toArray ++ Builtin.zeroCells (Value.int .i64 0).cells (cap - need)) cap (by simp [size_zeroCells, Value.cells]; omega) (by simp; omega) (fun j hj => by
    rw [Array.getElem?_append_left (by simpa using hj)]
    simpa using getD_map_app zs ys j hj)
  rw [List.length_append, ← hn] at this
  exact this
theorem run_app (w : World) (v : Value) (ib : Option Nat) (zs : List Int) (hown : Own w v ib zs) (ao : Option Addr) (c : Nat) (ys : List Int) (hy : IntsAt w ao ys) (hlen : zs.length + ys.length ≤ 1000000) (ty : TypeId) :
    ∃ v' ib' w', (Builtin.append_ #[22, 22] ty #[v, .slice ao ys.length c]).run Try.prog w = .ok v' w' ∧ Own w' v' ib' (zs ++ ys) ∧ Grew w w' ib ib' := by
  obtain ⟨i0, hi, hi0, hi1, hi2⟩ := info_parts Try.info3
  by_cases h0 : ys = []
  · subst h0
    obtain ⟨ao', cap, rfl, hle, _⟩ := hown.form
    refine ⟨_, ib, w, ?_, by simpa using hown, Fr.refl _ _, .inl rfl⟩
    refine run_append_nothing (P := Try.prog) w 22 22 ty 3 i0 Try.underlying22 hi ao' zs.length cap hle _ ?_
    cases ao with
    | none => exact Src.ofNil w Try.underlying22 c
    | some a => exact Src.ofSlice w Try.underlying22 a 0 c [] (by simp) (by simp) (by simp)
  · have hpos : 0 < ys.length := List.length_pos_iff.2 h0
    obtain ⟨b, off, rfl, hbl, _⟩ := hy 0 hpos
    have hcy : ∀ j, j < ys.length → w.cell? ⟨b, off + j, none⟩ = some (.int .i64 (ys.getD j 0)) := fun j hj => by
      obtain ⟨b', off', e, _, h⟩ := hy j hj
      cases e
      exact h
    have hsrc : Src Try.prog i0.size 22 (.slice (some ⟨b, off, none⟩) ys.length c) ys.length (ys.map (Value.int .i64)) w :=
      Src.ofSlice w Try.underlying22 ⟨b, off, none⟩ ys.length c _ (by simp [hi1]) (ints_get hcy) (ints_one ys)
    have grows : ∀ (ao' : Option Addr) (cap : Nat), (∀ j, j < zs.length → ∃ b' off', ao' = some ⟨b', off', none⟩ ∧ w.cell? ⟨b', off' + j, none⟩ = some (.int .i64 (zs.getD j 0))) → cap < zs.length + ys.length →
        ∃ v' ib' w', (Builtin.append_ #[22, 22] ty #[.slice ao' zs.length cap, .slice (some ⟨b, off, none⟩) ys.length c]).run Try.prog w = .ok v' w' ∧ Own w' v' ib' (zs ++ ys) ∧ Grew w w' ib ib' := by
      intro ao' cap hz hcap
      have hold : (Builtin.firstCells i0.size zs.length (.slice ao' zs.length cap)).run Try.prog w.drew = .ok (zs.map (Value.int .i64)).toArray w.drew := by
        cases ao' with
        | none =>
          have : zs = [] := by
            cases zs with
            | nil => rfl
            | cons z zs => obtain ⟨_, _, h, _⟩ := hz 0 (by simp); cases h
          subst this
          exact run_firstCells_none _ _ _ _ _
        | some a =>
          refine run_firstCells_some (P := Try.prog) w.drew i0.size zs.length a zs.length cap _ (by simp [hi1]) ?_
          intro j u hj
          have hjl : j < zs.length := by
            have := (List.getElem?_eq_some_iff.1 hj).1
            simpa using this
          obtain ⟨b', off', e, _⟩ := hz 0 (by omega)
          cases e
          exact ints_get (w := w) (b := b') (off := off') (ys := zs) (fun j hj => by obtain ⟨_, _, e, h⟩ := hz j hj; cases e; exact h) j u hj
      have hr := run_append_grow_src (P := Try.prog) w 22 22 ty 3 i0 (.int .i64 0) Try.underlying22 hi hi0 ao' zs.length cap (zs.map (Value.int .i64)) hold _ ys.length (ys.map (Value.int .i64)) hsrc hcap (by omega) (growslice_fits hcap (by rw [hi2]; omega))
      refine ⟨_, _, _, hr, own_grown w.drew zs ys _ _ rfl (grownCap_ge w _ _ _), ((Fr.refl _ w).drew).alloc _, .inr rfl⟩
    rcases hown with ⟨rfl, rfl, rfl⟩ | ⟨g, o, cap, rfl, rfl, hgl, hle, hsp, hcz⟩
    · exact grows none 0 (fun j hj => absurd hj (by simp)) (by simp; omega)
    · by_cases hroom : zs.length + ys.length ≤ cap
      · have hr := run_append_room_src (P := Try.prog) w 22 22 ty 3 i0 Try.underlying22 hi g o zs.length cap _ ys.length (ys.map (Value.int .i64)) hsrc hroom (fun j hj => by
            rw [hi1, Nat.mul_one, Nat.add_assoc]; simp at hj; exact (hsp (zs.length + j) (by omega)).1) (fun j hj => by
            rw [hi1, Nat.mul_one, Nat.add_assoc]; simp at hj; exact (hsp (zs.length + j) (by omega)).2)
        rw [hi1, Nat.mul_one] at hr
        have F : Fr (fun k => some g = some k) w (w.setCells g (o + zs.length) (ys.map (Value.int .i64))) := Fr.setCells (K := fun k => some g = some k) (b := g) rfl _ _ (Fr.refl _ w)
        refine ⟨_, some g, _, hr, .inr ⟨g, o, cap, by rw [List.length_append], rfl, Nat.lt_of_lt_of_le hgl F.size, by rw [List.length_append]; exact hroom, fun j hj => ⟨?_, ?_⟩, fun j hj => ?_⟩, F, .inl rfl⟩
        · by_cases hin : zs.length ≤ j ∧ j < zs.length + ys.length
          · have := World.cell?_setCells_in g (ys.map (Value.int .i64)) (o + zs.length) w (fun i hi => by simp at hi; rw [Nat.add_assoc]; exact (hsp _ (by omega)).1) (j - zs.length) (by simp; omega)
            rw [show o + zs.length + (j - zs.length) = o + j by omega] at this
            rw [this]; rfl
          · rw [World.cell?_setCells_out g _ _ _ _ (fun _ _ => by simp; omega)]
            exact (hsp j hj).1
        · rw [World.frozen?_setCells]; exact (hsp j hj).2
        · rw [List.length_append] at hj
          by_cases hin : zs.length ≤ j
          · have := World.cell?_setCells_in g (ys.map (Value.int .i64)) (o + zs.length) w (fun i hi => by simp at hi; rw [Nat.add_assoc]; exact (hsp _ (by omega)).1) (j - zs.length) (by simp; omega)
            rw [show o + zs.length + (j - zs.length) = o + j by omega] at this
            rw [this]
            simp [List.getD, List.getElem?_append_right hin, List.getElem?_eq_getElem (show j - zs.length < ys.length by omega)]
          · rw [World.cell?_setCells_out g _ _ _ _ (fun _ _ => by simp; omega), hcz j (by omega)]
            simp [List.getD, List.getElem?_append_left (show j < zs.length by omega)]
      · exact grows _ cap (fun j hj => ⟨g, o, rfl, hcz j hj⟩) (by omega)
section
variable {w : World} {ops : Array Oper} {rest : List Oper} {o : Oper} {a : Act} {Q : Exit → Act → World → Prop}
theorem wpList_app (hg : o.guard = none) (s x : Operand) (ho : o.op = .call { callee := .builtin .append, args := #[s, x], argTypes := #[22, 22] })
    (v : Value) (ib : Option Nat) (zs : List Int) (hs : a.eval s = v) (hown : Own w v ib zs) (ao : Option Addr) (n c : Nat) (ys : List Int) (hx : a.eval x = .slice ao n c) (hn : n = ys.length) (hy : IntsAt w ao ys) (hlen : zs.length + ys.length ≤ 1000000)
    (hK : ∀ ao' c' ib' w', Own w' (.slice ao' (zs.length + ys.length) c') ib' (zs ++ ys) → Grew w w' ib ib' → wpList Try.prog ops Q rest (a.put o.dst (.slice ao' (zs.length + ys.length) c')) w') : wpList Try.prog ops Q (o :: rest) a w := by
  subst hn
  refine wpList_plain hg fun K hK' => ?_
  obtain ⟨v', ib', w', hr, h2, h3⟩ := run_app w v ib zs hown ao c ys hy hlen o.type
  obtain ⟨ao', cap, rfl, _⟩ := h2.form
  rw [List.length_append] at h2 hr
  unfold Oper.wp execOp
  simp only [ho, resolve, invoke, builtin, Sem.run_bind, Sem.run_pure, Result.andThen_ok, List.map_toArray, List.map_cons, List.map_nil, hs, hx, hr]
  exact hK' _ _ (hK ao' cap ib' w' h2 h3)
theorem step_app {K : Act → World → Prop} {E : Prop} (hg : o.guard = none) (s x : Operand) (ho : o.op = .call { callee := .builtin .append, args := #[s, x], argTypes := #[22, 22] })
    (v : Value) (ib : Option Nat) (zs : List Int) (hs : a.eval s = v) (hown : Own w v ib zs) (ao : Option Addr) (n c : Nat) (ys : List Int) (hx : a.eval x = .slice ao n c) (hn : n = ys.length) (hy : IntsAt w ao ys) (hlen : zs.length + ys.length ≤ 1000000)
    (hK : ∀ ao' c' ib' w', Own w' (.slice ao' (zs.length + ys.length) c') ib' (zs ++ ys) → Grew w w' ib ib' → K (a.put o.dst (.slice ao' (zs.length + ys.length) c')) w') : if Region.wanted o (yielded ops a.tmps) = true then Oper.wp Try.prog o a w K Q else E := by
  subst hn
  rw [if_pos (by simp [Region.wanted, hg])]
  obtain ⟨v', ib', w', hr, h2, h3⟩ := run_app w v ib zs hown ao c ys hy hlen o.type
  obtain ⟨ao', cap, rfl, _⟩ := h2.form
  rw [List.length_append] at h2 hr
  unfold Oper.wp execOp
  simp only [ho, resolve, invoke, builtin, Sem.run_bind, Sem.run_pure, Result.andThen_ok, List.map_toArray, List.map_cons, List.map_nil, hs, hx, hr]
  exact hK ao' cap ib' w' h2 h3
/-- copy within a row. -/
theorem step_copy {K : Act → World → Prop} {E : Prop} (hg : o.guard = none) (d s : Operand) (ho : o.op = .call { callee := .builtin .copy, args := #[d, s], argTypes := #[22, 22] })
    (dp sp : Option Addr) (dLen dCap sLen sCap : Nat) (hd : a.eval d = .slice dp dLen dCap) (hs : a.eval s = .slice sp sLen sCap) (b off : Nat) (ys : List Int) (hn : ys.length = Nat.min sLen dLen)
    (hpos : 0 < ys.length → dp = some ⟨b, off, none⟩ ∧ IntsAt w sp ys) (hc : ∀ j, j < ys.length → (w.cell? ⟨b, off + j, none⟩).isSome = true ∧ w.frozen? ⟨b, off + j, none⟩ = false)
    (hK : K (a.put o.dst (goInt ys.length)) (w.setCells b off (ys.map (Value.int .i64)))) : if Region.wanted o (yielded ops a.tmps) = true then Oper.wp Try.prog o a w K Q else E := by
  rw [if_pos (by simp [Region.wanted, hg])]
  have hsz : (Try.prog.info? 3).map (·.size) = some 1 := by
    obtain ⟨i0, hi, hi0, hi1, hi2⟩ := info_parts Try.info3
    rw [hi]; simp [hi1]
  by_cases h0 : ys = []
  · subst h0
    have hr := run_copy_none (P := Try.prog) w 22 22 o.type 3 dp sp dLen dCap sLen sCap Try.underlying22 hsz (by simpa using hn.symm)
    unfold Oper.wp execOp
    simp only [ho, resolve, invoke, builtin, Sem.run_bind, Sem.run_pure, Result.andThen_ok, List.map_toArray, List.map_cons, List.map_nil, hd, hs, hr]
    exact hK
  · have hp : 0 < ys.length := List.length_pos_iff.2 h0
    obtain ⟨rfl, hy⟩ := hpos hp
    obtain ⟨b', off', rfl, _, _⟩ := hy 0 hp
    have hr := run_copy_cells (P := Try.prog) w 22 22 o.type 3 b off dLen dCap ⟨b', off', none⟩ sLen sCap (ys.map (Value.int .i64)) Try.underlying22 hsz (by simpa using hn)
      (ints_get fun j hj => by obtain ⟨_, _, e, _, h⟩ := hy j hj; cases e; exact h) (fun j hj => (hc j (by simpa using hj)).1) (fun j hj => (hc j (by simpa using hj)).2) (ints_one ys)
    rw [List.length_map] at hr
    unfold Oper.wp execOp
    simp only [ho, resolve, invoke, builtin, Sem.run_bind, Sem.run_pure, Result.andThen_ok, List.map_toArray, List.map_cons, List.map_nil, hd, hs, hr]
    exact hK
end
end Go.Proofs.Ytidacjkpioenhaa
