/- A builder within a writer's or a printer's block: copyCheck, WriteString, WriteByte. -/
import Derived.Test.YtipnefogflpkhaaDoorAb0
import Derived.Lib.FrozenHead2
import Derived.Lib.OthersKept
import Derived.Shelf.Strings.BuilderF
set_option linter.unusedVariables false
set_option linter.unusedSimpArgs false
set_option maxHeartbeats 2000000
set_option maxRecDepth 100000
namespace Go.Proofs.YtipnefogflpkhaaDoor
open Go.RowKit
def bt : Bool → TypeId | false => 49 | true => 71
def bc : Bool → Value → Value → Array Value | false, p, v => #[p, v] | true, p, v => #[p, v, .int .i64 0]
def bn : Bool → Nat | false => 2 | true => 3
theorem bc0 (k : Bool) (p v : Value) : (bc k p v)[0]? = some p := by cases k <;> rfl
theorem bc1 (k : Bool) (p v : Value) : (bc k p v)[1]? = some v := by cases k <;> rfl
theorem bcs (k : Bool) (p v : Value) : (bc k p v).size = bn k := by cases k <;> rfl
theorem bcp (k : Bool) (p v q : Value) : (bc k p v).setIfInBounds 0 q = bc k q v := by cases k <;> rfl
theorem bcv (k : Bool) (p v q : Value) : (bc k p v).setIfInBounds 1 q = bc k p q := by cases k <;> rfl
theorem bt5 (k : Bool) : bt k ≠ 5 := by cases k <;> decide
/-- A builder in memory: addr, the bytes so far. -/
def PAt (k : Bool) (B b : Nat) (p : Value) (bs : List Value) (w : World) : Prop :=
  B ≤ b ∧ ∃ v, w.heap[b]? = some (.cells (bc k p v) (bt k) (0, 0)) ∧ w.ownsRowF B 5 1 v bs.length bs ∧ v.ownBlock ≠ some b
def PB (k : Bool) (B b : Nat) (bs : List Value) (w : World) : Prop := PAt k B b (.pointer none) bs w ∨ PAt k B b (.pointer (some ⟨b, 0, none⟩)) bs w
theorem PAt.lt {k : Bool} {B b : Nat} {p : Value} {bs : List Value} {w : World} (h : PAt k B b p bs w) : b < w.heap.size := by
  obtain ⟨_, v, hb, _⟩ := h
  rcases Nat.lt_or_ge b w.heap.size with h' | h'
  · exact h'
  · simp [Array.getElem?_eq_none h'] at hb
theorem PAt.cell0 {k : Bool} {B b : Nat} {p : Value} {bs : List Value} {w : World} (h : PAt k B b p bs w) : w.cell? ⟨b, 0, none⟩ = some p := by
  obtain ⟨_, v, hb, _⟩ := h
  simp [World.cell?, hb, bc0]
theorem PAt.shape {k : Bool} {B b : Nat} {p : Value} {bs : List Value} {w : World} (h : PAt k B b p bs w) : w.shape? b = some (bt k, bn k) := by
  obtain ⟨_, v, hb, _⟩ := h
  simp [World.shape?, hb, bcs]
theorem PAt.frozen {k : Bool} {B b : Nat} {p : Value} {bs : List Value} {w : World} (h : PAt k B b p bs w) (i : Nat) : w.frozen? ⟨b, i, none⟩ = false := by
  obtain ⟨_, v, hb, _⟩ := h
  simp [World.frozen?, hb]
theorem PAt.used {k : Bool} {B b : Nat} {p : Value} {bs : List Value} {w : World} (h : PAt k B b p bs w) (q : Value) : PAt k B b q bs (w.setCell ⟨b, 0, none⟩ q) := by
  obtain ⟨hB, v, hb, hown, hne⟩ := h
  refine ⟨hB, v, ?_, ?_, hne⟩
  · simp [World.setCell, Array.getElem?_modify, hb, bcp]
  · exact hown.kept (row := some b) ⟨rfl, rfl, rfl, by simp [World.setCell], fun k _ hk => Below.heap_setCell _ _ _ _ (fun e => hk (by simp [e]))⟩ (Or.inr hne)
theorem PAt.put {k : Bool} {B b : Nat} {p v v' : Value} {bs' : List Value} {w : World} (hB : B ≤ b) (hb : w.heap[b]? = some (.cells (bc k p v) (bt k) (0, 0))) (hown : w.ownsRowF B 5 1 v' bs'.length bs') : PAt k B b p bs' (w.setCell ⟨b, 1, none⟩ v') := by
  have hne := Lib.ownBlock_neF hown hb (bt5 k)
  refine ⟨hB, v', ?_, ?_, hne⟩
  · simp [World.setCell, Array.getElem?_modify, hb, bcv]
  · exact hown.kept (row := some b) ⟨rfl, rfl, rfl, by simp [World.setCell], fun k _ hk => Below.heap_setCell _ _ _ _ (fun e => hk (by simp [e]))⟩ (Or.inr hne)
theorem PAt.grown {k : Bool} {B b : Nat} {p : Value} {bs : List Value} {w w' : World} (h : PAt k B b p bs w) (hg : w.grownBy w' none) : PAt k B b p bs w' := by
  have hlt := h.lt
  obtain ⟨hB, v, hb, hown, hne⟩ := h
  exact ⟨hB, v, (hg.block b hlt (by simp)).trans hb, hown.kept hg (by cases hv : v.ownBlock <;> simp), hne⟩
theorem PB.grown {k : Bool} {B b : Nat} {bs : List Value} {w w' : World} (h : PB k B b bs w) (hg : w.grownBy w' none) : PB k B b bs w' := h.elim (fun x => .inl (x.grown hg)) (fun x => .inr (x.grown hg))
theorem PB.alloc {k : Bool} {B b : Nat} {bs : List Value} {w : World} (h : PB k B b bs w) (o : Obj) : PB k B b bs (w.alloc o) := h.grown (World.grownBy_alloc w o none)
theorem PB.lt {k : Bool} {B b : Nat} {bs : List Value} {w : World} (h : PB k B b bs w) : b < w.heap.size := h.elim (fun x => x.lt) (fun x => x.lt)
theorem PB.ge {k : Bool} {B b : Nat} {bs : List Value} {w : World} (h : PB k B b bs w) : B ≤ b := h.elim (fun x => x.1) (fun x => x.1)
theorem pb_sizeB : (Tryd.prog.info? 47).map (·.size) = some 2 := by kernel_rfl
theorem pb_liesB (k : Bool) : liesAt Tryd.prog Tryd.prog.depth (bt k) (bn k / Tryd.prog.cellsOf (bt k)) 0 47 1 = true := by
  cases k
  · show liesAt Tryd.prog Tryd.prog.depth 49 (2 / Tryd.prog.cellsOf 49) 0 47 1 = true
    kernel_rfl
  · show liesAt Tryd.prog Tryd.prog.depth 71 (3 / Tryd.prog.cellsOf 71) 0 47 1 = true
    kernel_rfl
theorem pb_infoB : (Tryd.prog.info? 5).map (fun i => (i.zero, i.size, i.bytes)) = some (some (.int .u8 0), 1, 1) := by kernel_rfl
theorem copyCheck_used (b : Nat) (w : World) (h0 : w.cell? ⟨b, 0, none⟩ = some (.pointer (some ⟨b, 0, none⟩))) :
    Calls Tryd.prog 24 #[.pointer (some ⟨b, 0, none⟩)] w fun e w' => e = .returned (.tuple #[]) ∧ w' = w := by
  obtain ⟨j, hj, _⟩ := Option.map_eq_some_iff.1 pb_sizeB
  go_enter Tryd.func24, Tryd.ntmps24
  go_wp2
  rw [Lib.run_neq_ptr_same w _ Tryd.underlying45 hj]
  go_wp2
  go_end0
  exact ⟨rfl, rfl⟩
theorem copyCheck_fresh (k : Bool) (b : Nat) (w : World) (h0 : w.cell? ⟨b, 0, none⟩ = some (.pointer none)) (hsh : w.shape? b = some (bt k, bn k)) (hfz : w.frozen? ⟨b, 0, none⟩ = false) :
    Calls Tryd.prog 24 #[.pointer (some ⟨b, 0, none⟩)] w fun e w' => e = .returned (.tuple #[]) ∧ w' = w.setCell ⟨b, 0, none⟩ (.pointer (some ⟨b, 0, none⟩)) := by
  obtain ⟨j, hj, hjs⟩ := Option.map_eq_some_iff.1 pb_sizeB
  go_enter Tryd.func24, Tryd.ntmps24
  go_wp2
  rw [Lib.run_to_unsafe w ⟨b, 0, none⟩ Tryd.underlying45 Tryd.underlying74 hj (by rw [hjs]; decide) hsh (by cases k <;> simp [bn])]
  simp only [Result.andThen]
  rw [Oper.upon_value]
  go_wp2
  rw [run_callFunc_extern Tryd.func29 (by rfl) (by rfl) (by rfl) (e := Extern.AbiNoEscape.same) (by rfl)]
  rw [Lib.run_noEscape]
  simp only [Result.andThen]
  rw [Oper.upon_value]
  go_wp2
  rw [Lib.run_from_unsafe w ⟨b, 0, none⟩ Tryd.underlying74 Tryd.underlying45 hj hsh (pb_liesB k)]
  simp only [Result.andThen]
  rw [Oper.upon_value]
  go_wp2
  go_end0
  exact ⟨rfl, rfl⟩
/-- What a builder's call leaves as it was. -/
structure WF (B b : Nat) (w w' : World) : Prop where
  below : Below B w w'
  others : Lib.OthersKept 5 (some b) w w'
theorem WF.refl (B b : Nat) (w : World) : WF B b w w := ⟨Below.refl B w, Lib.OthersKept.refl _ _ _⟩
theorem WF.trans {B b : Nat} {x y z : World} (h : WF B b x y) (k : WF B b y z) : WF B b x z := ⟨h.below.trans k.below, h.others.trans k.others⟩
theorem copyCheck_k (k : Bool) (B b : Nat) (bs : List Value) (w : World) (h : PB k B b bs w) :
    Calls Tryd.prog 24 #[.pointer (some ⟨b, 0, none⟩)] w fun e w' => e = .returned (.tuple #[]) ∧ (PAt k B b (.pointer (some ⟨b, 0, none⟩)) bs w' ∧ WF B b w w') := by
  rcases h with h | h
  · refine (copyCheck_fresh k b w h.cell0 h.shape (h.frozen 0)).mono ?_
    rintro e w' ⟨rfl, rfl⟩
    exact ⟨rfl, h.used _, (Below.refl B w).setCell (p := ⟨b, 0, none⟩) h.1 _, (Lib.OthersKept.refl _ _ w).setCell ⟨b, 0, none⟩ rfl _⟩
  · refine (copyCheck_used b w h.cell0).mono ?_
    rintro e w' ⟨rfl, rfl⟩
    exact ⟨rfl, h, WF.refl B b _⟩
theorem writeS_k (k : Bool) (B b : Nat) (bs : List Value) (s : ByteArray) (w : World) (h : PB k B b bs w) (hlen : bs.length + s.size ≤ 140737488355328) (hBw : B ≤ w.heap.size) :
    Calls Tryd.prog 17 #[.pointer (some ⟨b, 0, none⟩), .string s] w fun e w' => (∃ v, e = .returned v) ∧ (PAt k B b (.pointer (some ⟨b, 0, none⟩)) (bs ++ Lib.strCells s) w' ∧ WF B b w w') := by
  obtain ⟨i0, hi, hz0, hz1, hz2⟩ := info_parts pb_infoB
  go_enter Tryd.func17, Tryd.ntmps17
  go_wp2_with (go_at_call 24; refine (copyCheck_k k B b bs _ h).mono ?_)
  rintro e w1 ⟨rfl, h1, hb1, hk1⟩
  obtain ⟨hB, v, hbk, hown, hne⟩ := h1
  have c0 : w1.cell? ⟨b, 0, none⟩ = some (.pointer (some ⟨b, 0, none⟩)) := by rw [Lib.cell_of_heap hbk]; exact bc0 ..
  have c1 : w1.cell? ⟨b, 1, none⟩ = some v := by rw [Lib.cell_of_heap hbk]; exact bc1 ..
  go_wp2_with (at_builtin; refine Lib.wpList_append_own_stringF _ rfl _ _ 43 9 rfl B 5 i0 Tryd.underlying43 Tryd.underlying9 hi hz0 hz1 hz2 _ _ _ rfl hown s rfl ?c3 ?c4 ?c5 ?_)
  case c3 => unfold maxLen; omega
  case c4 => omega
  case c5 => have := hb1.size; omega
  intro v' w2 hown' hgrow _
  have hlt : b < w1.heap.size := by
    rcases Nat.lt_or_ge b w1.heap.size with h' | h'
    · exact h'
    · simp [Array.getElem?_eq_none h'] at hbk
  have hb2 : w2.heap[b]? = some (.cells (bc k (.pointer (some ⟨b, 0, none⟩)) v) (bt k) (0, 0)) := by
    rw [hgrow.block b hlt (fun e => hne e.symm)]
    exact hbk
  have d0 : w2.cell? ⟨b, 0, none⟩ = some (.pointer (some ⟨b, 0, none⟩)) := by rw [Lib.cell_of_heap hb2]; exact bc0 ..
  have d1 : w2.cell? ⟨b, 1, none⟩ = some v := by rw [Lib.cell_of_heap hb2]; exact bc1 ..
  have f1 : w2.frozen? ⟨b, 1, none⟩ = false := Lib.frozen_of_heap hb2 1
  obtain ⟨ao, n', cap, rfl⟩ : ∃ ao n' cap, v' = .slice ao n' cap := by
    rcases hown'.2 with ⟨hv, _⟩ | ⟨g, cap, cur, fz, hv, _⟩
    · exact ⟨_, _, _, hv⟩
    · exact ⟨_, _, _, hv⟩
  go_wp2
  go_ret2
  refine ⟨⟨_, rfl⟩, ?_, ?_, (hk1.grown hgrow (Lib.ownsRowF_kind hown)).setCell ⟨b, 1, none⟩ rfl _⟩
  · exact PAt.put hB hb2 (bs' := bs ++ Lib.strCells s) (by simpa [Lib.strCells_length] using hown')
  · exact (hb1.grown hgrow (by have := hb1.size; omega) (fun k hk => (hown.lt k hk).1)).setCell (p := ⟨b, 1, none⟩) hB _
theorem writeB_k (k : Bool) (B b : Nat) (bs : List Value) (c : Int) (w : World) (h : PB k B b bs w) (hlen : bs.length + 1 ≤ 140737488355328) (hBw : B ≤ w.heap.size) :
    Calls Tryd.prog 21 #[.pointer (some ⟨b, 0, none⟩), .int .u8 c] w fun e w' => (∃ v, e = .returned v) ∧ (PAt k B b (.pointer (some ⟨b, 0, none⟩)) (bs ++ [.int .u8 c]) w' ∧ WF B b w w') := by
  obtain ⟨i0, hi, hz0, hz1, hz2⟩ := info_parts pb_infoB
  go_enter Tryd.func21, Tryd.ntmps21
  go_wp2_with (go_at_call 24; refine (copyCheck_k k B b bs _ h).mono ?_)
  rintro e w1 ⟨rfl, h1, hb1, hk1⟩
  obtain ⟨hB, v, hbk, hown, hne⟩ := h1
  have c0 : w1.cell? ⟨b, 0, none⟩ = some (.pointer (some ⟨b, 0, none⟩)) := by rw [Lib.cell_of_heap hbk]; exact bc0 ..
  have c1 : w1.cell? ⟨b, 1, none⟩ = some v := by rw [Lib.cell_of_heap hbk]; exact bc1 ..
  go_wp2_with (at_builtin; refine wpList_append_ownF _ rfl _ _ 43 rfl B 5 i0 (.int .u8 0) 1 1 Tryd.underlying43 hi hz0 hz1 hz2 rfl (by decide) _ _ _ rfl (hown.alloc _) ⟨w1.heap.size, 0, none⟩ 1 1 [.int .u8 c] rfl rfl ?c1 ?c2 ?c3 ?c4 ?c5 ?_)
  case c1 =>
    intro j u hj
    match j, hj with
    | 0, hj => simp at hj; subst hj; simp [Addr.add]
  case c2 => intro u hu; simp at hu; subst hu; rfl
  case c3 => unfold maxLen; omega
  case c4 => omega
  case c5 => have := hb1.size; simp; omega
  intro v' w2 hown' hgrow _
  have hlt : b < w1.heap.size := by
    rcases Nat.lt_or_ge b w1.heap.size with h' | h'
    · exact h'
    · simp [Array.getElem?_eq_none h'] at hbk
  have hb2 : w2.heap[b]? = some (.cells (bc k (.pointer (some ⟨b, 0, none⟩)) v) (bt k) (0, 0)) := by
    rw [hgrow.block b (by simp; omega) (fun e => hne e.symm), Lib.alloc_old w1 _ b hlt]
    exact hbk
  have d0 : w2.cell? ⟨b, 0, none⟩ = some (.pointer (some ⟨b, 0, none⟩)) := by rw [Lib.cell_of_heap hb2]; exact bc0 ..
  have d1 : w2.cell? ⟨b, 1, none⟩ = some v := by rw [Lib.cell_of_heap hb2]; exact bc1 ..
  have f1 : w2.frozen? ⟨b, 1, none⟩ = false := Lib.frozen_of_heap hb2 1
  obtain ⟨g, cap, rfl⟩ : ∃ g cap, v' = .slice (some ⟨g, 0, none⟩) (bs.length + 1) cap := by
    rcases hown'.2 with ⟨_, h0⟩ | ⟨g, cap, cur, fz, hv, _⟩
    · omega
    · exact ⟨g, cap, hv⟩
  go_wp2
  go_ret
  refine ⟨⟨_, rfl⟩, ?_, ?_, ((hk1.alloc _).grown hgrow (Lib.ownsRowF_kind (hown.alloc _))).setCell ⟨b, 1, none⟩ rfl _⟩
  · exact PAt.put hB hb2 (bs' := bs ++ [.int .u8 c]) (by simpa using hown')
  · exact ((hb1.alloc (by have := hb1.size; omega) _).grown hgrow (by have := hb1.size; simp; omega) (fun k hk => (hown.lt k hk).1)).setCell (p := ⟨b, 1, none⟩) hB _
end Go.Proofs.YtipnefogflpkhaaDoor
