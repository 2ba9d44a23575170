import Derived.Test.YtheknbfbneghgaaGreatDoorLeaf
import Derived.Lib.FrozenHead2
import Derived.Lib.OthersKept
import Derived.Shelf.Strings.BuilderF
import Derived.Test.YtheknbfbneghgaaGreatDoorMa
import Derived.Test.YtheknbfbneghgaaGreatDoorMb
import Derived.Laws.Small
import Derived.Deep.LoopGhost
set_option linter.unusedVariables false
set_option linter.unusedSimpArgs false
set_option maxHeartbeats 2000000
set_option maxRecDepth 100000
namespace Go.Proofs.YtheknbfbneghgaaGreatDoor.Pp
open Go.RowKit
/-- A printer in memory: addr, the bytes so far, the depth. -/
def PAt (B b : Nat) (p : Value) (d : Int) (bs : List Value) (w : World) : Prop :=
  B ≤ b ∧ ∃ v, w.heap[b]? = some (.cells #[p, v, .int .i64 d] 50 (0, 0)) ∧ w.ownsRowF B 5 1 v bs.length bs ∧ v.ownBlock ≠ some b
def PB (B b : Nat) (d : Int) (bs : List Value) (w : World) : Prop := PAt B b (.pointer none) d bs w ∨ PAt B b (.pointer (some ⟨b, 0, none⟩)) d bs w
theorem PAt.lt {B b : Nat} {p : Value} {d : Int} {bs : List Value} {w : World} (h : PAt B b p d bs w) : b < w.heap.size := by
  obtain ⟨_, v, hb, _⟩ := h
  rcases Nat.lt_or_ge b w.heap.size with h' | h'
  · exact h'
  · simp [Array.getElem?_eq_none h'] at hb
theorem PAt.cell0 {B b : Nat} {p : Value} {d : Int} {bs : List Value} {w : World} (h : PAt B b p d bs w) : w.cell? ⟨b, 0, none⟩ = some p := by
  obtain ⟨_, v, hb, _⟩ := h
  simp [World.cell?, hb]
theorem PAt.cell2 {B b : Nat} {p : Value} {d : Int} {bs : List Value} {w : World} (h : PAt B b p d bs w) : w.cell? ⟨b, 2, none⟩ = some (.int .i64 d) := by
  obtain ⟨_, v, hb, _⟩ := h
  simp [World.cell?, hb]
theorem PAt.shape {B b : Nat} {p : Value} {d : Int} {bs : List Value} {w : World} (h : PAt B b p d bs w) : w.shape? b = some (50, 3) := by
  obtain ⟨_, v, hb, _⟩ := h
  simp [World.shape?, hb]
theorem PAt.frozen {B b : Nat} {p : Value} {d : Int} {bs : List Value} {w : World} (h : PAt B b p d bs w) (i : Nat) : w.frozen? ⟨b, i, none⟩ = false := by
  obtain ⟨_, v, hb, _⟩ := h
  simp [World.frozen?, hb]
theorem PAt.used {B b : Nat} {p : Value} {d : Int} {bs : List Value} {w : World} (h : PAt B b p d bs w) (q : Value) : PAt B b q d bs (w.setCell ⟨b, 0, none⟩ q) := by
  obtain ⟨hB, v, hb, hown, hne⟩ := h
  refine ⟨hB, v, ?_, ?_, hne⟩
  · simp [World.setCell, Array.getElem?_modify, hb]
  · exact hown.kept (row := some b) ⟨rfl, rfl, rfl, by simp [World.setCell], fun k _ hk => Below.heap_setCell _ _ _ _ (fun e => hk (by simp [e]))⟩ (Or.inr hne)
theorem PAt.deep {B b : Nat} {p : Value} {d : Int} {bs : List Value} {w : World} (h : PAt B b p d bs w) (d' : Int) : PAt B b p d' bs (w.setCell ⟨b, 2, none⟩ (.int .i64 d')) := by
  obtain ⟨hB, v, hb, hown, hne⟩ := h
  refine ⟨hB, v, ?_, ?_, hne⟩
  · simp [World.setCell, Array.getElem?_modify, hb]
  · exact hown.kept (row := some b) ⟨rfl, rfl, rfl, by simp [World.setCell], fun k _ hk => Below.heap_setCell _ _ _ _ (fun e => hk (by simp [e]))⟩ (Or.inr hne)
theorem PAt.put {B b : Nat} {p v v' : Value} {d : Int} {bs' : List Value} {w : World} (hB : B ≤ b) (hb : w.heap[b]? = some (.cells #[p, v, .int .i64 d] 50 (0, 0))) (hown : w.ownsRowF B 5 1 v' bs'.length bs') : PAt B b p d bs' (w.setCell ⟨b, 1, none⟩ v') := by
  have hne := Lib.ownBlock_neF hown hb dc
  refine ⟨hB, v', ?_, ?_, hne⟩
  · simp [World.setCell, Array.getElem?_modify, hb]
  · exact hown.kept (row := some b) ⟨rfl, rfl, rfl, by simp [World.setCell], fun k _ hk => Below.heap_setCell _ _ _ _ (fun e => hk (by simp [e]))⟩ (Or.inr hne)
theorem PAt.alloc {B b : Nat} {p : Value} {d : Int} {bs : List Value} {w : World} (h : PAt B b p d bs w) (o : Obj) : PAt B b p d bs (w.alloc o) := by
  have hlt := h.lt
  obtain ⟨hB, v, hb, hown, hne⟩ := h
  exact ⟨hB, v, (Lib.alloc_old w o b hlt).trans hb, hown.kept (World.grownBy_alloc w o none) (by cases hv : v.ownBlock <;> simp), hne⟩
theorem PAt.grown {B b : Nat} {p : Value} {d : Int} {bs : List Value} {w w' : World} (h : PAt B b p d bs w) (hg : w.grownBy w' none) : PAt B b p d bs w' := by
  have hlt := h.lt
  obtain ⟨hB, v, hb, hown, hne⟩ := h
  exact ⟨hB, v, (hg.block b hlt zK).trans hb, hown.kept hg (by cases hv : v.ownBlock <;> simp), hne⟩
theorem PB.alloc {B b : Nat} {d : Int} {bs : List Value} {w : World} (h : PB B b d bs w) (o : Obj) : PB B b d bs (w.alloc o) := h.elim (fun x => .inl (x.alloc o)) (fun x => .inr (x.alloc o))
theorem PB.grown {B b : Nat} {d : Int} {bs : List Value} {w w' : World} (h : PB B b d bs w) (hg : w.grownBy w' none) : PB B b d bs w' := h.elim (fun x => .inl (x.grown hg)) (fun x => .inr (x.grown hg))
theorem PB.lt {B b : Nat} {d : Int} {bs : List Value} {w : World} (h : PB B b d bs w) : b < w.heap.size := h.elim (fun x => x.lt) (fun x => x.lt)
theorem PB.ge {B b : Nat} {d : Int} {bs : List Value} {w : World} (h : PB B b d bs w) : B ≤ b := h.elim (fun x => x.1) (fun x => x.1)
theorem PB.cell2 {B b : Nat} {d : Int} {bs : List Value} {w : World} (h : PB B b d bs w) : w.cell? ⟨b, 2, none⟩ = some (.int .i64 d) := h.elim (fun x => x.cell2) (fun x => x.cell2)
theorem PB.frozen {B b : Nat} {d : Int} {bs : List Value} {w : World} (h : PB B b d bs w) (i : Nat) : w.frozen? ⟨b, i, none⟩ = false := h.elim (fun x => x.frozen i) (fun x => x.frozen i)
theorem PB.deep {B b : Nat} {d : Int} {bs : List Value} {w : World} (h : PB B b d bs w) (d' : Int) : PB B b d' bs (w.setCell ⟨b, 2, none⟩ (.int .i64 d')) := h.elim (fun x => .inl (x.deep d')) (fun x => .inr (x.deep d'))
theorem pb_sizeB : (Tryz.prog.info? 48).map (·.size) = some 2 := by kernel_rfl
theorem pb_liesB : liesAt Tryz.prog Tryz.prog.depth 50 (3 / Tryz.prog.cellsOf 50) 0 48 1 = true := by kernel_rfl
theorem pb_infoB : (Tryz.prog.info? 5).map (fun i => (i.zero, i.size, i.bytes)) = some (some (.int .u8 0), 1, 1) := by kernel_rfl
theorem pb_parts {i : Option TypeInfo} {z : Option Value} {s b : Nat} (h : i.map (fun i => (i.zero, i.size, i.bytes)) = some (z, s, b)) : ∃ j, i = some j ∧ j.zero = z ∧ j.size = s ∧ j.bytes = b := by
  obtain ⟨j, h1, h2⟩ := Option.map_eq_some_iff.1 h
  simp only [Prod.mk.injEq] at h2
  exact ⟨j, h1, h2.1, h2.2.1, h2.2.2⟩
theorem copyCheck_used (b : Nat) (w : World) (h0 : w.cell? ⟨b, 0, none⟩ = some (.pointer (some ⟨b, 0, none⟩))) :
    Calls Tryz.prog 41 #[.pointer (some ⟨b, 0, none⟩)] w fun e w' => e = .returned (.tuple #[]) ∧ w' = w := by
  obtain ⟨j, hj, _⟩ := Option.map_eq_some_iff.1 pb_sizeB
  go_enter Tryz.func41, Tryz.ntmps41
  go_wp2
  rw [Lib.run_neq_ptr_same w _ Tryz.underlying45 hj]
  go_wp2
  go_end0
  exact ⟨rfl, rfl⟩
theorem copyCheck_fresh (b : Nat) (w : World) (h0 : w.cell? ⟨b, 0, none⟩ = some (.pointer none)) (hsh : w.shape? b = some (50, 3)) (hfz : w.frozen? ⟨b, 0, none⟩ = false) :
    Calls Tryz.prog 41 #[.pointer (some ⟨b, 0, none⟩)] w fun e w' => e = .returned (.tuple #[]) ∧ w' = w.setCell ⟨b, 0, none⟩ (.pointer (some ⟨b, 0, none⟩)) := by
  obtain ⟨j, hj, hjs⟩ := Option.map_eq_some_iff.1 pb_sizeB
  go_enter Tryz.func41, Tryz.ntmps41
  go_wp2
  rw [Lib.run_to_unsafe w ⟨b, 0, none⟩ Tryz.underlying45 Tryz.underlying67 hj (by rw [hjs]; decide) hsh (Nat.zero_lt_succ 2)]
  simp only [Result.andThen]
  rw [Oper.upon_value]
  go_wp2
  rw [run_callFunc_extern Tryz.func67 zG zG zG (e := Extern.AbiNoEscape.same) zG]
  rw [Lib.run_noEscape]
  simp only [Result.andThen]
  rw [Oper.upon_value]
  go_wp2
  rw [Lib.run_from_unsafe w ⟨b, 0, none⟩ Tryz.underlying67 Tryz.underlying45 hj hsh pb_liesB]
  simp only [Result.andThen]
  rw [Oper.upon_value]
  go_wp2
  go_end0
  exact ⟨rfl, rfl⟩
theorem copyCheck_k (B b : Nat) (d : Int) (bs : List Value) (w : World) (h : PB B b d bs w) :
    Calls Tryz.prog 41 #[.pointer (some ⟨b, 0, none⟩)] w fun e w' => e = .returned (.tuple #[]) ∧ (PAt B b (.pointer (some ⟨b, 0, none⟩)) d bs w' ∧ Below B w w' ∧ Lib.OthersKept 5 (some b) w w') := by
  rcases h with h | h
  · refine (copyCheck_fresh b w h.cell0 h.shape (h.frozen 0)).mono ?_
    rintro e w' ⟨rfl, rfl⟩
    exact ⟨rfl, h.used _, (Below.refl B w).setCell (p := ⟨b, 0, none⟩) h.1 _, (Lib.OthersKept.refl _ _ w).setCell ⟨b, 0, none⟩ rfl _⟩
  · refine (copyCheck_used b w h.cell0).mono ?_
    rintro e w' ⟨rfl, rfl⟩
    exact ⟨rfl, h, Below.refl B _, Lib.OthersKept.refl _ _ _⟩
theorem writeS_k (B b : Nat) (d : Int) (bs : List Value) (s : ByteArray) (w : World) (h : PB B b d bs w) (hlen : bs.length + s.size ≤ 140737488355328) (hBw : B ≤ w.heap.size) :
    Calls Tryz.prog 36 #[.pointer (some ⟨b, 0, none⟩), .string s] w fun e w' => (∃ v, e = .returned v) ∧ (PAt B b (.pointer (some ⟨b, 0, none⟩)) d (bs ++ Lib.strCells s) w' ∧ Below B w w' ∧ Lib.OthersKept 5 (some b) w w') := by
  obtain ⟨i0, hi, hz0, hz1, hz2⟩ := pb_parts pb_infoB
  go_enter Tryz.func36, Tryz.ntmps36
  go_wp2_with (go_at_call 41; refine (copyCheck_k B b d bs _ h).mono ?_)
  rintro e w1 ⟨rfl, h1, hb1, hk1⟩
  obtain ⟨hB, v, hbk, hown, hne⟩ := h1
  have c0 : w1.cell? ⟨b, 0, none⟩ = some (.pointer (some ⟨b, 0, none⟩)) := by rw [Lib.cell_of_heap hbk]; rfl
  have c1 : w1.cell? ⟨b, 1, none⟩ = some v := by rw [Lib.cell_of_heap hbk]; rfl
  go_wp2_with (at_builtin; refine Lib.wpList_append_own_stringF _ rfl _ _ 46 9 rfl B 5 i0 Tryz.underlying46 Tryz.underlying9 hi hz0 hz1 hz2 _ _ _ rfl hown s rfl ?c3 ?c4 ?c5 ?_)
  case c3 => unfold maxLen; omega
  case c4 => omega
  case c5 => have := hb1.size; omega
  intro v' w2 hown' hgrow _
  have hlt : b < w1.heap.size := by
    rcases Nat.lt_or_ge b w1.heap.size with h' | h'
    · exact h'
    · simp [Array.getElem?_eq_none h'] at hbk
  have hb2 : w2.heap[b]? = some (.cells #[.pointer (some ⟨b, 0, none⟩), v, .int .i64 d] 50 (0, 0)) := by
    rw [hgrow.block b hlt (fun e => hne e.symm)]
    exact hbk
  have d0 : w2.cell? ⟨b, 0, none⟩ = some (.pointer (some ⟨b, 0, none⟩)) := by rw [Lib.cell_of_heap hb2]; rfl
  have d1 : w2.cell? ⟨b, 1, none⟩ = some v := by rw [Lib.cell_of_heap hb2]; rfl
  have f1 : w2.frozen? ⟨b, 1, none⟩ = false := Lib.frozen_of_heap hb2 1
  obtain ⟨ao, n', cap, rfl⟩ : ∃ ao n' cap, v' = .slice ao n' cap := by
    rcases hown'.2 with ⟨hv, _⟩ | ⟨g, cap, cur, fz, hv, _⟩
    · exact ⟨_, _, _, hv⟩
    · exact ⟨_, _, _, hv⟩
  go_wp2
  go_ret2
  refine ⟨⟨_, rfl⟩, ?_, ?_, (hk1.grown hgrow (Lib.ownsRowF_kind hown)).setCell ⟨b, 1, none⟩ rfl _⟩
  · exact PAt.put hB hb2 (bs' := bs ++ Lib.strCells s) (by simpa [Lib.strCells_length] using hown')
  · exact (hb1.grown hgrow (by have := hb1.size; omega) (fun k hk => (hown.lt k hk).1)).setCell (p := ⟨b, 1, none⟩) hB _
theorem writeB_k (B b : Nat) (d : Int) (bs : List Value) (c : Int) (w : World) (h : PB B b d bs w) (hlen : bs.length + 1 ≤ 140737488355328) (hBw : B ≤ w.heap.size) :
    Calls Tryz.prog 26 #[.pointer (some ⟨b, 0, none⟩), .int .u8 c] w fun e w' => (∃ v, e = .returned v) ∧ (PAt B b (.pointer (some ⟨b, 0, none⟩)) d (bs ++ [.int .u8 c]) w' ∧ Below B w w' ∧ Lib.OthersKept 5 (some b) w w') := by
  obtain ⟨i0, hi, hz0, hz1, hz2⟩ := pb_parts pb_infoB
  go_enter Tryz.func26, Tryz.ntmps26
  go_wp2_with (go_at_call 41; refine (copyCheck_k B b d bs _ h).mono ?_)
  rintro e w1 ⟨rfl, h1, hb1, hk1⟩
  obtain ⟨hB, v, hbk, hown, hne⟩ := h1
  have c0 : w1.cell? ⟨b, 0, none⟩ = some (.pointer (some ⟨b, 0, none⟩)) := by rw [Lib.cell_of_heap hbk]; rfl
  have c1 : w1.cell? ⟨b, 1, none⟩ = some v := by rw [Lib.cell_of_heap hbk]; rfl
  go_wp2_with (at_builtin; refine wpList_append_ownF _ rfl _ _ 46 rfl B 5 i0 (.int .u8 0) 1 1 Tryz.underlying46 hi hz0 hz1 hz2 rfl dc _ _ _ rfl (hown.alloc _) ⟨w1.heap.size, 0, none⟩ 1 1 [.int .u8 c] rfl rfl ?c1 ?c2 ?c3 ?c4 ?c5 ?_)
  case c1 =>
    intro j u hj
    match j, hj with
    | 0, hj => simp at hj; subst hj; simp [Addr.add]
  case c2 => intro u hu; simp at hu; subst hu; rfl
  case c3 => unfold maxLen; omega
  case c4 => omega
  case c5 => have := hb1.size; simp; omega
  intro v' w2 hown' hgrow _
  have hlt : b < w1.heap.size := by
    rcases Nat.lt_or_ge b w1.heap.size with h' | h'
    · exact h'
    · simp [Array.getElem?_eq_none h'] at hbk
  have hb2 : w2.heap[b]? = some (.cells #[.pointer (some ⟨b, 0, none⟩), v, .int .i64 d] 50 (0, 0)) := by
    rw [hgrow.block b sp (fun e => hne e.symm), Lib.alloc_old w1 _ b hlt]
    exact hbk
  have d0 : w2.cell? ⟨b, 0, none⟩ = some (.pointer (some ⟨b, 0, none⟩)) := by rw [Lib.cell_of_heap hb2]; rfl
  have d1 : w2.cell? ⟨b, 1, none⟩ = some v := by rw [Lib.cell_of_heap hb2]; rfl
  have f1 : w2.frozen? ⟨b, 1, none⟩ = false := Lib.frozen_of_heap hb2 1
  obtain ⟨g, cap, rfl⟩ : ∃ g cap, v' = .slice (some ⟨g, 0, none⟩) (bs.length + 1) cap := by
    rcases hown'.2 with ⟨_, h0⟩ | ⟨g, cap, cur, fz, hv, _⟩
    · omega
    · exact ⟨g, cap, hv⟩
  go_wp2
  go_ret
  refine ⟨⟨_, rfl⟩, ?_, ?_, ((hk1.alloc _).grown hgrow (Lib.ownsRowF_kind (hown.alloc _))).setCell ⟨b, 1, none⟩ rfl _⟩
  · exact PAt.put hB hb2 (bs' := bs ++ [.int .u8 c]) (by simpa using hown')
  · exact ((hb1.alloc (by have := hb1.size; omega) _).grown hgrow (by have := hb1.size; simp; omega) (fun k hk => (hown.lt k hk).1)).setCell (p := ⟨b, 1, none⟩) hB _
end Go.Proofs.YtheknbfbneghgaaGreatDoor.Pp
set_option maxHeartbeats 2000000
set_option maxRecDepth 100000
namespace Go.Proofs.YtheknbfbneghgaaGreatDoor.Pp
open Go.RowKit
theorem pb_mixed : Tryz.prog.follows .mixedOrders = true := by kernel_rfl
theorem pb_cellsByte : Tryz.prog.cellsOf 5 = 1 := by kernel_rfl
theorem pb_us0 (q : Value) (w : World) : (Builtin.unsafeString_ #[81, 3] 9 #[.pointer none, .int .i64 0]).run Tryz.prog w = .ok (.string ⟨#[]⟩) w := by kernel_rfl
theorem pb_us1 (a : Addr) (w : World) : (Builtin.unsafeString_ #[81, 3] 9 #[.pointer (some a), .int .i64 0]).run Tryz.prog w = .ok (.string ⟨#[]⟩) w := by kernel_rfl
theorem string_some (B b : Nat) (d : Int) (l : List UInt8) (w : World) (h : PB B b d (Lib.byteCells l) w) (h0 : l ≠ []) :
    Calls Tryz.prog 15 #[.pointer (some ⟨b, 0, none⟩)] w fun e w' => e = .returned (.string ⟨l.toArray⟩) ∧ Below B w w' := by
  obtain ⟨p, hAt⟩ : ∃ p, PAt B b p d (Lib.byteCells l) w := by
    rcases h with h | h
    · exact ⟨_, h⟩
    · exact ⟨_, h⟩
  obtain ⟨hB, v, hbk, hown, hne⟩ := hAt
  have hl0 : l.length ≠ 0 := by simpa using h0
  rw [Lib.byteCells_length] at hown
  obtain ⟨g, cap, cur, fz, rfl, hbg, hg, hfz, hnc, hcm, hcs, htake⟩ : ∃ g cap cur fz, v = .slice (some ⟨g, 0, none⟩) l.length cap ∧ B ≤ g ∧ w.heap[g]? = some (.cells cur 5 fz) ∧ fz.2 ≤ l.length * 1 ∧ l.length ≤ cap ∧ cap ≤ maxLen ∧ cur.size = cap * 1 ∧ cur.toList.take (l.length * 1) = Lib.byteCells l := by
    rcases hown.2 with ⟨_, hz⟩ | ⟨g, cap, cur, fz, hv, r⟩
    · exact absurd hz hl0
    · exact ⟨g, cap, cur, fz, hv, r⟩
  have c1 : w.drew.cell? ⟨b, 1, none⟩ = some (.slice (some ⟨g, 0, none⟩) l.length cap) := by
    have : w.drew.heap[b]? = some (.cells #[p, .slice (some ⟨g, 0, none⟩) l.length cap, .int .i64 d] 50 (0, 0)) := hbk
    rw [Lib.cell_of_heap this]; rfl
  have hSD : (Builtin.unsafeSliceData_ #[46] 81 #[.slice (some ⟨g, 0, none⟩) l.length cap]).run Tryz.prog w.drew = .ok (.pointer (some ⟨g, 0, none⟩)) w.drew :=
    Lib.run_unsafeSliceData_row _ _ _ _ _ _ om
  have hUS : (Builtin.unsafeString_ #[81, 3] 9 #[.pointer (some ⟨g, 0, none⟩), .int .i64 l.length]).run Tryz.prog w.drew = .ok (.string ⟨l.toArray⟩) (w.drew.freeze ⟨g, 0, none⟩ l.length) := by
    refine Lib.run_unsafeString_row w.drew 81 3 9 5 Tryz.underlying81 pb_cellsByte g cur.size (by have hg' : w.drew.heap[g]? = some (.cells cur 5 fz) := hg; simp [World.shape?, hg']) l h0 om (by unfold maxLen at hcm; omega) ?_
    intro j x hx
    have := hown.cells (g := g) rfl j (.int .u8 x.toNat) (by simp [Lib.byteCells, hx])
    exact this
  have mixed := pb_mixed
  go_enter Tryz.func15, Tryz.ntmps15
  go_wp2
  go_region_o
  all_goals (go_wp2; go_ret; exact ⟨rfl, Lib.below_freeze (Below.drew (Below.refl B w)) (p := ⟨g, 0, none⟩) hbg _⟩)
theorem string_none (B b : Nat) (d : Int) (w : World) (h : PB B b d [] w) (hBw : B ≤ w.heap.size) :
    Calls Tryz.prog 15 #[.pointer (some ⟨b, 0, none⟩)] w fun e w' => e = .returned (.string ⟨#[]⟩) ∧ Below B w w' := by
  obtain ⟨p, hAt⟩ : ∃ p, PAt B b p d [] w := by
    rcases h with h | h
    · exact ⟨_, h⟩
    · exact ⟨_, h⟩
  have hlt := hAt.lt
  obtain ⟨hB, v, hbk, hown, hne⟩ := hAt
  have hU0 := pb_us0 .nilIface
  have hU1 := pb_us1
  rcases hown.2 with ⟨rfl, _⟩ | ⟨g, cap, cur, fz, rfl, hbg, hg, _, _, _, _, _⟩
  · have c1 : w.drew.cell? ⟨b, 1, none⟩ = some (.slice none 0 0) := by
      have : w.drew.heap[b]? = some (.cells #[p, .slice none 0 0, .int .i64 d] 50 (0, 0)) := hbk
      rw [Lib.cell_of_heap this]; rfl
    have hSD : (Builtin.unsafeSliceData_ #[46] 81 #[.slice none 0 0]).run Tryz.prog w.drew = .ok (.pointer none) w.drew := rfl
    have mixed := pb_mixed
    go_enter Tryz.func15, Tryz.ntmps15
    go_wp2
    go_region_o
    all_goals (go_wp2; go_ret; exact ⟨rfl, Below.drew (Below.refl B w)⟩)
  · by_cases hc0 : cap = 0
    · subst hc0
      have c1 : w.drew.cell? ⟨b, 1, none⟩ = some (.slice (some ⟨g, 0, none⟩) 0 0) := by
        have : w.drew.heap[b]? = some (.cells #[p, .slice (some ⟨g, 0, none⟩) 0 0, .int .i64 d] 50 (0, 0)) := hbk
        rw [Lib.cell_of_heap this]; rfl
      have hSD : (Builtin.unsafeSliceData_ #[46] 81 #[.slice (some ⟨g, 0, none⟩) 0 0]).run Tryz.prog w.drew = .ok (.pointer (some ⟨w.drew.heap.size, 0, none⟩)) (w.drew.alloc (.view ⟨g, 0, none⟩ 5)) :=
        Lib.run_unsafeSliceData_zero w.drew _ _ 5 Tryz.underlying81 ⟨g, 0, none⟩ 0 (5, cur.size) (by have hg' : w.drew.heap[g]? = some (.cells cur 5 fz) := hg; simp [World.shape?, hg'])
      have c2 : (w.drew.alloc (.view ⟨g, 0, none⟩ 5)).cell? ⟨b, 1, none⟩ = some (.slice (some ⟨g, 0, none⟩) 0 0) := by
        have : (w.drew.alloc (.view ⟨g, 0, none⟩ 5)).heap[b]? = _ := (Lib.alloc_old w.drew _ b hlt).trans hbk
        rw [Lib.cell_of_heap this]; rfl
      have c3 : (w.alloc (.view ⟨g, 0, none⟩ 5)).drew.cell? ⟨b, 1, none⟩ = some (.slice (some ⟨g, 0, none⟩) 0 0) := c2
      have c0 : w.cell? ⟨b, 1, none⟩ = some (.slice (some ⟨g, 0, none⟩) 0 0) := c1
      have mixed := pb_mixed
      go_enter Tryz.func15, Tryz.ntmps15
      go_wp2
      go_region_o
      all_goals (go_wp2; go_ret; exact ⟨rfl, (Below.drew (Below.refl B w)).alloc hBw _⟩)
    · have c1 : w.drew.cell? ⟨b, 1, none⟩ = some (.slice (some ⟨g, 0, none⟩) 0 cap) := by
        have : w.drew.heap[b]? = some (.cells #[p, .slice (some ⟨g, 0, none⟩) 0 cap, .int .i64 d] 50 (0, 0)) := hbk
        rw [Lib.cell_of_heap this]; rfl
      have hSD : (Builtin.unsafeSliceData_ #[46] 81 #[.slice (some ⟨g, 0, none⟩) 0 cap]).run Tryz.prog w.drew = .ok (.pointer (some ⟨g, 0, none⟩)) w.drew :=
        Lib.run_unsafeSliceData_row _ _ _ _ _ _ hc0
      clear hc0
      have mixed := pb_mixed
      go_enter Tryz.func15, Tryz.ntmps15
      go_wp2
      go_region_o
      all_goals (go_wp2; go_ret; exact ⟨rfl, Below.drew (Below.refl B w)⟩)
theorem string_any (B b : Nat) (d : Int) (l : List UInt8) (w : World) (h : PB B b d (Lib.byteCells l) w) (hBw : B ≤ w.heap.size) :
    Calls Tryz.prog 15 #[.pointer (some ⟨b, 0, none⟩)] w fun e w' => e = .returned (.string ⟨l.toArray⟩) ∧ Below B w w' := by
  cases l with
  | nil => exact string_none B b d w h hBw
  | cons x r => exact string_some B b d (x :: r) w h zK
end Go.Proofs.YtheknbfbneghgaaGreatDoor.Pp
set_option maxRecDepth 100000
namespace Go.Proofs.YtheknbfbneghgaaGreatDoor.Pp
open Go.RowKit Go.Proofs.YtheknbfbneghgaaGreatDoor.Lx Go.Proofs.YtheknbfbneghgaaGreatDoor.Px
def Wr (N b : Nat) (l x : List UInt8) (d : Int) (w w' : World) : Prop := PB N b d (Lib.byteCells (l ++ x)) w' ∧ Below N w w' ∧ Lib.OthersKept 5 (some b) w w'
theorem Wr.trans {N b : Nat} {l x y : List UInt8} {d : Int} {w w1 w2 : World} (h : Wr N b l x d w w1) (k : Wr N b (l ++ x) y d w1 w2) : Wr N b l (x ++ y) d w w2 :=
  ⟨by rw [← List.append_assoc]; exact k.1, h.2.1.trans k.2.1, h.2.2.trans k.2.2⟩
theorem Wr.nil {N b : Nat} {l : List UInt8} {d : Int} {w w' : World} (h : PB N b d (Lib.byteCells l) w') (k : Below N w w') (o : Lib.OthersKept 5 (some b) w w') : Wr N b l [] d w w' := ⟨by rw [List.append_nil]; exact h, k, o⟩
theorem Wr.pre {N b : Nat} {l x : List UInt8} {d : Int} {w w0 w1 : World} (h : Wr N b l x d w0 w1) (k : Below N w w0) (o : Lib.OthersKept 5 (some b) w w0) : Wr N b l x d w w1 := ⟨h.1, k.trans h.2.1, o.trans h.2.2⟩
theorem kept_quiet {b : Option Nat} {w w' : World} (h : w.grownBy w' none) : Lib.OthersKept 5 b w w' := (Lib.OthersKept.refl 5 b w).grown h (fun g e => by cases e)
theorem Wr.quiet {N b : Nat} {l x : List UInt8} {d : Int} {w w1 w2 : World} (h : Wr N b l x d w w1) (k : w1.grownBy w2 none) (hN : N ≤ w.heap.size) : Wr N b l x d w w2 :=
  ⟨h.1.grown k, h.2.1.grown k (by have := h.2.1.size; omega) (fun x e => by cases e), h.2.2.trans (kept_quiet k)⟩
theorem Wr.size {N b : Nat} {l x : List UInt8} {d : Int} {w w1 : World} (h : Wr N b l x d w w1) : w.heap.size ≤ w1.heap.size := h.2.1.size
theorem Wr.blk {N b g t : Nat} {l x : List UInt8} {d : Int} {w w1 : World} {cs : Array Value} (h : Wr N b l x d w w1) (hk : w.heap[g]? = some (.cells cs t)) (hb : g ≠ b) (ht : t ≠ 5) : w1.heap[g]? = some (.cells cs t) :=
  h.2.2 g _ hk (by simpa using hb) (fun c fz e => by simp at e; exact ht e.2.1)
theorem mk_toL3 (l : List UInt8) : (ByteArray.mk l.toArray).toList = l := ByteArray.toList_mk l
theorem ws (N b : Nat) (l : List UInt8) (s : List UInt8) (d : Int) (w : World) (h : PB N b d (Lib.byteCells l) w) (hl : l.length + s.length ≤ 1099511627776) (hN : N ≤ w.heap.size) :
    Calls Tryz.prog 36 #[.pointer (some ⟨b, 0, none⟩), .string ⟨s.toArray⟩] w fun e w' => (∃ v, e = .returned v) ∧ Wr N b l s d w w' := by
  have hz : (⟨s.toArray⟩ : ByteArray).size = s.length := by rw [← yx, mk_toL3]
  refine (writeS_k N b d (Lib.byteCells l) ⟨s.toArray⟩ w h (by rw [Lib.byteCells_length, hz]; omega) hN).mono ?_
  rintro e w' ⟨hv, h1, h2, h3⟩
  refine ⟨hv, .inr ?_, h2, h3⟩
  rw [Lib.byteCells_append]
  have : Lib.strCells ⟨s.toArray⟩ = Lib.byteCells s := by simp [Lib.strCells, Lib.byteCells]
  rw [← this]
  exact h1
theorem wb (N b : Nat) (l : List UInt8) (c : UInt8) (d : Int) (w : World) (h : PB N b d (Lib.byteCells l) w) (hl : l.length + 1 ≤ 1099511627776) (hN : N ≤ w.heap.size) :
    Calls Tryz.prog 26 #[.pointer (some ⟨b, 0, none⟩), .int .u8 (c.toNat : Int)] w fun e w' => (∃ v, e = .returned v) ∧ Wr N b l [c] d w w' := by
  refine (writeB_k N b d (Lib.byteCells l) (c.toNat : Int) w h (by rw [Lib.byteCells_length]; omega) hN).mono ?_
  rintro e w' ⟨hv, h1, h2, h3⟩
  refine ⟨hv, .inr ?_, h2, h3⟩
  rw [Lib.byteCells_append]
  exact h1
abbrev nA (kd : Int) (tx : List UInt8) (nm ps : Int) (ao : Option Addr) (n cp : Nat) : Value := .agg #[.int .i64 kd, .string ⟨tx.toArray⟩, .int .i64 nm, .int .i64 ps, .string ⟨#[]⟩, .int .i64 0, .slice ao n cp]
abbrev nO (kd : Int) (tx : List UInt8) (nm ps : Int) (ao : Option Addr) (n cp : Nat) : Obj := .cells #[.int .i64 kd, .string ⟨tx.toArray⟩, .int .i64 nm, .int .i64 ps, .string ⟨#[]⟩, .int .i64 0, .slice ao n cp] 25
theorem cells7 {X : World} {b t : Nat} {v0 v1 v2 v3 v4 v5 v6 : Value} (h : X.heap[b]? = some (.cells #[v0, v1, v2, v3, v4, v5, v6] t)) : X.cell? ⟨b, 0, none⟩ = some v0 ∧ X.cell? ⟨b, 1, none⟩ = some v1 ∧ X.cell? ⟨b, 2, none⟩ = some v2 ∧ X.cell? ⟨b, 3, none⟩ = some v3 ∧ X.cell? ⟨b, 4, none⟩ = some v4 ∧ X.cell? ⟨b, 5, none⟩ = some v5 ∧ X.cell? ⟨b, 6, none⟩ = some v6 := by
  refine ⟨?_, ?_, ?_, ?_, ?_, ?_, ?_⟩ <;> rw [World.cell?, h] <;> rfl
theorem kids_nil (w : World) : Jj.KidsAt w (.slice none 0 0) [] := ⟨[], ⟨rfl, .inl ⟨rfl, rfl⟩⟩, .nil _⟩
theorem grown_of {N : Nat} {W0 w : World} (hN : N = W0.heap.size) (h : Below N W0 w) : W0.grownBy w none := by subst hN; exact ⟨h.os, h.tape, h.output, h.size, fun k hk _ => h.block k hk⟩
theorem kids_few {w : World} {ao : Option Addr} {n cp : Nat} {l : List Tree} (h : Jj.KidsAt w (.slice ao n cp) l) (hn : n = l.length) : l.length ≤ maxLen := h.few
/-- part (63): a kid, or the zero node. -/
def PartP (W0 : World) (t : Tree) (v : Value) : Prop := ∃ kd tx nm ps ks ao cp, v = nA kd tx nm ps ao ks.length cp ∧ t = .mk kd tx nm ps ks ∧ Jj.KidsAt W0 (.slice ao ks.length cp) ks
end Go.Proofs.YtheknbfbneghgaaGreatDoor.Pp
set_option maxHeartbeats 1000000
set_option maxRecDepth 100000
namespace Go.Proofs.YtheknbfbneghgaaGreatDoor.Pp
open Go.RowKit Go.Proofs.YtheknbfbneghgaaGreatDoor.Lx Go.Proofs.YtheknbfbneghgaaGreatDoor.Px
theorem grown_a2 (w : World) (o o' : Obj) : w.grownBy ((w.alloc o).alloc o') none := zr (zr (zo _ _) _) _
theorem part_in (W0 w : World) (hB : W0.grownBy w none) (kd : Int) (tx : List UInt8) (nm ps : Int) (kids : List Tree) (ao : Option Addr) (cp i : Nat) (hk : Jj.KidsAt W0 (.slice ao kids.length cp) kids) (hi : i < kids.length) :
    Calls Tryz.prog 63 #[nA kd tx nm ps ao kids.length cp, .int .i64 (i : Int)] w fun e w' => (∃ v, e = .returned v ∧ PartP W0 (kids.getD i zeroT) v) ∧ w.grownBy w' none := by
  have hfew := hk.few
  unfold maxLen at hfew
  obtain ⟨kd2, tx2, nm2, ps2, ks2, ek⟩ : ∃ a b c d e, kids[i]? = some (Px.Tree.mk a b c d e) := by
    rw [List.getElem?_eq_getElem hi]; cases kids[i] with | mk a b c d e => exact ⟨a, b, c, d, e, rfl⟩
  obtain ⟨g, cap, ao2, cp2, e1, q1, q2, q3, Q, qc⟩ := hk.kid i _ _ _ _ _ ek
  simp only [Value.slice.injEq] at e1
  obtain ⟨rfl, _, rfl⟩ := e1
  unfold maxLen at q2
  have hz := hB.size
  have hcell : ∀ (X : World) (j : Nat), w.grownBy X none → j < 7 → X.cell? ⟨g, i * 7 + j, none⟩ = (nodeC kd2 tx2 nm2 ps2 (.slice ao2 ks2.length cp2))[j]? := fun X j hX hj => by
    rw [World.cell?_of_block (w := w) (a := ⟨g, i * 7 + j, none⟩) (hX.block g om zK), World.cell?_of_block (w := W0) (a := ⟨g, i * 7 + j, none⟩) (hB.block g q3 zK)]
    exact qc j hj
  have HQ := zm Q
  have HC := zm hcell
  have hg : kids.getD i zeroT = .mk kd2 tx2 nm2 ps2 ks2 := by rw [List.getD_eq_getElem?_getD, ek]; rfl
  rw [hg]
  have h0 : ¬ (i : Int) < 0 := om
  have h1 : ¬ (kids.length : Int) ≤ (i : Int) := om
  have hiz : (i : Int) < (kids.length : Int) := om
  have gq := grown_a2 w (nO kd tx nm ps (some ⟨g, 0, none⟩) kids.length cp) (.cells #[.int .i64 0, .string ⟨#[]⟩, .int .i64 0, .int .i64 0, .string ⟨#[]⟩, .int .i64 0, .slice none 0 0] 25)
  have a0 := hcell _ 0 gq om
  have a1 := hcell _ 1 gq om
  have a2 := hcell _ 2 gq om
  have a3 := hcell _ 3 gq om
  have a4 := hcell _ 4 gq om
  have a5 := hcell _ 5 gq om
  have a6 := hcell _ 6 gq om
  simp only [nodeC, List.getElem?_cons_zero, List.getElem?_cons_succ, Nat.add_zero, nO] at a0 a1 a2 a3 a4 a5 a6
  clear hk hB qc Q hcell hg ek gq
  go_enter Tryz.func63, Tryz.ntmps63
  go_wp2
  refine bodyPost_ret (v := nA kd2 tx2 nm2 ps2 ao2 ks2.length cp2) (by simp [results, Tryz.results63, go_sem, *]) rfl ⟨⟨_, rfl, ?_⟩, ?_⟩
  · exact ⟨_, _, _, _, _, _, _, rfl, rfl, zk HQ⟩
  · repeat (first | exact zo _ _ | refine zz ?_ | refine zr ?_ _ | refine yF ?_ _ zV)
theorem part_out (W0 w : World) (kd : Int) (tx : List UInt8) (nm ps : Int) (n : Nat) (ao : Option Addr) (cp : Nat) (i : Int) (hi : i < 0 ∨ (n : Int) ≤ i) :
    Calls Tryz.prog 63 #[nA kd tx nm ps ao n cp, .int .i64 i] w fun e w' => (∃ v, e = .returned v ∧ PartP W0 zeroT v) ∧ w.grownBy w' none := by
  have fin : PartP W0 zeroT (nA 0 [] 0 0 none 0 0) := ⟨0, [], 0, 0, [], none, 0, rfl, rfl, kids_nil W0⟩
  have HF := zm fin
  clear fin
  by_cases h0 : i < 0
  · clear hi
    go_enter Tryz.func63, Tryz.ntmps63
    go_wp2
    refine bodyPost_ret (v := nA 0 [] 0 0 none 0 0) (by simp [results, Tryz.results63, go_sem, *]) rfl ⟨⟨_, rfl, zk HF⟩, ?_⟩
    repeat (first | exact zo _ _ | refine zz ?_ | refine zr ?_ _ | refine yF ?_ _ zV)
  · have h1 : (n : Int) ≤ i := om
    clear hi
    go_enter Tryz.func63, Tryz.ntmps63
    go_wp2
    refine bodyPost_ret (v := nA 0 [] 0 0 none 0 0) (by simp [results, Tryz.results63, go_sem, *]) rfl ⟨⟨_, rfl, zk HF⟩, ?_⟩
    repeat (first | exact zo _ _ | refine zz ?_ | refine zr ?_ _ | refine yF ?_ _ zV)
theorem part_any (W0 w : World) (hB : W0.grownBy w none) (kd : Int) (tx : List UInt8) (nm ps : Int) (kids : List Tree) (ao : Option Addr) (cp i : Nat) (hk : Jj.KidsAt W0 (.slice ao kids.length cp) kids) :
    Calls Tryz.prog 63 #[nA kd tx nm ps ao kids.length cp, .int .i64 (i : Int)] w fun e w' => (∃ v, e = .returned v ∧ PartP W0 (kids.getD i zeroT) v) ∧ w.grownBy w' none := by
  by_cases hi : i < kids.length
  · exact part_in W0 w hB kd tx nm ps kids ao cp i hk hi
  · have := part_out W0 w kd tx nm ps kids.length ao cp i (.inr om)
    rw [List.getD_eq_getElem?_getD, List.getElem?_eq_none om]
    exact this
theorem isNone_any (w : World) (kd : Int) (tx : List UInt8) (nm ps : Int) (n : Nat) (ao : Option Addr) (cp : Nat) :
    Calls Tryz.prog 87 #[nA kd tx nm ps ao n cp] w fun e w' => e = .returned (.bool (kd == 8)) ∧ w.grownBy w' none := by
  go_enter Tryz.func87, Tryz.ntmps87
  go_wp2
  go_ret
  exact ⟨rfl, zr (zo _ _) _⟩
theorem last_any (W0 w : World) (hB : W0.grownBy w none) (kd : Int) (tx : List UInt8) (nm ps : Int) (kids : List Tree) (ao : Option Addr) (cp : Nat) (hk : Jj.KidsAt W0 (.slice ao kids.length cp) kids) :
    Calls Tryz.prog 85 #[nA kd tx nm ps ao kids.length cp] w fun e w' => (∃ v, e = .returned v ∧ PartP W0 (kids.getD (kids.length - 1) zeroT) v) ∧ w.grownBy w' none := by
  have hfew := hk.few
  unfold maxLen at hfew
  have HP : Hid (∀ X, w.grownBy X none → Calls Tryz.prog 63 #[nA kd tx nm ps ao kids.length cp, .int .i64 ((kids.length : Int) - 1)] X fun e w' => (∃ v, e = .returned v ∧ PartP W0 (kids.getD (kids.length - 1) zeroT) v) ∧ X.grownBy w' none) := zm fun X hX => by
    by_cases h0 : kids.length = 0
    · have := part_out W0 X kd tx nm ps kids.length ao cp ((kids.length : Int) - 1) (.inl om)
      rw [List.getD_eq_getElem?_getD, List.getElem?_eq_none om]
      exact this
    · have := part_any W0 X (zl hB hX) kd tx nm ps kids ao cp (kids.length - 1) hk
      rwa [show ((kids.length - 1 : Nat) : Int) = (kids.length : Int) - 1 by omega] at this
  obtain ⟨T, hT⟩ : ∃ T, T = kids.getD (kids.length - 1) zeroT := ⟨_, rfl⟩
  rw [← hT] at HP ⊢
  clear hk hB hT
  go_enter Tryz.func85, Tryz.ntmps85
  go_wp2_with fail
  with_reducible refine (zk HP _ (by with_reducible repeat (first | exact zo _ _ | refine zr ?_ _))).mono ?_
  rintro e w2 ⟨⟨v, rfl, kd2, tx2, nm2, ps2, ks2, ao2, cp2, rfl, h3, h4⟩, hg⟩
  have HV := zm h3
  have HV4 := zm h4
  have bl : BL w2 (w.heap.size + 1) (.cells #[.int .i64 0, .string ⟨#[]⟩, .int .i64 0, .int .i64 0, .string ⟨#[]⟩, .int .i64 0, .slice none 0 0] 25) := (hg.block (w.heap.size + 1) zK zK).trans (yW _ _ zK)
  have zc := bl.cell
  have fz := bl.frozen
  have HG := zm hg
  clear h3 h4 hg
  go_wp2
  refine bodyPost_ret (v := nA kd2 tx2 nm2 ps2 ao2 ks2.length cp2) (by simp [results, Tryz.results85, go_sem, *]) rfl ⟨⟨_, rfl, _, _, _, _, _, _, _, rfl, zk HV, zk HV4⟩, ?_⟩
  have := zl (grown_a2 w _ _) (zk HG)
  with_reducible repeat (first | exact this | refine zz ?_ | refine zr ?_ _ | refine yF ?_ _ zV)
theorem unknown_any (N b : Nat) (l : List UInt8) (d : Int) (w : World) (h : PB N b d (Lib.byteCells l) w) (hl : l.length + 1 ≤ 1099511627776) (hN : N ≤ w.heap.size) :
    Calls Tryz.prog 24 #[.pointer (some ⟨b, 0, none⟩)] w fun e w' => e = .returned (.tuple #[]) ∧ Wr N b l [63] d w w' := by
  have H := zm (wb N b l 63 d w h hl hN)
  clear h
  go_enter Tryz.func24, Tryz.ntmps24
  go_wp2_with (go_at_call 26; refine (zk H).mono ?_; rintro e w2 ⟨⟨v, rfl⟩, h2⟩; have H2 := zm h2; clear h2)
  go_end0
  exact ⟨rfl, zk H2⟩
end Go.Proofs.YtheknbfbneghgaaGreatDoor.Pp
set_option maxHeartbeats 1000000
set_option maxRecDepth 100000
namespace Go.Proofs.YtheknbfbneghgaaGreatDoor.Pp
open Go.RowKit Go.Proofs.YtheknbfbneghgaaGreatDoor.Lx Go.Proofs.YtheknbfbneghgaaGreatDoor.Px
/-- A row of nodes that a slice tells, from wherever it begins. -/
def KC (W0 : World) (a : Option Addr) (l : List Tree) : Prop := ∀ (j : Nat) (kd : Int) (tx : List UInt8) (nm ps : Int) (ks : List Tree), l[j]? = some (.mk kd tx nm ps ks) → ∃ b off ao2 cp2, a = some ⟨b, off, none⟩ ∧ b < W0.heap.size ∧ Jj.KidsAt W0 (.slice ao2 ks.length cp2) ks ∧ ∀ i, i < 7 → W0.cell? ⟨b, off + (j * 7 + i), none⟩ = (nodeC kd tx nm ps (.slice ao2 ks.length cp2))[i]?
theorem KC.of {W0 : World} {ao : Option Addr} {cp : Nat} {kids : List Tree} (h : Jj.KidsAt W0 (.slice ao kids.length cp) kids) : KC W0 ao kids := by
  intro j kd tx nm ps ks e
  obtain ⟨g, cap, ao2, cp2, e1, _, _, q3, Q, qc⟩ := h.kid j _ _ _ _ _ e
  simp only [Value.slice.injEq] at e1
  refine ⟨g, 0, ao2, cp2, e1.1, q3, Q, fun i hi => ?_⟩
  rw [Nat.zero_add]
  exact qc i hi
theorem KC.take {W0 : World} {ao : Option Addr} {l : List Tree} (h : KC W0 ao l) (m : Nat) : KC W0 ao (l.take m) := by
  intro j kd tx nm ps ks e
  rw [List.getElem?_take] at e
  split at e
  · exact h j _ _ _ _ _ e
  · cases e
theorem KC.drop {W0 : World} {ao : Option Addr} {l : List Tree} (h : KC W0 ao l) (m : Nat) : KC W0 (ao.map fun x => x.add (m * 7)) (l.drop m) := by
  intro j kd tx nm ps ks e
  rw [List.getElem?_drop] at e
  obtain ⟨b, off, ao2, cp2, rfl, q3, Q, qc⟩ := h (m + j) _ _ _ _ _ e
  refine ⟨b, off + m * 7, ao2, cp2, by simp [Go.WideShapes.add_plain], q3, Q, fun i hi => ?_⟩
  have := qc i hi
  rwa [show off + ((m + j) * 7 + i) = off + m * 7 + (j * 7 + i) by omega] at this
theorem KC.nil (W0 : World) (a : Option Addr) : KC W0 a [] := fun j kd tx nm ps ks e => by simp at e
theorem until_any (W0 w : World) (kd : Int) (tx : List UInt8) (nm ps : Int) (kids : List Tree) (ao : Option Addr) (cp : Nat) (hk : Jj.KidsAt W0 (.slice ao kids.length cp) kids) (hcp : kids.length ≤ cp) :
    Calls Tryz.prog 84 #[nA kd tx nm ps ao kids.length cp] w fun e w' => (∃ a c, e = .returned (.slice a (kids.take (kids.length - 1)).length c) ∧ KC W0 a (kids.take (kids.length - 1)) ∧ (kids.take (kids.length - 1)).length ≤ maxLen) ∧ w.grownBy w' none := by
  have hfew := hk.few
  have hl : (kids.take (kids.length - 1)).length = kids.length - 1 := by rw [List.length_take]; omega
  rw [hl]
  have HK := zm ((KC.of hk).take (kids.length - 1))
  obtain ⟨K, hK⟩ : ∃ K, K = kids.take (kids.length - 1) := ⟨_, rfl⟩
  rw [← hK] at HK ⊢
  have hfew2 : kids.length - 1 ≤ maxLen := om
  have HF := zm hfew2
  unfold maxLen at hfew
  have hm : max ((kids.length : Int) - 1) 0 = ((kids.length - 1 : Nat) : Int) := om
  have hL : kids.length - 1 ≤ kids.length := om
  generalize hLe : kids.length - 1 = L at hm hL HF ⊢
  clear hLe hk hK hl hfew2
  go_enter Tryz.func84, Tryz.ntmps84
  go_wp2
  go_ret
  exact ⟨⟨_, _, rfl, zk HK, zk HF⟩, zr (zo _ _) _⟩
theorem from_any (W0 w : World) (kd : Int) (tx : List UInt8) (nm ps : Int) (kids : List Tree) (ao : Option Addr) (cp : Nat) (hk : Jj.KidsAt W0 (.slice ao kids.length cp) kids) (hcp : kids.length ≤ cp) :
    Calls Tryz.prog 107 #[nA kd tx nm ps ao kids.length cp, .int .i64 1] w fun e w' => (∃ a c, e = .returned (.slice a (kids.drop 1).length c) ∧ KC W0 a (kids.drop 1) ∧ (kids.drop 1).length ≤ maxLen) ∧ w.grownBy w' none := by
  have hfew := hk.few
  have hl : (kids.drop 1).length = kids.length - 1 := by rw [List.length_drop]
  rw [hl]
  obtain ⟨K, hK⟩ : ∃ K, K = kids.drop 1 := ⟨_, rfl⟩
  have hfew2 : kids.length - 1 ≤ maxLen := om
  have HF := zm hfew2
  unfold maxLen at hfew
  by_cases h0 : kids.length = 0
  · have HK : Hid (∀ a, KC W0 a K) := zm fun a => by rw [hK, List.drop_eq_nil_of_le om]; exact KC.nil W0 a
    rw [← hK]
    rw [h0] at HF ⊢
    have hm : min (1 : Int) 0 = 0 := om
    clear hk hK hl hfew2 hfew
    go_enter Tryz.func107, Tryz.ntmps107
    go_wp2
    go_ret
    exact ⟨⟨_, _, rfl, zk HK _, zk HF⟩, zr (zo _ _) _⟩
  · have hm : min (1 : Int) (kids.length : Int) = 1 := om
    have h1 : (1 : Int) ≤ (kids.length : Int) := om
    by_cases hc : cp = 1
    · have HK : Hid (∀ a, KC W0 a K) := zm fun a => by rw [hK, List.drop_eq_nil_of_le om]; exact KC.nil W0 a
      rw [← hK]
      have hk1 : kids.length = 1 := om
      clear hk hK hl hfew2
      subst hc
      rw [hk1] at HF hm ⊢
      clear hk1 h0 hcp hfew h1
      go_enter Tryz.func107, Tryz.ntmps107
      go_wp2
      go_ret
      exact ⟨⟨_, _, rfl, zk HK _, zk HF⟩, zr (zo _ _) _⟩
    · have HK : Hid (KC W0 (ao.map fun x => ⟨x.block, x.off + 7, none⟩) K) := zm (by
        rw [hK]
        have h3 := (KC.of hk).drop 1
        intro j kd tx nm ps ks e
        obtain ⟨b, off, ao2, cp2, e1, r⟩ := h3 j _ _ _ _ _ e
        refine ⟨b, off, ao2, cp2, ?_, r⟩
        cases ao with
        | none => simp at e1
        | some x =>
          obtain ⟨xb, xo, xs⟩ := x
          cases xs <;> simp [Addr.add] at e1 ⊢ <;> exact e1)
      rw [← hK]
      clear hk hK hl hfew2
      go_enter Tryz.func107, Tryz.ntmps107
      go_wp2
      go_ret
      exact ⟨⟨_, _, rfl, zk HK, zk HF⟩, zr (zo _ _) _⟩
theorem tabs_any (N b : Nat) (l : List UInt8) (d : Nat) (w : World) (h : PB N b d (Lib.byteCells l) w) (hl : l.length + d ≤ 1099511627776) (hN : N ≤ w.heap.size) :
    Calls Tryz.prog 61 #[.pointer (some ⟨b, 0, none⟩)] w fun e w' => e = .returned (.tuple #[]) ∧ Wr N b l (tabsT d) d w w' := by
  have c2 := h.cell2
  have HB := zm h
  clear h
  go_enter Tryz.func61, Tryz.ntmps61
  go_wp2
  go_loopw [6] (fun i wr => ∃ (j : Nat), j ≤ d ∧ i = .int .i64 j ∧ Hid (Wr N b l (tabsT j) d w wr)) (fun i _ => d - (intOf i).toNat)
  case atStart => exact ⟨0, Nat.zero_le _, rfl, zm (Wr.nil (zk HB) (Below.refl _ _) (Lib.OthersKept.refl _ _ _))⟩
  case round =>
    obtain ⟨j, hj, rfl, hW⟩ := hrel
    by_cases hlt : j < d
    · have hji : (j : Int) < (d : Int) := om
      have H := zm (wb N b (l ++ tabsT j) 9 d wr (zk hW).1 (by simp [tabsT]; omega) (by have := (zk hW).size; omega))
      go_wp2_with fail
      refine (zk H).mono ?_
      rintro e w2 ⟨⟨v, rfl⟩, h2⟩
      have H2 := zm ((zk hW).trans h2)
      clear h2
      go_wp2
      go_roundw
      case rel => exact ⟨j + 1, om, by go_num, zm (by have := zk H2; rwa [show tabsT j ++ [9] = tabsT (j + 1) by simp [tabsT, List.replicate_succ']] at this)⟩
      case measure => simp [intOf]; omega
    · obtain rfl : j = d := om
      have hji : ¬ (j : Int) < (j : Int) := om
      go_wp2
      go_end0
      exact ⟨rfl, zk hW⟩
end Go.Proofs.YtheknbfbneghgaaGreatDoor.Pp
set_option maxHeartbeats 2000000
set_option maxRecDepth 100000
namespace Go.Proofs.YtheknbfbneghgaaGreatDoor.Pp
open Go.RowKit Go.Proofs.YtheknbfbneghgaaGreatDoor.Lx Go.Proofs.YtheknbfbneghgaaGreatDoor.Px
abbrev FV (F b : Nat) : Value := .func (.func F) #[.pointer (some ⟨b, 0, none⟩)] #[]
abbrev Ent (F : Nat) : Prop := ∀ args w, (callFunc F args).run Tryz.prog w = .ok (.enter F args) w
def IW (W0 : World) (N b F : Nat) (f : Tree → List UInt8) (d : Nat) (l : List Tree) : Prop := ∀ (kd : Int) (tx : List UInt8) (nm ps : Int) (ks : List Tree) (ao : Option Addr) (cp : Nat) (bs : List UInt8) (w : World), Tree.mk kd tx nm ps ks ∈ l → Jj.KidsAt W0 (.slice ao ks.length cp) ks → Below N W0 w → PB N b d (Lib.byteCells bs) w → bs.length + (f (.mk kd tx nm ps ks)).length ≤ 1099511627776 →
  Calls Tryz.prog F #[.pointer (some ⟨b, 0, none⟩), nA kd tx nm ps ao ks.length cp] w fun e w' => e = .returned (.tuple #[]) ∧ Wr N b bs (f (.mk kd tx nm ps ks)) d w w'
theorem sepJ_snoc (xs : List (List UInt8)) (y : List UInt8) : sepJ (xs ++ [y]) = if xs = [] then y else sepJ xs ++ [44, 32] ++ y := by
  cases xs with
  | nil => simp [sepJ]
  | cons x r => simp [sepJ]
theorem sepJ_le (xs ys : List (List UInt8)) : (sepJ xs).length ≤ (sepJ (xs ++ ys)).length := by
  cases xs with
  | nil => simp [sepJ]
  | cons x r => simp only [sepJ, List.cons_append, List.flatMap_append, List.length_append]; omega
theorem take_succ_map {f : Tree → List UInt8} {l : List Tree} {j : Nat} {t : Tree} (h : l[j]? = some t) : (l.take (j + 1)).map f = (l.take j).map f ++ [f t] := by
  rw [List.take_add_one, h]; simp
theorem take_le {f : Tree → List UInt8} (l : List Tree) (j : Nat) : (sepJ ((l.take j).map f)).length ≤ (sepJ (l.map f)).length := by
  have := sepJ_le ((l.take j).map f) ((l.drop j).map f)
  rwa [← List.map_append, List.take_append_drop] at this
theorem list_any (W0 : World) (N b F : Nat) (hN : N = W0.heap.size) (f : Tree → List UInt8) (d : Nat) (l : List Tree) (a : Option Addr) (c : Nat) (bs : List UInt8) (w : World) (hF : Ent F) (hI : IW W0 N b F f d l) (hk : KC W0 a l) (hm : l.length ≤ maxLen) (hB : Below N W0 w) (hp : PB N b d (Lib.byteCells bs) w) (hl : bs.length + (sepJ (l.map f)).length ≤ 1099511627776) :
    Calls Tryz.prog 83 #[.pointer (some ⟨b, 0, none⟩), .slice a l.length c, FV F b] w fun e w' => e = .returned (.tuple #[]) ∧ Wr N b bs (sepJ (l.map f)) d w w' := by
  unfold maxLen at hm
  have hNw : N ≤ w.heap.size := by rw [hN]; exact hB.size
  have HNN := zm hN
  have hbw := hp.lt
  have HP := zm hp
  have HI := zm hI
  have HK := zm hk
  have HB := zm hB
  have HL := zm hl
  obtain ⟨T, hT⟩ : ∃ T, T = sepJ (l.map f) := ⟨_, rfl⟩
  rw [← hT]
  have HT := zm hT
  obtain ⟨n, hn⟩ : ∃ n, n = l.length := ⟨_, rfl⟩
  have HN : Hid (l.length = n) := zm hn.symm
  rw [← hn] at hm ⊢
  clear hp hI hk hB hl hT hn hN
  go_enter Tryz.func83, Tryz.ntmps83
  go_wp2
  go_loopw [10] (fun i wr => ∃ (j : Nat), j ≤ n ∧ i = .int .i64 j ∧ Hid (Wr N b bs (sepJ ((l.take j).map f)) d w wr)) (fun i _ => n - (intOf i).toNat)
  case atStart => exact ⟨0, Nat.zero_le _, rfl, zm (Wr.nil (zk HP) (Below.refl _ _) (Lib.OthersKept.refl _ _ _))⟩
  case round =>
    obtain ⟨j, hj, rfl, hW⟩ := hrel
    have hws := (zk hW).size
    by_cases hlt : j < n
    · have hji : (j : Int) < (n : Int) := om
      have hjL : j < l.length := by have := zk HN; omega
      obtain ⟨kd, tx, nm, ps, ks, ek⟩ : ∃ a b c d e, l[j]? = some (Px.Tree.mk a b c d e) := by
        rw [List.getElem?_eq_getElem hjL]; cases l[j] with | mk a b c d e => exact ⟨a, b, c, d, e, rfl⟩
      obtain ⟨g, off, ao2, cp2, rfl, q3, Q, qc⟩ := zk HK j _ _ _ _ _ ek
      have hcell : ∀ i, i < 7 → wr.cell? ⟨g, off + j * 7 + i, none⟩ = (nodeC kd tx nm ps (.slice ao2 ks.length cp2))[i]? := fun i hi => by
        rw [Nat.add_assoc]
        have hb := (zk HB).trans (zk hW).2.1
        rw [World.cell?_of_block (w := W0) (a := ⟨g, off + (j * 7 + i), none⟩) (hb.block g (by rw [zk HNN]; exact q3))]
        exact qc i hi
      have a0 := hcell 0 om
      have a1 := hcell 1 om
      have a2 := hcell 2 om
      have a3 := hcell 3 om
      have a4 := hcell 4 om
      have a5 := hcell 5 om
      have a6 := hcell 6 om
      simp only [nodeC, List.getElem?_cons_zero, List.getElem?_cons_succ, Nat.add_zero] at a0 a1 a2 a3 a4 a5 a6
      have HE := zm ek
      have HQ := zm Q
      have hmem : Tree.mk kd tx nm ps ks ∈ l := List.mem_of_getElem? ek
      have HM := zm hmem
      have hts := take_succ_map (f := f) ek
      have hle := take_le (f := f) l (j + 1)
      rw [hts, sepJ_snoc] at hle
      have HTS := zm hts
      have hA : Wr N b bs (sepJ ((l.take j).map f)) d w (wr.alloc (nO kd tx nm ps ao2 ks.length cp2)) := (zk hW).quiet (zr (zo _ _) _) hNw
      have hgA : (wr.alloc (nO kd tx nm ps ao2 ks.length cp2)).heap[wr.heap.size]? = some (nO kd tx nm ps ao2 ks.length cp2) := yW _ _ rfl
      have HA := zm hA
      have HGA := zm hgA
      have hne : wr.heap.size ≠ b := om
      by_cases h0 : j = 0
      · subst h0
        have hj0 : ¬ (0 : Int) < ((0 : Nat) : Int) := om
        simp only [Nat.zero_mul, Nat.add_zero] at a0 a1 a2 a3 a4 a5 a6
        simp only [List.take_zero, List.map_nil, if_true] at hle
        have HX := zm (zk HI kd tx nm ps ks ao2 cp2 (bs ++ sepJ ((l.take 0).map f)) _ hmem Q ((zk HB).trans hA.2.1) hA.1 (by have h2 := zk HL; simp [sepJ] ; omega))
        clear ek Q qc hcell hjL hle hts hA hmem
        obtain ⟨ft, hft⟩ : ∃ ft, ft = f (.mk kd tx nm ps ks) := ⟨_, rfl⟩
        rw [← hft] at HX HTS
        clear hft hgA
        go_wp2_with fail
        with_reducible refine (zk HX).mono ?_
        rintro e w3 ⟨rfl, h3⟩
        have H3 := zm ((zk HA).trans h3)
        clear h3
        go_wp2
        go_roundw
        case rel => exact ⟨1, om, by go_num, zm (by have := zk H3; rw [zk HTS]; simpa [sepJ] using this)⟩
        case measure => simp [intOf]; omega
      · have hj0 : (0 : Int) < (j : Int) := om
        have hnn : ¬ (l.take j).map f = [] := by simp; exact ⟨h0, fun e => by rw [e] at hjL; simp at hjL⟩
        rw [if_neg hnn] at hle
        have HS := zm (ws N b (bs ++ sepJ ((l.take j).map f)) [44, 32] d _ hA.1 (by have h2 := zk HL; simp only [List.length_append] at hle ⊢; omega) (by have := hA.size; omega))
        have HI2 := zm (fun wx h1 h2 => zk HI kd tx nm ps ks ao2 cp2 (bs ++ (sepJ ((l.take j).map f) ++ [44, 32])) wx hmem Q h1 h2 (by have h2 := zk HL; simp only [List.length_append] at hle ⊢; omega))
        have HSN : Hid (sepJ ((l.take (j + 1)).map f) = sepJ ((l.take j).map f) ++ [44, 32] ++ f (.mk kd tx nm ps ks)) := zm (by rw [hts, sepJ_snoc, if_neg hnn])
        clear ek Q qc hcell hjL hle hts hA hmem hnn
        obtain ⟨ft, hft⟩ : ∃ ft, ft = f (.mk kd tx nm ps ks) := ⟨_, rfl⟩
        rw [← hft] at HI2 HSN
        clear hft hgA HTS
        go_wp2_with fail
        with_reducible refine (zk HS).mono ?_
        rintro e w2 ⟨⟨v, rfl⟩, h2⟩
        have hb2 := h2.blk (zk HGA) hne dc
        obtain ⟨c0, c1, c2, c3, c4, c5, c6⟩ := cells7 hb2
        have H2 := zm ((zk HA).trans h2)
        have HX := zm (zk HI2 w2 ((zk HB).trans (zk H2).2.1) (zk H2).1)
        clear h2 hb2
        go_wp2_with fail
        with_reducible refine (zk HX).mono ?_
        rintro e w3 ⟨rfl, h3⟩
        have H3 := zm ((zk H2).trans h3)
        clear h3
        go_wp2
        go_roundw
        case rel => exact ⟨j + 1, om, by go_num, zm (by have := zk H3; rwa [← zk HSN] at this)⟩
        case measure => simp [intOf]; omega
    · obtain rfl : j = n := om
      have hji : ¬ (j : Int) < (j : Int) := om
      go_wp2
      go_end0
      refine ⟨rfl, ?_⟩
      have := zk hW
      rw [List.take_of_length_le (by have := zk HN; omega)] at this
      rw [zk HT]
      exact this
end Go.Proofs.YtheknbfbneghgaaGreatDoor.Pp
set_option maxHeartbeats 2000000
set_option maxRecDepth 100000
namespace Go.Proofs.YtheknbfbneghgaaGreatDoor.Pp
open Go.RowKit Go.Proofs.YtheknbfbneghgaaGreatDoor.Lx Go.Proofs.YtheknbfbneghgaaGreatDoor.Px
/-- What writes y of one node, wherever the builder stands. -/
def J1 (W0 : World) (N b F : Nat) (y : List UInt8) (d : Nat) (nv : Value) : Prop := ∀ (bs : List UInt8) (w : World), Below N W0 w → PB N b d (Lib.byteCells bs) w → bs.length + y.length ≤ 1099511627776 →
  Calls Tryz.prog F #[.pointer (some ⟨b, 0, none⟩), nv] w fun e w' => e = .returned (.tuple #[]) ∧ Wr N b bs y d w w'
theorem wbk (N b : Nat) (l : List UInt8) (c : UInt8) (k : Int) (hk : (c.toNat : Int) = k) (d : Int) (w : World) (h : PB N b d (Lib.byteCells l) w) (hl : l.length + 1 ≤ 1099511627776) (hN : N ≤ w.heap.size) :
    Calls Tryz.prog 26 #[.pointer (some ⟨b, 0, none⟩), .int .u8 k] w fun e w' => (∃ v, e = .returned v) ∧ Wr N b l [c] d w w' := by subst hk; exact wb N b l c d w h hl hN
theorem unl_any (W0 : World) (N b F : Nat) (hN : N = W0.heap.size) (y ah : List UInt8) (d : Nat) (kd : Int) (tx : List UInt8) (nm ps : Int) (n : Nat) (ao : Option Addr) (cp : Nat) (bs : List UInt8) (w : World) (hF : Ent F) (hI : kd ≠ 8 → J1 W0 N b F y d (nA kd tx nm ps ao n cp)) (hB : Below N W0 w) (hp : PB N b d (Lib.byteCells bs) w) (hl : bs.length + (if kd = 8 then [] else ah ++ y : List UInt8).length ≤ 1099511627776) :
    Calls Tryz.prog 65 #[.pointer (some ⟨b, 0, none⟩), .string ⟨ah.toArray⟩, nA kd tx nm ps ao n cp, FV F b] w fun e w' => e = .returned (.tuple #[]) ∧ Wr N b bs (if kd = 8 then [] else ah ++ y) d w w' := by
  have hNw : N ≤ w.heap.size := by rw [hN]; exact hB.size
  have hbw := hp.lt
  have hA : Wr N b bs [] d w (w.alloc (nO kd tx nm ps ao n cp)) := (Wr.nil hp (Below.refl _ _) (Lib.OthersKept.refl _ _ _)).quiet (zr (zo _ _) _) hNw
  have hgA : (w.alloc (nO kd tx nm ps ao n cp)).heap[w.heap.size]? = some (nO kd tx nm ps ao n cp) := yW _ _ rfl
  have hne : w.heap.size ≠ b := om
  have HA := zm hA
  have HGA := zm hgA
  have HB := zm hB
  have HNO := zm fun X => isNone_any X kd tx nm ps n ao cp
  clear hp hB hA hgA
  by_cases h8 : kd = 8
  · simp only [h8, if_true] at hl ⊢
    subst h8
    clear hI
    go_enter Tryz.func65, Tryz.ntmps65
    go_wp2_with fail
    with_reducible refine (zk HNO _).mono ?_
    rintro e w2 ⟨rfl, hg⟩
    have H2 := zm ((zk HA).quiet hg hNw)
    clear hg
    go_wp2
    ((try simp only [Exit.inBlock, Exit.then]); refine bodyPost_ret (results_none rfl _ _ _) rfl ?_)
    exact ⟨rfl, zk H2⟩
  · simp only [h8, if_false] at hl ⊢
    have h8b : (kd == 8) = false := by simpa using h8
    have HI := zm (hI h8)
    have HL := zm hl
    clear hI hl
    go_enter Tryz.func65, Tryz.ntmps65
    go_wp2_with fail
    with_reducible refine (zk HNO _).mono ?_
    rintro e w2 ⟨rfl, hg⟩
    have h2 := (zk HA).quiet hg hNw
    have HS := zm (ws N b (bs ++ []) ah d _ h2.1 (by have h2 := zk HL; simp only [List.length_append, List.length_nil] at h2 ⊢; omega) (by have := h2.size; omega))
    have hb2 : w2.heap[w.heap.size]? = some (nO kd tx nm ps ao n cp) := (hg.block _ zK zK).trans (zk HGA)
    have HG2 := zm hb2
    have H2 := zm h2
    clear hg h2 hb2
    go_wp2_with fail
    with_reducible refine (zk HS).mono ?_
    rintro e w3 ⟨⟨v, rfl⟩, h3⟩
    have hb3 := h3.blk (zk HG2) hne dc
    obtain ⟨c0, c1, c2, c3, c4, c5, c6⟩ := cells7 hb3
    have H3 := zm ((zk H2).trans h3)
    have HX := zm (zk HI _ w3 ((zk HB).trans (zk H3).2.1) (zk H3).1 (by have h2 := zk HL; simp only [List.length_append, List.length_nil] at h2 ⊢; omega))
    clear h3 hb3
    go_wp2_with fail
    with_reducible refine (zk HX).mono ?_
    rintro e w4 ⟨rfl, h4⟩
    have H4 := zm ((zk H3).trans h4)
    clear h4
    go_wp2
    go_end0
    exact ⟨rfl, by simpa using zk H4⟩
theorem Wr.deep {N b : Nat} {l x : List UInt8} {d : Int} {w w1 : World} (h : Wr N b l x d w w1) (d' : Int) (hN : N ≤ w.heap.size) : Wr N b l x d' w (w1.setCell ⟨b, 2, none⟩ (.int .i64 d')) := by
  have k : w1.grownBy (w1.setCell ⟨b, 2, none⟩ (.int .i64 d')) (some b) := yF (zo _ _) _ (by right; rfl)
  have hb := h.1.ge
  exact ⟨h.1.deep d', h.2.1.grown k (by have := h.2.1.size; omega) (fun x e => by cases e; exact hb), h.2.2.setCell _ rfl _⟩
theorem flat_take {f : Tree → List UInt8} {l : List Tree} {j : Nat} {t : Tree} (h : l[j]? = some t) : (l.take (j + 1)).flatMap f = (l.take j).flatMap f ++ f t := by
  rw [List.take_add_one, h]; simp
theorem flat_le {f : Tree → List UInt8} (l : List Tree) (j : Nat) : ((l.take j).flatMap f).length ≤ (l.flatMap f).length := by
  have h : (l.take j ++ l.drop j).flatMap f = l.flatMap f := by rw [List.take_append_drop]
  rw [← h, List.flatMap_append, List.length_append]; omega
theorem lines_any (W0 : World) (N b F : Nat) (hN : N = W0.heap.size) (f : Tree → List UInt8) (d : Nat) (hd : d < 1152921504606846976) (l : List Tree) (a : Option Addr) (c : Nat) (bs : List UInt8) (w : World) (hF : Ent F) (hI : IW W0 N b F f (d + 1) l) (hk : KC W0 a l) (hm : l.length ≤ maxLen) (hB : Below N W0 w) (hp : PB N b d (Lib.byteCells bs) w) (hl : bs.length + (linesT f d l).length ≤ 1099511627776) :
    Calls Tryz.prog 37 #[.pointer (some ⟨b, 0, none⟩), .slice a l.length c, FV F b] w fun e w' => e = .returned (.tuple #[]) ∧ Wr N b bs (linesT f d l) d w w' := by
  unfold maxLen at hm
  have hNw : N ≤ w.heap.size := by rw [hN]; exact hB.size
  have hbw := hp.lt
  have p2 := hp.cell2
  have pf := hp.frozen
  have H0 := zm ((Wr.nil hp (Below.refl _ _) (Lib.OthersKept.refl _ _ _)).deep (d + 1 : Nat) hNw)
  have HI := zm hI
  have HK := zm hk
  have HB := zm hB
  obtain ⟨g, hg⟩ : ∃ g : Tree → List UInt8, g = fun t => tabsT (d + 1) ++ f t ++ [10] := ⟨_, rfl⟩
  have hgt : ∀ t, g t = tabsT (d + 1) ++ f t ++ [10] := fun t => by rw [hg]
  have hLT : linesT f d l = l.flatMap g := by rw [hg]; rfl
  rw [hLT] at hl ⊢
  have HL := zm hl
  have HGT := zm hgt
  obtain ⟨T, hT⟩ : ∃ T, T = l.flatMap g := ⟨_, rfl⟩
  rw [← hT]
  have HT := zm hT
  obtain ⟨n, hn⟩ : ∃ n, n = l.length := ⟨_, rfl⟩
  have HN : Hid (l.length = n) := zm hn.symm
  have HNN := zm hN
  rw [← hn] at hm ⊢
  have hd1 : ((d + 1 : Nat) : Int) = (d : Int) + 1 := om
  clear hp hI hk hB hl hT hn hN hg hgt hLT
  go_enter Tryz.func37, Tryz.ntmps37
  go_wp2
  go_loopw [17] (fun i wr => ∃ (j : Nat), j ≤ n ∧ i = .int .i64 j ∧ Hid (Wr N b bs ((l.take j).flatMap g) (d + 1 : Nat) w wr)) (fun i _ => n - (intOf i).toNat)
  case atStart => exact ⟨0, Nat.zero_le _, rfl, by simpa only [hd1, List.take_zero, List.flatMap_nil] using H0⟩
  case round =>
    obtain ⟨j, hj, rfl, hW⟩ := hrel
    have hws := (zk hW).size
    by_cases hlt : j < n
    · have hji : (j : Int) < (n : Int) := om
      have hjL : j < l.length := by have := zk HN; omega
      obtain ⟨kd, tx, nm, ps, ks, ek⟩ : ∃ a b c d e, l[j]? = some (Px.Tree.mk a b c d e) := by
        rw [List.getElem?_eq_getElem hjL]; cases l[j] with | mk a b c d e => exact ⟨a, b, c, d, e, rfl⟩
      obtain ⟨gb, off, ao2, cp2, rfl, q3, Q, qc⟩ := zk HK j _ _ _ _ _ ek
      have hcell : ∀ i, i < 7 → wr.cell? ⟨gb, off + j * 7 + i, none⟩ = (nodeC kd tx nm ps (.slice ao2 ks.length cp2))[i]? := fun i hi => by
        rw [Nat.add_assoc]
        have hb := (zk HB).trans (zk hW).2.1
        rw [World.cell?_of_block (w := W0) (a := ⟨gb, off + (j * 7 + i), none⟩) (hb.block gb (by rw [zk HNN]; exact q3))]
        exact qc i hi
      have a0 := hcell 0 om
      have a1 := hcell 1 om
      have a2 := hcell 2 om
      have a3 := hcell 3 om
      have a4 := hcell 4 om
      have a5 := hcell 5 om
      have a6 := hcell 6 om
      simp only [nodeC, List.getElem?_cons_zero, List.getElem?_cons_succ, Nat.add_zero] at a0 a1 a2 a3 a4 a5 a6
      have hmem : Tree.mk kd tx nm ps ks ∈ l := List.mem_of_getElem? ek
      have hts := flat_take (f := g) ek
      have hle := flat_le (f := g) l (j + 1)
      have HTS := zm hts
      rw [hts, zk HGT] at hle
      simp only [List.length_append] at hle
      have hA : Wr N b bs ((l.take j).flatMap g) (d + 1 : Nat) w (wr.alloc (nO kd tx nm ps ao2 ks.length cp2)) := (zk hW).quiet (zr (zo _ _) _) hNw
      have hgA : (wr.alloc (nO kd tx nm ps ao2 ks.length cp2)).heap[wr.heap.size]? = some (nO kd tx nm ps ao2 ks.length cp2) := yW _ _ rfl
      have HA := zm hA
      have HGA := zm hgA
      have hne : wr.heap.size ≠ b := om
      have htl : (tabsT (d + 1)).length = d + 1 := by simp [tabsT]
      have HTb := zm (tabs_any N b _ (d + 1) _ hA.1 (by have h2 := zk HL; simp only [List.length_append] at h2 ⊢; omega) (by have := hA.size; omega))
      have HI2 := zm (fun wx h1 h2 => zk HI kd tx nm ps ks ao2 cp2 (bs ++ ((l.take j).flatMap g ++ tabsT (d + 1))) wx hmem Q h1 h2 (by have h2 := zk HL; simp only [List.length_append] at h2 ⊢; omega))
      have HW2 := zm (fun wx h1 h2 => wbk N b (bs ++ (((l.take j).flatMap g ++ tabsT (d + 1)) ++ f (.mk kd tx nm ps ks))) 10 10 rfl (d + 1 : Nat) wx h1 (by have h2 := zk HL; simp only [List.length_append, List.length_cons, List.length_nil] at h2 hle ⊢; omega) h2)
      have HSN : Hid ((l.take (j + 1)).flatMap g = ((((l.take j).flatMap g) ++ tabsT (d + 1)) ++ f (.mk kd tx nm ps ks)) ++ [10]) := zm (by rw [hts, zk HGT]; simp only [List.append_assoc])
      clear ek Q qc hcell hjL hle hts hA hmem HTS htl
      obtain ⟨ft, hft⟩ : ∃ ft, ft = f (.mk kd tx nm ps ks) := ⟨_, rfl⟩
      rw [← hft] at HI2 HSN HW2
      clear hft hgA
      by_cases h0 : j = 0
      · subst h0
        simp only [Nat.zero_mul, Nat.add_zero] at a0 a1 a2 a3 a4 a5 a6
        go_wp2_with fail
        with_reducible refine (zk HTb).mono ?_
        rintro e w2 ⟨rfl, h2⟩
        have hb2 := h2.blk (zk HGA) hne dc
        have HG2 := zm hb2
        obtain ⟨c0, c1, c2, c3, c4, c5, c6⟩ := cells7 hb2
        have H2 := zm ((zk HA).trans h2)
        have HX := zm (zk HI2 w2 ((zk HB).trans (zk H2).2.1) (zk H2).1)
        clear h2 hb2
        go_wp2_with fail
        with_reducible refine (zk HX).mono ?_
        rintro e w3 ⟨rfl, h3⟩
        have H3 := zm ((zk H2).trans h3)
        have HY := zm (zk HW2 w3 (zk H3).1 (by have := (zk H3).size; omega))
        clear h3
        go_wp2_with fail
        with_reducible refine (zk HY).mono ?_
        rintro e w4 ⟨⟨v, rfl⟩, h4⟩
        have H4 := zm ((zk H3).trans h4)
        clear h4
        go_wp2
        go_roundw
        case rel => exact ⟨1, om, by go_num, zm (by have := zk H4; rwa [← zk HSN] at this)⟩
        case measure => simp [intOf]; omega
      · go_wp2_with fail
        with_reducible refine (zk HTb).mono ?_
        rintro e w2 ⟨rfl, h2⟩
        have hb2 := h2.blk (zk HGA) hne dc
        have HG2 := zm hb2
        obtain ⟨c0, c1, c2, c3, c4, c5, c6⟩ := cells7 hb2
        have H2 := zm ((zk HA).trans h2)
        have HX := zm (zk HI2 w2 ((zk HB).trans (zk H2).2.1) (zk H2).1)
        clear h2 hb2
        go_wp2_with fail
        with_reducible refine (zk HX).mono ?_
        rintro e w3 ⟨rfl, h3⟩
        have H3 := zm ((zk H2).trans h3)
        have HY := zm (zk HW2 w3 (zk H3).1 (by have := (zk H3).size; omega))
        clear h3
        go_wp2_with fail
        with_reducible refine (zk HY).mono ?_
        rintro e w4 ⟨⟨v, rfl⟩, h4⟩
        have H4 := zm ((zk H3).trans h4)
        clear h4
        go_wp2
        go_roundw
        case rel => exact ⟨j + 1, om, by go_num, zm (by have := zk H4; rwa [← zk HSN] at this)⟩
        case measure => simp [intOf]; omega
    · obtain rfl : j = n := om
      have hji : ¬ (j : Int) < (j : Int) := om
      have hW2 := zk hW
      rw [List.take_of_length_le (by have := zk HN; omega)] at hW2
      have q2 := hW2.1.cell2
      have qf := hW2.1.frozen
      rw [hd1] at q2
      have HE := zm (hW2.deep (d : Int) hNw)
      have hd2 : (d : Int) + 1 - 1 = d := om
      clear hW2
      go_wp2
      go_end0
      refine ⟨rfl, ?_⟩
      rw [zk HT]
      exact zk HE
theorem clauses_any (W0 : World) (N b F : Nat) (hN : N = W0.heap.size) (g : Tree → List UInt8) (d : Nat) (l : List Tree) (a : Option Addr) (c : Nat) (bs : List UInt8) (w : World) (hF : Ent F) (hI : IW W0 N b F g d l) (hk : KC W0 a l) (hm : l.length ≤ maxLen) (hB : Below N W0 w) (hp : PB N b d (Lib.byteCells bs) w) (hl : bs.length + ([32, 123, 10] ++ l.flatMap g ++ tabsT d ++ [125]).length ≤ 1099511627776) :
    Calls Tryz.prog 110 #[.pointer (some ⟨b, 0, none⟩), .slice a l.length c, FV F b] w fun e w' => e = .returned (.tuple #[]) ∧ Wr N b bs ([32, 123, 10] ++ l.flatMap g ++ tabsT d ++ [125]) d w w' := by
  unfold maxLen at hm
  have hNw : N ≤ w.heap.size := by rw [hN]; exact hB.size
  have hbw := hp.lt
  have htl : (tabsT d).length = d := by simp [tabsT]
  simp only [List.length_append, List.length_cons, List.length_nil] at hl
  rw [htl] at hl
  have HS := zm (ws N b bs [32, 123, 10] d w hp (by simp only [List.length_cons, List.length_nil]; omega) hNw)
  have HI := zm hI
  have HK := zm hk
  have HB := zm hB
  have HL := zm hl
  obtain ⟨T, hT⟩ : ∃ T, T = l.flatMap g := ⟨_, rfl⟩
  rw [← hT]
  have HT := zm hT
  obtain ⟨n, hn⟩ : ∃ n, n = l.length := ⟨_, rfl⟩
  have HN : Hid (l.length = n) := zm hn.symm
  have HNN := zm hN
  rw [← hn] at hm ⊢
  clear hp hI hk hB hl hT hn hN htl
  go_enter Tryz.func110, Tryz.ntmps110
  go_wp2_with fail
  with_reducible refine (zk HS).mono ?_
  rintro e w1 ⟨⟨v, rfl⟩, h1⟩
  have H1 := zm h1
  clear h1
  go_wp2
  go_loopw [14] (fun i wr => ∃ (j : Nat), j ≤ n ∧ i = .int .i64 j ∧ Hid (Wr N b bs ([32, 123, 10] ++ (l.take j).flatMap g) d w wr)) (fun i _ => n - (intOf i).toNat)
  case atStart => exact ⟨0, Nat.zero_le _, rfl, by simpa only [List.take_zero, List.flatMap_nil, List.append_nil] using H1⟩
  case round =>
    obtain ⟨j, hj, rfl, hW⟩ := hrel
    have hws := (zk hW).size
    by_cases hlt : j < n
    · have hji : (j : Int) < (n : Int) := om
      have hjL : j < l.length := by have := zk HN; omega
      obtain ⟨kd, tx, nm, ps, ks, ek⟩ : ∃ a b c d e, l[j]? = some (Px.Tree.mk a b c d e) := by
        rw [List.getElem?_eq_getElem hjL]; cases l[j] with | mk a b c d e => exact ⟨a, b, c, d, e, rfl⟩
      obtain ⟨gb, off, ao2, cp2, rfl, q3, Q, qc⟩ := zk HK j _ _ _ _ _ ek
      have hcell : ∀ i, i < 7 → wr.cell? ⟨gb, off + j * 7 + i, none⟩ = (nodeC kd tx nm ps (.slice ao2 ks.length cp2))[i]? := fun i hi => by
        rw [Nat.add_assoc]
        have hb := (zk HB).trans (zk hW).2.1
        rw [World.cell?_of_block (w := W0) (a := ⟨gb, off + (j * 7 + i), none⟩) (hb.block gb (by rw [zk HNN]; exact q3))]
        exact qc i hi
      have a0 := hcell 0 om
      have a1 := hcell 1 om
      have a2 := hcell 2 om
      have a3 := hcell 3 om
      have a4 := hcell 4 om
      have a5 := hcell 5 om
      have a6 := hcell 6 om
      simp only [nodeC, List.getElem?_cons_zero, List.getElem?_cons_succ, Nat.add_zero] at a0 a1 a2 a3 a4 a5 a6
      have hmem : Tree.mk kd tx nm ps ks ∈ l := List.mem_of_getElem? ek
      have hts := flat_take (f := g) ek
      have hle := flat_le (f := g) l (j + 1)
      have HTS := zm hts
      rw [hts] at hle
      simp only [List.length_append] at hle
      have hA : Wr N b bs ([32, 123, 10] ++ (l.take j).flatMap g) d w (wr.alloc (nO kd tx nm ps ao2 ks.length cp2)) := (zk hW).quiet (zr (zo _ _) _) hNw
      have HA := zm hA
      have hne : wr.heap.size ≠ b := om
      have HX := zm (zk HI kd tx nm ps ks ao2 cp2 _ _ hmem Q ((zk HB).trans hA.2.1) hA.1 zO)
      clear ek Q qc hcell hjL hle hts hA hmem
      obtain ⟨ft, hft⟩ : ∃ ft, ft = g (.mk kd tx nm ps ks) := ⟨_, rfl⟩
      rw [← hft] at HX HTS
      clear hft
      by_cases h0 : j = 0
      · subst h0
        simp only [Nat.zero_mul, Nat.add_zero] at a0 a1 a2 a3 a4 a5 a6
        go_wp2_with fail
        with_reducible refine (zk HX).mono ?_
        rintro e w3 ⟨rfl, h3⟩
        have H3 := zm ((zk HA).trans h3)
        clear h3
        go_wp2
        go_roundw
        case rel => exact ⟨1, om, by go_num, zm (by have := zk H3; rw [List.append_assoc] at this; rwa [zk HTS])⟩
        case measure => simp [intOf]; omega
      · skip
        go_wp2_with fail
        with_reducible refine (zk HX).mono ?_
        rintro e w3 ⟨rfl, h3⟩
        have H3 := zm ((zk HA).trans h3)
        clear h3
        go_wp2
        go_roundw
        case rel => exact ⟨j + 1, om, by go_num, zm (by have := zk H3; rw [List.append_assoc] at this; rwa [zk HTS])⟩
        case measure => simp [intOf]; omega
    · obtain rfl : j = n := om
      have hji : ¬ (j : Int) < (j : Int) := om
      have hW2 := zk hW
      rw [List.take_of_length_le (by have := zk HN; omega)] at hW2
      have HW2 := zm hW2
      have HTb := zm (tabs_any N b _ d _ hW2.1 zO (by have := hW2.size; omega))
      clear hW2
      go_wp2_with fail
      with_reducible refine (zk HTb).mono ?_
      rintro e w3 ⟨rfl, h3⟩
      have h4 := (zk HW2).trans h3
      have H4 := zm h4
      have HY := zm (wbk N b _ 125 125 rfl d w3 h4.1 (by have h2 := zk HL; simp only [List.length_append, List.length_cons, List.length_nil, tabsT, List.length_replicate] at h2 ⊢; omega) (by have := h4.size; omega))
      clear h3 h4
      go_wp2_with fail
      with_reducible refine (zk HY).mono ?_
      rintro e w5 ⟨⟨v, rfl⟩, h5⟩
      have H5 := zm ((zk H4).trans h5)
      clear h5
      go_wp2
      go_end0
      refine ⟨rfl, ?_⟩
      rw [zk HT]
      exact zk H5
end Go.Proofs.YtheknbfbneghgaaGreatDoor.Pp
set_option maxHeartbeats 1000000
set_option maxRecDepth 100000
namespace Go.Proofs.YtheknbfbneghgaaGreatDoor.Px
open Go.Proofs.YtheknbfbneghgaaGreatDoor.Lx
def sz : Tree → Nat
  | .mk k _ _ _ l => (if k = 0 then 1 else 2) + (l.map sz).sum
theorem sz_mk (k : Int) (b : List UInt8) (c p : Int) (l : List Tree) : sz (.mk k b c p l) = (if k = 0 then 1 else 2) + (l.map sz).sum := by rw [sz]
theorem le_sum {x : Nat} : ∀ {l : List Nat}, x ∈ l → x ≤ l.sum
  | a :: r, h => by
    simp only [List.sum_cons]
    rcases List.mem_cons.1 h with rfl | h
    · omega
    · have := le_sum h; omega
theorem sz_mem {t s : Tree} (h : s ∈ t.kids) : sz s < sz t := by
  cases t with
  | mk k b c p l =>
    rw [sz_mk]
    have := le_sum (List.mem_map_of_mem (f := sz) (show s ∈ l from h))
    split <;> omega
theorem sz_part {t : Tree} (h : t.kind ≠ 0) (i : Nat) : sz (yM t i) < sz t := by
  unfold yM
  rw [List.getD_eq_getElem?_getD]
  cases e : t.kids[i]? with
  | some x => exact sz_mem (List.mem_of_getElem? e)
  | none =>
    cases t with
    | mk k b c p l =>
      have hk : k ≠ 0 := h
      rw [sz_mk, if_neg hk]
      simp only [Option.getD_none, zeroT, sz_mk, if_true, List.map_nil, List.sum_nil]
      omega
def rnk : PrJ → Nat
  | .stmt => 2 | .exprStmt => 2 | .forStmt => 1 | .simple => 1 | .expr => 1 | .comm => 1 | .decl => 1 | .field => 1 | .param => 1 | _ => 0
theorem rank_le (j : PrJ) : rnk j ≤ 2 := by cases j <;> simp [rnk]
def nee (j : PrJ) (t : Tree) : Nat := 8 * sz t + rnk j
theorem need_part {t : Tree} (h : t.kind ≠ 0) (i : Nat) (j j' : PrJ) : nee j' (yM t i) < nee j t := by
  have := sz_part h i; have := rank_le j'; unfold nee; omega
theorem need_kid {t s : Tree} (h : s ∈ t.kids) (j j' : PrJ) : nee j' s < nee j t := by
  have := sz_mem h; have := rank_le j'; unfold nee; omega
theorem need_same {t : Tree} {j j' : PrJ} (h : rnk j' < rnk j) : nee j' t < nee j t := by unfold nee; omega
/-- What a job's own calls are made at. -/
def Sub (s t : Tree) : Prop := s = t ∨ s ∈ t.kids ∨ s = zeroT
theorem sub_part (t : Tree) (i : Nat) : Sub (yM t i) t := by
  unfold yM
  rw [List.getD_eq_getElem?_getD]
  cases e : t.kids[i]? with
  | some x => exact .inr (.inl (List.mem_of_getElem? e))
  | none => exact .inr (.inr rfl)
/-- The jobs that are only done at a node of some kind. -/
def okJ (j : PrJ) (t : Tree) : Prop := match j with
  | .both _ | .jump _ | .ifStmt | .forStmt | .forParts | .switchStmt | .selectStmt | .receiving | .typed | .function | .builtin => t.kind ≠ 0
  | _ => True
end Go.Proofs.YtheknbfbneghgaaGreatDoor.Px
namespace Go.Proofs.YtheknbfbneghgaaGreatDoor.Pp
open Go.RowKit Go.Proofs.YtheknbfbneghgaaGreatDoor.Lx Go.Proofs.YtheknbfbneghgaaGreatDoor.Px
def JF : PrJ → Nat
  | .expr => 93 | .stmt => 88 | .block => 66 | .wtype => 62 | .typed => 39 | .field => 38 | .param => 86 | .params => 64 | .function => 40 | .decl => 25 | .simple => 99 | .both _ => 104 | .exprStmt => 113 | .initial => 106 | .builtin => 105 | .pointed => 124 | .primary => 108
  | .ifStmt => 94 | .forStmt => 95 | .forParts => 109 | .switchStmt => 96 | .selectStmt => 97 | .clause => 111 | .comm => 112 | .receiving => 127 | .clauseStmts => 126 | .jump _ => 98 | .file => 14
def JA (b : Nat) : PrJ → Value → Array Value
  | .both s, nv => #[.pointer (some ⟨b, 0, none⟩), nv, .string ⟨s.toArray⟩]
  | .jump s, nv => #[.pointer (some ⟨b, 0, none⟩), .string ⟨s.toArray⟩, nv]
  | _, nv => #[.pointer (some ⟨b, 0, none⟩), nv]
/-- Function F, called with these arguments, writes y. -/
def JG (W0 : World) (N b F : Nat) (args : Array Value) (y : List UInt8) (d : Nat) : Prop := ∀ (bs : List UInt8) (w : World), Below N W0 w → PB N b d (Lib.byteCells bs) w → bs.length + y.length ≤ 1099511627776 →
  Calls Tryz.prog F args w fun e w' => e = .returned (.tuple #[]) ∧ Wr N b bs y d w w'
def JC (W0 : World) (N b : Nat) (rec : PrJ → Nat → Tree → List UInt8) (j : PrJ) (d : Nat) (t : Tree) : Prop :=
  ∀ (kd : Int) (tx : List UInt8) (nm ps : Int) (ks : List Tree) (ao : Option Addr) (cp : Nat), t = .mk kd tx nm ps ks → Jj.KidsAt W0 (.slice ao ks.length cp) ks → JG W0 N b (JF j) (JA b j (nA kd tx nm ps ao ks.length cp)) (rec j d t) d
/-- Where the walk of a job stands. -/
def ye (W0 : World) (N b : Nat) (bs X : List UInt8) (d : Nat) (w wr : World) (g : Nat) (kd : Int) (tx : List UInt8) (nm ps : Int) (ao : Option Addr) (n cp : Nat) : Prop :=
  Wr N b bs X d w wr ∧ wr.heap[g]? = some (nO kd tx nm ps ao n cp) ∧ g ≠ b ∧ N ≤ w.heap.size ∧ Below N W0 w ∧ N = W0.heap.size
section
variable {W0 : World} {N b : Nat} {bs X : List UInt8} {d : Nat} {w wr : World} {g : Nat} {kd : Int} {tx : List UInt8} {nm ps : Int} {ao : Option Addr} {n cp : Nat}
theorem ye.start (kd : Int) (tx : List UInt8) (nm ps : Int) (ao : Option Addr) (n cp : Nat) (hN : N = W0.heap.size) (hB : Below N W0 w) (hp : PB N b d (Lib.byteCells bs) w) : Hid (ye W0 N b bs [] d w (w.alloc (nO kd tx nm ps ao n cp)) w.heap.size kd tx nm ps ao n cp) := by
  have hNw : N ≤ w.heap.size := by rw [hN]; exact hB.size
  have := hp.lt
  exact zm ⟨(Wr.nil hp (Below.refl _ _) (Lib.OthersKept.refl _ _ _)).quiet (zr (zo _ _) _) hNw, yW _ _ rfl, om, hNw, hB, hN⟩
theorem ye.to {wr' : World} {y : List UInt8} (h : ye W0 N b bs X d w wr g kd tx nm ps ao n cp) (k : Wr N b (bs ++ X) y d wr wr') : Hid (ye W0 N b bs (X ++ y) d w wr' g kd tx nm ps ao n cp) :=
  zm ⟨h.1.trans k, k.blk h.2.1 h.2.2.1 dc, h.2.2⟩
theorem ye.qu {wr' : World} (h : ye W0 N b bs X d w wr g kd tx nm ps ao n cp) (k : wr.grownBy wr' none) : Hid (ye W0 N b bs X d w wr' g kd tx nm ps ao n cp) :=
  zm ⟨h.1.quiet k h.2.2.2.1, (k.block g (Array.getElem?_eq_some_iff.1 h.2.1).1 zK).trans h.2.1, h.2.2⟩
theorem ye.big (h : ye W0 N b bs X d w wr g kd tx nm ps ao n cp) : N ≤ wr.heap.size := by have := h.1.size; have := h.2.2.2.1; omega
theorem ye.bel (h : ye W0 N b bs X d w wr g kd tx nm ps ao n cp) : Below N W0 wr := h.2.2.2.2.1.trans h.1.2.1
theorem ye.s {s : List UInt8} (h : Hid (ye W0 N b bs X d w wr g kd tx nm ps ao n cp)) (hl : bs.length + (X.length + s.length) ≤ 1099511627776) :
    Calls Tryz.prog 36 #[.pointer (some ⟨b, 0, none⟩), .string ⟨s.toArray⟩] wr fun e w' => (∃ v, e = .returned v) ∧ Hid (ye W0 N b bs (X ++ s) d w w' g kd tx nm ps ao n cp) :=
  (ws N b (bs ++ X) s d wr (zk h).1.1 zi (zk h).big).mono fun e w' q => ⟨q.1, (zk h).to q.2⟩
theorem ye.byte (c : UInt8) {k : Int} (h : Hid (ye W0 N b bs X d w wr g kd tx nm ps ao n cp)) (hk : (c.toNat : Int) = k) (hl : bs.length + (X.length + 1) ≤ 1099511627776) :
    Calls Tryz.prog 26 #[.pointer (some ⟨b, 0, none⟩), .int .u8 k] wr fun e w' => (∃ v, e = .returned v) ∧ Hid (ye W0 N b bs (X ++ [c]) d w w' g kd tx nm ps ao n cp) :=
  (wbk N b (bs ++ X) c k hk d wr (zk h).1.1 zi (zk h).big).mono fun e w' q => ⟨q.1, (zk h).to q.2⟩
theorem ye.unk (h : Hid (ye W0 N b bs X d w wr g kd tx nm ps ao n cp)) (hl : bs.length + (X.length + 1) ≤ 1099511627776) :
    Calls Tryz.prog 24 #[.pointer (some ⟨b, 0, none⟩)] wr fun e w' => e = .returned (.tuple #[]) ∧ Hid (ye W0 N b bs (X ++ [63]) d w w' g kd tx nm ps ao n cp) :=
  (unknown_any N b (bs ++ X) d wr (zk h).1.1 zi (zk h).big).mono fun e w' q => ⟨q.1, (zk h).to q.2⟩
theorem ye.tabs (h : Hid (ye W0 N b bs X d w wr g kd tx nm ps ao n cp)) (hl : bs.length + (X.length + (tabsT d).length) ≤ 1099511627776) :
    Calls Tryz.prog 61 #[.pointer (some ⟨b, 0, none⟩)] wr fun e w' => e = .returned (.tuple #[]) ∧ Hid (ye W0 N b bs (X ++ tabsT d) d w w' g kd tx nm ps ao n cp) :=
  (tabs_any N b (bs ++ X) d wr (zk h).1.1 (by rw [List.length_append]; simp [tabsT] at hl; omega) (zk h).big).mono fun e w' q => ⟨q.1, (zk h).to q.2⟩
theorem ye.call {F : Nat} {args : Array Value} {y : List UInt8} (h : Hid (ye W0 N b bs X d w wr g kd tx nm ps ao n cp)) (hJ : Hid (JG W0 N b F args y d)) (hl : bs.length + (X.length + y.length) ≤ 1099511627776) :
    Calls Tryz.prog F args wr fun e w' => e = .returned (.tuple #[]) ∧ Hid (ye W0 N b bs (X ++ y) d w w' g kd tx nm ps ao n cp) :=
  (zk hJ (bs ++ X) wr (zk h).bel (zk h).1.1 zi).mono fun e w' q => ⟨q.1, (zk h).to q.2⟩
theorem ye.cells (h : Hid (ye W0 N b bs X d w wr g kd tx nm ps ao n cp)) : wr.cell? ⟨g, 0, none⟩ = some (.int .i64 kd) ∧ wr.cell? ⟨g, 1, none⟩ = some (.string ⟨tx.toArray⟩) ∧ wr.cell? ⟨g, 2, none⟩ = some (.int .i64 nm) ∧ wr.cell? ⟨g, 3, none⟩ = some (.int .i64 ps) ∧ wr.cell? ⟨g, 4, none⟩ = some (.string ⟨#[]⟩) ∧ wr.cell? ⟨g, 5, none⟩ = some (.int .i64 0) ∧ wr.cell? ⟨g, 6, none⟩ = some (.slice ao n cp) := cells7 (zk h).2.1
theorem ye.wrote (h : Hid (ye W0 N b bs X d w wr g kd tx nm ps ao n cp)) : Wr N b bs X d w wr := (zk h).1
/-- What part gives. -/
def PV (W0 : World) (t : Tree) (kd : Int) (tx : List UInt8) (nm ps : Int) (ao : Option Addr) (n cp : Nat) : Prop := ∃ ks, t = .mk kd tx nm ps ks ∧ n = ks.length ∧ Jj.KidsAt W0 (.slice ao n cp) ks
theorem ye.part {kids : List Tree} (i : Nat) {k : Int} (h : Hid (ye W0 N b bs X d w wr g kd tx nm ps ao n cp)) (hq : Hid (PV W0 (.mk kd tx nm ps kids) kd tx nm ps ao n cp)) (hk : (i : Int) = k) :
    Calls Tryz.prog 63 #[nA kd tx nm ps ao n cp, .int .i64 k] wr fun e w' => (∃ kd2 tx2 nm2 ps2 ao2 n2 cp2, e = .returned (nA kd2 tx2 nm2 ps2 ao2 n2 cp2) ∧ Hid (PV W0 (yM (.mk kd tx nm ps kids) i) kd2 tx2 nm2 ps2 ao2 n2 cp2)) ∧ Hid (ye W0 N b bs X d w w' g kd tx nm ps ao n cp) := by
  obtain ⟨ks, e, rfl, hK⟩ := zk hq
  simp only [Tree.mk.injEq, true_and] at e
  subst e hk
  refine (part_any W0 wr (grown_of (zk h).2.2.2.2.2 (zk h).bel) kd tx nm ps kids ao cp i hK).mono ?_
  rintro e w' ⟨⟨v, rfl, kd2, tx2, nm2, ps2, ks2, ao2, cp2, rfl, h3, h4⟩, hg⟩
  exact ⟨⟨_, _, _, _, _, _, _, rfl, zm ⟨ks2, h3, rfl, h4⟩⟩, (zk h).qu hg⟩
theorem JC.pv {rec : PrJ → Nat → Tree → List UInt8} {j : PrJ} {t : Tree} (h : JC W0 N b rec j d t) (hq : Hid (PV W0 t kd tx nm ps ao n cp)) : Hid (JG W0 N b (JF j) (JA b j (nA kd tx nm ps ao n cp)) (rec j d t) d) := by
  obtain ⟨ks, e, rfl, hK⟩ := zk hq
  exact zm (h kd tx nm ps ks ao cp e hK)
end
theorem pl {p : Prop} (h : p := by (have h2 := zk HL; simp only [List.length_append, List.length_cons, List.length_nil] at h2 ⊢; omega)) : p := h
theorem pe {p : Prop} (h : p := by (go_wp2; (first | go_end0 | ((try simp only [Exit.inBlock, Exit.then]); refine bodyPost_ret (results_none rfl _ _ _) rfl ?_)); exact ⟨rfl, by simpa only [List.nil_append, List.append_assoc, List.cons_append] using ye.wrote HS⟩)) : p := h
theorem sS (k n p : Int) (x : List UInt8) (l : List Tree) : (Tree.mk k x n p l).kind = k ∧ (Tree.mk k x n p l).text = x ∧ (Tree.mk k x n p l).kids = l ∧ (Tree.mk k x n p l).num = n := ⟨rfl, rfl, rfl, rfl⟩
theorem sT : (∀ (h : Decidable True) (a b : List UInt8), @ite _ True h a b = a) ∧ (∀ (h : Decidable False) (a b : List UInt8), @ite _ False h a b = b) ∧ (∀ p : Prop, (p ∨ p) = p) ∧ (∀ p : Prop, (p ∨ False) = p) ∧ (∀ p : Prop, (False ∨ p) = p) ∧ (∀ p : Prop, (p ∨ True) = True) ∧ (∀ p : Prop, (True ∨ p) = True) ∧ (∀ p : Prop, (False ∧ p) = False) ∧ (∀ p : Prop, (True ∧ p) = p) ∧ (∀ p : Prop, (p ∧ True) = p) ∧ (∀ p : Prop, (p ∧ False) = False) ∧ (∀ l : List UInt8, l ++ [] = l) ∧ (∀ l : List UInt8, [] ++ l = l) ∧ (∀ a b : Int, (a ≠ b) = ¬ a = b) ∧ (¬ True) = False ∧ (¬ False) = True := by simp
/-- The smaller jobs are known. -/
abbrev RH (W0 : World) (N b : Nat) (rec : PrJ → Nat → Tree → List UInt8) (j : PrJ) (d : Nat) (t : Tree) : Prop := ∀ (j' : PrJ) (d' : Nat) (t' : Tree), nee j' t' < nee j t → okJ j' t' → (d' = d ∨ d' = d + 1 ∧ sz t' < sz t) → Sub t' t → JC W0 N b rec j' d' t'
theorem both_step {W0 : World} {N b : Nat} (hN : N = W0.heap.size) (digits : Int → List UInt8) (rec : PrJ → Nat → Tree → List UInt8) (s : List UInt8) (d : Nat) (t : Tree) (hr : RH W0 N b rec (.both s) d t) (ho : okJ (.both s) t) : JC W0 N b (ym digits rec) (.both s) d t := by
  intro kd tx nm ps ks ao cp rfl hK bs w hB hp hl
  have h0 := hr .expr d (yM (.mk kd tx nm ps ks) 0) (need_part ho 0 _ _) trivial (.inl rfl) (sub_part _ _)
  have h1 := hr .expr d (yM (.mk kd tx nm ps ks) 1) (need_part ho 1 _ _) trivial (.inl rfl) (sub_part _ _)
  simp only [ym] at hl ⊢
  have HV : Hid (PV W0 (.mk kd tx nm ps ks) kd tx nm ps ao ks.length cp) := zm ⟨ks, rfl, rfl, hK⟩
  have HS := ye.start (bs := bs) kd tx nm ps ao ks.length cp hN hB hp
  have H0 := zm h0
  have H1 := zm h1
  have HL := zm hl
  have hs : s.length ≤ 1099511627776 := pl
  have hs1 : ¬ 9223372036854775807 < 1 + s.length := om
  have hs2 : ¬ 9223372036854775807 < 1 + s.length + 1 := om
  clear hp hB hK hl hr h0 h1
  simp only [JF, JA]
  go_enter Tryz.func104, Tryz.ntmps104
  (go_wp2_with fail; with_reducible refine (ye.part 0 HS HV dc).mono ?_; (try clear cc); clear HS; rintro e wn ⟨⟨kd2, tx2, nm2, ps2, ao2, n2, cp2, rfl, HP⟩, HS⟩; have cc := ye.cells HS)
  (have HJ := ((zk H0).pv HP); simp only [JF, JA] at HJ; go_wp2_with fail; with_reducible refine (ye.call HS HJ pl).mono ?_; (try clear cc); clear HS HJ; rintro e wn ⟨rfl, HS⟩; have cc := ye.cells HS)
  (go_wp2_with fail; (try simp only [ByteArray.mk_append_mk]); with_reducible refine (ye.s HS pl).mono ?_; (try clear cc); clear HS; rintro e wn ⟨⟨v, rfl⟩, HS⟩; have cc := ye.cells HS)
  (go_wp2_with fail; with_reducible refine (ye.part 1 HS HV dc).mono ?_; (try clear cc); clear HS; rintro e wn ⟨⟨kd2, tx2, nm2, ps2, ao2, n2, cp2, rfl, HP⟩, HS⟩; have cc := ye.cells HS)
  (have HJ := ((zk H1).pv HP); simp only [JF, JA] at HJ; go_wp2_with fail; with_reducible refine (ye.call HS HJ pl).mono ?_; (try clear cc); clear HS HJ; rintro e wn ⟨rfl, HS⟩; have cc := ye.cells HS)
  exact pe
end Go.Proofs.YtheknbfbneghgaaGreatDoor.Pp
set_option maxRecDepth 100000
namespace Go.Proofs.YtheknbfbneghgaaGreatDoor.Pp
open Go.RowKit Go.Proofs.YtheknbfbneghgaaGreatDoor.Lx Go.Proofs.YtheknbfbneghgaaGreatDoor.Px
theorem ent_of (F : Nat) (h : F ∈ [38, 62, 66, 86, 88, 93, 106, 111, 112]) : Ent F := by
  simp only [List.mem_cons, List.not_mem_nil, or_false] at h
  rcases h with rfl | rfl | rfl | rfl | rfl | rfl | rfl | rfl | rfl <;> intro args w <;> kernel_rfl
theorem KidsAt_cap {w : World} {ao : Option Addr} {n cp : Nat} {l : List Tree} (h : Jj.KidsAt w (.slice ao n cp) l) : n ≤ cp := by
  obtain ⟨cs, h1, h3⟩ := h
  obtain ⟨hlen, hn | ⟨g, cap, cur, e1, hlo, hb, hle, hcap, hsz, htk⟩⟩ := h1
  · have := hn.1; simp only [Value.slice.injEq] at this; omega
  · simp only [Value.slice.injEq] at e1; omega
/-- A row that may be walked. -/
def RV (W0 : World) (a : Option Addr) (n : Nat) (l : List Tree) : Prop := KC W0 a l ∧ n = l.length ∧ l.length ≤ maxLen
section
variable {W0 : World} {N b : Nat} {bs X : List UInt8} {d : Nat} {w wr : World} {g : Nat} {kd : Int} {tx : List UInt8} {nm ps : Int} {ao : Option Addr} {n cp : Nat} {rec : PrJ → Nat → Tree → List UInt8}
def plainJ (j : PrJ) : Prop := ∀ b nv, JA b j nv = #[.pointer (some ⟨b, 0, none⟩), nv]
theorem iw_of {j : PrJ} (hj : plainJ j) {l : List Tree} (h : ∀ t ∈ l, JC W0 N b rec j d t) : IW W0 N b (JF j) (rec j d) d l := by
  intro kd tx nm ps ks ao cp bs w hm hK hB hp hl
  have := h _ hm kd tx nm ps ks ao cp rfl hK bs w hB hp hl
  rwa [hj] at this
theorem PV.rv {kids : List Tree} (hq : Hid (PV W0 (.mk kd tx nm ps kids) kd tx nm ps ao n cp)) : Hid (RV W0 ao n kids) := by
  obtain ⟨ks, e, rfl, hK⟩ := zk hq
  simp only [Tree.mk.injEq, true_and] at e
  subst e
  exact zm ⟨KC.of hK, rfl, hK.few⟩
theorem ye.unl (j : PrJ) {F : Nat} {ah : List UInt8} {t : Tree} {kd2 : Int} {tx2 : List UInt8} {nm2 ps2 : Int} {ao2 : Option Addr} {n2 cp2 : Nat} (h : Hid (ye W0 N b bs X d w wr g kd tx nm ps ao n cp)) (hq : Hid (PV W0 t kd2 tx2 nm2 ps2 ao2 n2 cp2)) (hj : plainJ j) (hF : JF j = F) (hE : Ent F) (hJ : Hid (JC W0 N b rec j d t)) (hl : bs.length + (X.length + (unlT ah (rec j d) t).length) ≤ 1099511627776) :
    Calls Tryz.prog 65 #[.pointer (some ⟨b, 0, none⟩), .string ⟨ah.toArray⟩, nA kd2 tx2 nm2 ps2 ao2 n2 cp2, FV F b] wr fun e w' => e = .returned (.tuple #[]) ∧ Hid (ye W0 N b bs (X ++ unlT ah (rec j d) t) d w w' g kd tx nm ps ao n cp) := by
  subst hF
  obtain ⟨ks, rfl, rfl, hK⟩ := zk hq
  refine (unl_any W0 N b (JF j) (zk h).2.2.2.2.2 (rec j d (.mk kd2 tx2 nm2 ps2 ks)) ah d kd2 tx2 nm2 ps2 ks.length ao2 cp2 (bs ++ X) wr hE (fun _ bs2 w2 hB hp hl => ?_) (zk h).bel (zk h).1.1 (by rw [List.length_append]; unfold unlT Tree.kind at hl; dsimp only at hl; omega)).mono fun e w' q => ⟨q.1, (zk h).to q.2⟩
  have := zk hJ kd2 tx2 nm2 ps2 ks ao2 cp2 rfl hK bs2 w2 hB hp hl
  rwa [hj] at this
theorem ye.list (j : PrJ) {F : Nat} {l : List Tree} {a : Option Addr} {m c : Nat} (h : Hid (ye W0 N b bs X d w wr g kd tx nm ps ao n cp)) (hq : Hid (RV W0 a m l)) (hj : plainJ j) (hF : JF j = F) (hE : Ent F) (hJ : Hid (∀ t ∈ l, JC W0 N b rec j d t)) (hl : bs.length + (X.length + (sepJ (l.map (rec j d))).length) ≤ 1099511627776) :
    Calls Tryz.prog 83 #[.pointer (some ⟨b, 0, none⟩), .slice a m c, FV F b] wr fun e w' => e = .returned (.tuple #[]) ∧ Hid (ye W0 N b bs (X ++ sepJ (l.map (rec j d))) d w w' g kd tx nm ps ao n cp) := by
  subst hF
  obtain ⟨hk, rfl, hm⟩ := zk hq
  exact (list_any W0 N b (JF j) (zk h).2.2.2.2.2 (rec j d) d l a c (bs ++ X) wr hE (iw_of hj (zk hJ)) hk hm (zk h).bel (zk h).1.1 zi).mono fun e w' q => ⟨q.1, (zk h).to q.2⟩
theorem ye.lines (j : PrJ) {F : Nat} {l : List Tree} {a : Option Addr} {m c : Nat} (h : Hid (ye W0 N b bs X d w wr g kd tx nm ps ao n cp)) (hq : Hid (RV W0 a m l)) (hj : plainJ j) (hF : JF j = F) (hE : Ent F) (hJ : Hid (∀ t ∈ l, JC W0 N b rec j (d + 1) t)) (hd : d < 1152921504606846976) (hl : bs.length + (X.length + (linesT (rec j (d + 1)) d l).length) ≤ 1099511627776) :
    Calls Tryz.prog 37 #[.pointer (some ⟨b, 0, none⟩), .slice a m c, FV F b] wr fun e w' => e = .returned (.tuple #[]) ∧ Hid (ye W0 N b bs (X ++ linesT (rec j (d + 1)) d l) d w w' g kd tx nm ps ao n cp) := by
  subst hF
  obtain ⟨hk, rfl, hm⟩ := zk hq
  exact (lines_any W0 N b (JF j) (zk h).2.2.2.2.2 (rec j (d + 1)) d hd l a c (bs ++ X) wr hE (iw_of hj (zk hJ)) hk hm (zk h).bel (zk h).1.1 zi).mono fun e w' q => ⟨q.1, (zk h).to q.2⟩
theorem ye.clauses (j : PrJ) {F : Nat} {l : List Tree} {a : Option Addr} {m c : Nat} (h : Hid (ye W0 N b bs X d w wr g kd tx nm ps ao n cp)) (hq : Hid (RV W0 a m l)) (hj : plainJ j) (hF : JF j = F) (hE : Ent F) (hJ : Hid (∀ t ∈ l, JC W0 N b rec j d t)) (hl : bs.length + (X.length + ([32, 123, 10] ++ l.flatMap (rec j d) ++ tabsT d ++ [125]).length) ≤ 1099511627776) :
    Calls Tryz.prog 110 #[.pointer (some ⟨b, 0, none⟩), .slice a m c, FV F b] wr fun e w' => e = .returned (.tuple #[]) ∧ Hid (ye W0 N b bs (X ++ ([32, 123, 10] ++ l.flatMap (rec j d) ++ tabsT d ++ [125])) d w w' g kd tx nm ps ao n cp) := by
  subst hF
  obtain ⟨hk, rfl, hm⟩ := zk hq
  exact (clauses_any W0 N b (JF j) (zk h).2.2.2.2.2 (rec j d) d l a c (bs ++ X) wr hE (iw_of hj (zk hJ)) hk hm (zk h).bel (zk h).1.1 (by simp only [List.length_append] at hl ⊢; omega)).mono fun e w' q => ⟨q.1, (zk h).to q.2⟩
theorem ye.last {kids : List Tree} (h : Hid (ye W0 N b bs X d w wr g kd tx nm ps ao n cp)) (hq : Hid (PV W0 (.mk kd tx nm ps kids) kd tx nm ps ao n cp)) :
    Calls Tryz.prog 85 #[nA kd tx nm ps ao n cp] wr fun e w' => (∃ kd2 tx2 nm2 ps2 ao2 n2 cp2, e = .returned (nA kd2 tx2 nm2 ps2 ao2 n2 cp2) ∧ Hid (PV W0 (yM (.mk kd tx nm ps kids) (kids.length - 1)) kd2 tx2 nm2 ps2 ao2 n2 cp2)) ∧ Hid (ye W0 N b bs X d w w' g kd tx nm ps ao n cp) := by
  obtain ⟨ks, e, rfl, hK⟩ := zk hq
  simp only [Tree.mk.injEq, true_and] at e
  subst e
  refine (last_any W0 wr (grown_of (zk h).2.2.2.2.2 (zk h).bel) kd tx nm ps kids ao cp hK).mono ?_
  rintro e w' ⟨⟨v, rfl, kd2, tx2, nm2, ps2, ks2, ao2, cp2, rfl, h3, h4⟩, hg⟩
  exact ⟨⟨_, _, _, _, _, _, _, rfl, zm ⟨ks2, h3, rfl, h4⟩⟩, (zk h).qu hg⟩
theorem ye.until_ {kids : List Tree} (h : Hid (ye W0 N b bs X d w wr g kd tx nm ps ao n cp)) (hq : Hid (PV W0 (.mk kd tx nm ps kids) kd tx nm ps ao n cp)) :
    Calls Tryz.prog 84 #[nA kd tx nm ps ao n cp] wr fun e w' => (∃ a m c, e = .returned (.slice a m c) ∧ Hid (RV W0 a m (kids.take (kids.length - 1)))) ∧ Hid (ye W0 N b bs X d w w' g kd tx nm ps ao n cp) := by
  obtain ⟨ks, e, rfl, hK⟩ := zk hq
  simp only [Tree.mk.injEq, true_and] at e
  subst e
  refine (until_any W0 wr kd tx nm ps kids ao cp hK (KidsAt_cap hK)).mono ?_
  rintro e w' ⟨⟨a, c, rfl, h3, h4⟩, hg⟩
  exact ⟨⟨_, _, _, rfl, zm ⟨h3, rfl, h4⟩⟩, (zk h).qu hg⟩
theorem ye.from_ {kids : List Tree} (h : Hid (ye W0 N b bs X d w wr g kd tx nm ps ao n cp)) (hq : Hid (PV W0 (.mk kd tx nm ps kids) kd tx nm ps ao n cp)) :
    Calls Tryz.prog 107 #[nA kd tx nm ps ao n cp, .int .i64 1] wr fun e w' => (∃ a m c, e = .returned (.slice a m c) ∧ Hid (RV W0 a m (kids.drop 1))) ∧ Hid (ye W0 N b bs X d w w' g kd tx nm ps ao n cp) := by
  obtain ⟨ks, e, rfl, hK⟩ := zk hq
  simp only [Tree.mk.injEq, true_and] at e
  subst e
  refine (from_any W0 wr kd tx nm ps kids ao cp hK (KidsAt_cap hK)).mono ?_
  rintro e w' ⟨⟨a, c, rfl, h3, h4⟩, hg⟩
  exact ⟨⟨_, _, _, rfl, zm ⟨h3, rfl, h4⟩⟩, (zk h).qu hg⟩
theorem ye.isNone {t : Tree} {kd2 : Int} {tx2 : List UInt8} {nm2 ps2 : Int} {ao2 : Option Addr} {n2 cp2 : Nat} (h : Hid (ye W0 N b bs X d w wr g kd tx nm ps ao n cp)) (hq : Hid (PV W0 t kd2 tx2 nm2 ps2 ao2 n2 cp2)) :
    Calls Tryz.prog 87 #[nA kd2 tx2 nm2 ps2 ao2 n2 cp2] wr fun e w' => e = .returned (.bool (t.kind == 8)) ∧ Hid (ye W0 N b bs X d w w' g kd tx nm ps ao n cp) := by
  obtain ⟨ks, rfl, rfl, hK⟩ := zk hq
  exact (isNone_any wr kd2 tx2 nm2 ps2 ks.length ao2 cp2).mono fun e w' q => ⟨q.1, (zk h).qu q.2⟩
theorem ye.dr (h : Hid (ye W0 N b bs X d w wr g kd tx nm ps ao n cp)) : Hid (ye W0 N b bs X d w wr.drew g kd tx nm ps ao n cp) := (zk h).qu (zz (zo _ _))
end
end Go.Proofs.YtheknbfbneghgaaGreatDoor.Pp
