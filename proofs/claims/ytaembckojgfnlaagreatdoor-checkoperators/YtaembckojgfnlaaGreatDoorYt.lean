import Derived.Test.YtaembckojgfnlaaGreatDoorYs
import Derived.Test.YtaembckojgfnlaaGreatDoorRows
import Derived.ProofKit
import Derived.LaidMore
import Derived.LaidHandle
import Derived.Lib.LaidTab
import Derived.LaidLaws
import Derived.OpenShut
import Derived.Stop.Joined
import Derived.Stop.LaidErr
set_option linter.all false
namespace Go.Proofs.YtaembckojgfnlaaGreatDoor
open Go Go.ChangeShapes Go.WideShapes Go.ChangeAt Go.WideMaps Go.WideElems Go.RowKit Ex
def laid8 : List (String × DataW Unit) := [("errors.errorType", Rows.laid_errors_errorType), ("derrick/lex.longestMark", Rows.laid_derrick_lex_longestMark), ("derrick/check.errFile", Rows.laid_derrick_check_errFile), ("derrick/check.errScope", Rows.laid_derrick_check_errScope), ("derrick/check.errStmt", Rows.laid_derrick_check_errStmt), ("derrick/check.errJump", Rows.laid_derrick_check_errJump), ("derrick/check.errEnd", Rows.laid_derrick_check_errEnd), ("derrick/check.errExpr", Rows.laid_derrick_check_errExpr)]
theorem Tryz.own : ownKnob Tryz.prog.godebug = none := by kernel_rfl
theorem gn0 : Tryz.prog.globalNamed "derrick/check.errFile" = some 0 := by kernel_rfl
theorem gn1 : Tryz.prog.globalNamed "derrick/check.errScope" = some 1 := by kernel_rfl
theorem gn2 : Tryz.prog.globalNamed "derrick/check.errStmt" = some 2 := by kernel_rfl
theorem gn3 : Tryz.prog.globalNamed "derrick/check.errJump" = some 3 := by kernel_rfl
theorem gn4 : Tryz.prog.globalNamed "derrick/check.errEnd" = some 4 := by kernel_rfl
theorem gn5 : Tryz.prog.globalNamed "derrick/check.errExpr" = some 5 := by kernel_rfl
theorem gn7 : Tryz.prog.globalNamed "derrick/lex.longestMark" = some 7 := by kernel_rfl
theorem gt0 : (Tryz.prog.globals[0]?).map (·.type) = some 48 := by kernel_rfl
theorem gt1 : (Tryz.prog.globals[1]?).map (·.type) = some 48 := by kernel_rfl
theorem gt2 : (Tryz.prog.globals[2]?).map (·.type) = some 48 := by kernel_rfl
theorem gt3 : (Tryz.prog.globals[3]?).map (·.type) = some 48 := by kernel_rfl
theorem gt4 : (Tryz.prog.globals[4]?).map (·.type) = some 48 := by kernel_rfl
theorem gt5 : (Tryz.prog.globals[5]?).map (·.type) = some 48 := by kernel_rfl
theorem gt7 : (Tryz.prog.globals[7]?).map (·.type) = some 186 := by kernel_rfl
theorem star : "*" ++ "errors.errorString" = "*errors.errorString" := by decide
theorem row244 (u : TypeId) (h : Tryz.prog.typeName? 3 u = some "*errors.errorString") : u = 244 :=
  typeName_ptr_named (nm := "errors.errorString") (by rw [star]; kernel_rfl) (by kernel_rfl) (by decide) u (by rw [star]; exact h)
/-- What one of them holds. -/
theorem ne_of {b o b' o' : Nat} (h : MemPlace.cell b o ≠ MemPlace.cell b' o') (e : b = b') : o ≠ o' := fun q => h (by rw [e, q])
set_option maxRecDepth 100000 in
theorem one_err {W : World} {ps : List MemPlace} (hrows : ∀ b off, MemPlace.cell b off ∈ ps → (∃ c t, W.heap[b]? = some (.cells c t (0, 0))) ∧ ∀ u v, W.cell? ⟨b, off, none⟩ = some (.iface u v) → Value.okWide Tryz.prog W .any 0 u v)
    {nm : String} {g : Nat} {text : List UInt8} {cs : Array Value} {fuel : Nat} {p : List MemPlace}
    (hg : Tryz.prog.globalNamed nm = some g) (hv : W.var? Tryz.prog nm = some cs) (hd : DataW.trod (fun _ => ()) Tryz.prog W 0 (fun _ => true) false fuel 48 cs.toList = some (.iface "*errors.errorString" (.ptr (.agg [.lit (.string text)])), p))
    (hm : cs.size = 1 → MemPlace.cell g 0 ∈ ps) :
    ∃ a s, cs = #[.iface 244 (.pointer (some a))] ∧ W.cell? a = some (.string s) ∧ p = [MemPlace.cell a.block a.off] ∧ ∃ t, W.heap[g]? = some (.cells cs t (0, 0)) := by
  obtain ⟨l⟩ := cs
  obtain ⟨a, s, rfl, hc, _, _, rfl⟩ := errorString_of_trod (P := Tryz.prog) (tp := 244) (te := 263) (ts := 9) Tryz.underlying48 row244 Tryz.underlying244 Tryz.underlying263 rfl rfl Tryz.underlying9 (by kernel_rfl) (by kernel_rfl) hd
    (fun u v e => by
      have e' : l = [.iface u v] := e
      subst e'
      exact (hrows g 0 (hm rfl)).2 u v (by simpa using World.var?_cell hg hv 0))
  obtain ⟨c, t, hh⟩ := (hrows g 0 (hm rfl)).1
  refine ⟨a, s, rfl, hc, by simp [MemPlace.row], t, ?_⟩
  unfold World.var? at hv
  rw [hg] at hv
  simp only [Option.bind_some, hh] at hv
  injection hv with hv
  rw [hh, hv]
theorem tabEq : (Rows.laid_derrick_lex_longestMark : DataW Unit) = Lib.tabData .i8 (tabL.map Int.ofNat) := by kernel_rfl
theorem var_heap {W : World} {nm : String} {g : Nat} {cs : Array Value} (hg : Tryz.prog.globalNamed nm = some g) (hv : W.var? Tryz.prog nm = some cs) {c : Array Value} {t : TypeId} (hh : W.heap[g]? = some (.cells c t (0, 0))) : W.heap[g]? = some (.cells cs t (0, 0)) := by
  unfold World.var? at hv
  rw [hg] at hv
  simp only [Option.bind_some, hh] at hv
  injection hv with hv
  rw [hh, hv]
theorem cell_spot {W : World} {a : Addr} {v : Value} (h : W.cell? a = some v) {c : Array Value} {t : TypeId} (hh : W.heap[a.block]? = some (.cells c t (0, 0))) : a.spot = none ∧ a.off < c.size := by
  unfold World.cell? at h
  rw [hh] at h
  simp only at h
  split at h
  · cases h
  · rename_i hs
    exact ⟨by simpa using hs, lt_of_some h⟩
def sel6 {α : Type} (a0 a1 a2 a3 a4 a5 : α) : Nat → α | 0 => a0 | 1 => a1 | 2 => a2 | 3 => a3 | 4 => a4 | _ => a5
set_option maxRecDepth 100000 in
set_option maxHeartbeats 4000000 in
theorem start_of_laid {W : World} (h : laidMetH Tryz.prog laid8 W) : StartOk W := by
  have h' : laidMet Tryz.prog [("derrick/lex.longestMark", Rows.laid_derrick_lex_longestMark), ("derrick/check.errFile", Rows.laid_derrick_check_errFile), ("derrick/check.errScope", Rows.laid_derrick_check_errScope), ("derrick/check.errStmt", Rows.laid_derrick_check_errStmt), ("derrick/check.errJump", Rows.laid_derrick_check_errJump), ("derrick/check.errEnd", Rows.laid_derrick_check_errEnd), ("derrick/check.errExpr", Rows.laid_derrick_check_errExpr)] W := h.1
  have ht : Lib.TabIs Tryz.prog W "derrick/lex.longestMark" .i8 (tabL.map Int.ofNat) := Lib.tabIs_of_head gn7 gt7 Tryz.underlying186 Tryz.underlying185 (by kernel_rfl) (by kernel_rfl) (by rw [← tabEq]; exact h')
  obtain ⟨ps, ⟨g7, t7, cs7, f7, p7, q7, hg7, ht7, hv7, hd7, ⟨g0, t0, cs0, f0, p0, q0, hg0, ht0, hv0, hd0, ⟨g1, t1, cs1, f1, p1, q1, hg1, ht1, hv1, hd1, ⟨g2, t2, cs2, f2, p2, q2, hg2, ht2, hv2, hd2, ⟨g3, t3, cs3, f3, p3, q3, hg3, ht3, hv3, hd3, ⟨g4, t4, cs4, f4, p4, q4, hg4, ht4, hv4, hd4, ⟨g5, t5, cs5, f5, p5, q5, hg5, ht5, hv5, hd5, hend, e5⟩, e4⟩, e3⟩, e2⟩, e1⟩, e0⟩, e7⟩, hnd, hrows⟩ := h'
  obtain rfl := Option.some.inj (gn7.symm.trans hg7)
  obtain rfl := Option.some.inj (gn0.symm.trans hg0)
  obtain rfl := Option.some.inj (gn1.symm.trans hg1)
  obtain rfl := Option.some.inj (gn2.symm.trans hg2)
  obtain rfl := Option.some.inj (gn3.symm.trans hg3)
  obtain rfl := Option.some.inj (gn4.symm.trans hg4)
  obtain rfl := Option.some.inj (gn5.symm.trans hg5)
  obtain rfl := Option.some.inj (gt0.symm.trans ht0)
  obtain rfl := Option.some.inj (gt1.symm.trans ht1)
  obtain rfl := Option.some.inj (gt2.symm.trans ht2)
  obtain rfl := Option.some.inj (gt3.symm.trans ht3)
  obtain rfl := Option.some.inj (gt4.symm.trans ht4)
  obtain rfl := Option.some.inj (gt5.symm.trans ht5)
  have s7 : cs7.size = 128 := by
    have := hv7.symm.trans ht
    injection this with this
    rw [this]; rfl
  subst e7 e0 e1 e2 e3 e4 e5
  obtain ⟨a0, s0, rfl, hc0, rfl, u0, hh0⟩ := one_err hrows gn0 hv0 hd0 (fun hs => by simp [MemPlace.row, hs])
  obtain ⟨a1, s1, rfl, hc1, rfl, u1, hh1⟩ := one_err hrows gn1 hv1 hd1 (fun hs => by simp [MemPlace.row, hs])
  obtain ⟨a2, s2, rfl, hc2, rfl, u2, hh2⟩ := one_err hrows gn2 hv2 hd2 (fun hs => by simp [MemPlace.row, hs])
  obtain ⟨a3, s3, rfl, hc3, rfl, u3, hh3⟩ := one_err hrows gn3 hv3 hd3 (fun hs => by simp [MemPlace.row, hs])
  obtain ⟨a4, s4, rfl, hc4, rfl, u4, hh4⟩ := one_err hrows gn4 hv4 hd4 (fun hs => by simp [MemPlace.row, hs])
  obtain ⟨a5, s5, rfl, hc5, rfl, u5, hh5⟩ := one_err hrows gn5 hv5 hd5 (fun hs => by simp [MemPlace.row, hs])
  obtain ⟨c0, v0, hb0⟩ := (hrows a0.block a0.off (by simp)).1
  obtain ⟨hs0, ho0⟩ := cell_spot hc0 hb0
  obtain ⟨c1, v1, hb1⟩ := (hrows a1.block a1.off (by simp)).1
  obtain ⟨hs1, ho1⟩ := cell_spot hc1 hb1
  obtain ⟨c2, v2, hb2⟩ := (hrows a2.block a2.off (by simp)).1
  obtain ⟨hs2, ho2⟩ := cell_spot hc2 hb2
  obtain ⟨c3, v3, hb3⟩ := (hrows a3.block a3.off (by simp)).1
  obtain ⟨hs3, ho3⟩ := cell_spot hc3 hb3
  obtain ⟨c4, v4, hb4⟩ := (hrows a4.block a4.off (by simp)).1
  obtain ⟨hs4, ho4⟩ := cell_spot hc4 hb4
  obtain ⟨c5, v5, hb5⟩ := (hrows a5.block a5.off (by simp)).1
  obtain ⟨hs5, ho5⟩ := cell_spot hc5 hb5
  obtain ⟨c7, u7, hh7⟩ := (hrows 7 0 (by simp [MemPlace.row, s7])).1
  have hw7 : W.heap[7]? = some (.cells cs7 u7 (0, 0)) := var_heap gn7 hv7 hh7
  have hsub : ([MemPlace.cell 7 0] ++ ([MemPlace.cell 0 0] ++ [MemPlace.cell a0.block a0.off] ++ ([MemPlace.cell 1 0] ++ [MemPlace.cell a1.block a1.off] ++ ([MemPlace.cell 2 0] ++ [MemPlace.cell a2.block a2.off] ++ ([MemPlace.cell 3 0] ++ [MemPlace.cell a3.block a3.off] ++ ([MemPlace.cell 4 0] ++ [MemPlace.cell a4.block a4.off] ++ ([MemPlace.cell 5 0] ++ [MemPlace.cell a5.block a5.off] ++ ([] : List MemPlace)))))))).Sublist _ :=
    List.Sublist.append (l₁ := [MemPlace.cell 7 0]) (l₂ := MemPlace.row ⟨7, 0, none⟩ cs7.size ++ p7) (List.singleton_sublist.2 (by simp [MemPlace.row, s7])) (List.Sublist.append (List.Sublist.refl _) (List.Sublist.append (List.Sublist.refl _) (List.Sublist.append (List.Sublist.refl _) (List.Sublist.append (List.Sublist.refl _) (List.Sublist.append (List.Sublist.refl _) (List.Sublist.append (List.Sublist.refl _) (List.nil_sublist q5)))))))
  have hnd2 := List.Nodup.sublist hsub hnd
  have hnd3 : [MemPlace.cell 7 0, MemPlace.cell 0 0, .cell a0.block a0.off, .cell 1 0, .cell a1.block a1.off, .cell 2 0, .cell a2.block a2.off, .cell 3 0, .cell a3.block a3.off, .cell 4 0, .cell a4.block a4.off, .cell 5 0, .cell a5.block a5.off].Nodup := hnd2
  have P := List.pairwise_iff_getElem.1 hnd3
  clear hnd hnd2 hnd3 hsub hrows hd0 hd1 hd2 hd3 hd4 hd5 hd7 hend
  refine ⟨sel6 a0 a1 a2 a3 a4 a5, fun n => if n < 6 then sel6 u0 u1 u2 u3 u4 u5 n else if n = 7 then u7 else sel6 v0 v1 v2 v3 v4 v5 (n - 10), ?_, ?_, ?_, ?_, ?_⟩
  · intro g hg
    match g, hg with
    | 0, _ => exact hh0
    | 1, _ => exact hh1
    | 2, _ => exact hh2
    | 3, _ => exact hh3
    | 4, _ => exact hh4
    | 5, _ => exact hh5
  · intro g hg
    match g, hg with
    | 0, _ => exact ⟨hs0, c0, hb0, ho0⟩
    | 1, _ => exact ⟨hs1, c1, hb1, ho1⟩
    | 2, _ => exact ⟨hs2, c2, hb2, ho2⟩
    | 3, _ => exact ⟨hs3, c3, hb3, ho3⟩
    | 4, _ => exact ⟨hs4, c4, hb4, ho4⟩
    | 5, _ => exact ⟨hs5, c5, hb5, ho5⟩
  · refine ⟨cs7, hw7, s7, fun i hi => ?_⟩
    have hlen : (tabL.map Int.ofNat).length = 128 := rfl
    have := ht.cell gn7 i (by omega)
    unfold World.cell? at this
    rw [hw7] at this
    have hil : i < tabL.length := hi
    simpa [List.getD, hil] using this
  · intro g k hg hk hgk
    match g, hg, k, hk with
    | 0, _, 0, _ => exact (hgk rfl).elim
    | 0, _, 1, _ => exact ne_of (P 2 4 (show 2 < 13 from by decide) (show 4 < 13 from by decide) (by decide))
    | 0, _, 2, _ => exact ne_of (P 2 6 (show 2 < 13 from by decide) (show 6 < 13 from by decide) (by decide))
    | 0, _, 3, _ => exact ne_of (P 2 8 (show 2 < 13 from by decide) (show 8 < 13 from by decide) (by decide))
    | 0, _, 4, _ => exact ne_of (P 2 10 (show 2 < 13 from by decide) (show 10 < 13 from by decide) (by decide))
    | 0, _, 5, _ => exact ne_of (P 2 12 (show 2 < 13 from by decide) (show 12 < 13 from by decide) (by decide))
    | 1, _, 0, _ => exact fun e q => ne_of (P 2 4 (show 2 < 13 from by decide) (show 4 < 13 from by decide) (by decide)) e.symm q.symm
    | 1, _, 1, _ => exact (hgk rfl).elim
    | 1, _, 2, _ => exact ne_of (P 4 6 (show 4 < 13 from by decide) (show 6 < 13 from by decide) (by decide))
    | 1, _, 3, _ => exact ne_of (P 4 8 (show 4 < 13 from by decide) (show 8 < 13 from by decide) (by decide))
    | 1, _, 4, _ => exact ne_of (P 4 10 (show 4 < 13 from by decide) (show 10 < 13 from by decide) (by decide))
    | 1, _, 5, _ => exact ne_of (P 4 12 (show 4 < 13 from by decide) (show 12 < 13 from by decide) (by decide))
    | 2, _, 0, _ => exact fun e q => ne_of (P 2 6 (show 2 < 13 from by decide) (show 6 < 13 from by decide) (by decide)) e.symm q.symm
    | 2, _, 1, _ => exact fun e q => ne_of (P 4 6 (show 4 < 13 from by decide) (show 6 < 13 from by decide) (by decide)) e.symm q.symm
    | 2, _, 2, _ => exact (hgk rfl).elim
    | 2, _, 3, _ => exact ne_of (P 6 8 (show 6 < 13 from by decide) (show 8 < 13 from by decide) (by decide))
    | 2, _, 4, _ => exact ne_of (P 6 10 (show 6 < 13 from by decide) (show 10 < 13 from by decide) (by decide))
    | 2, _, 5, _ => exact ne_of (P 6 12 (show 6 < 13 from by decide) (show 12 < 13 from by decide) (by decide))
    | 3, _, 0, _ => exact fun e q => ne_of (P 2 8 (show 2 < 13 from by decide) (show 8 < 13 from by decide) (by decide)) e.symm q.symm
    | 3, _, 1, _ => exact fun e q => ne_of (P 4 8 (show 4 < 13 from by decide) (show 8 < 13 from by decide) (by decide)) e.symm q.symm
    | 3, _, 2, _ => exact fun e q => ne_of (P 6 8 (show 6 < 13 from by decide) (show 8 < 13 from by decide) (by decide)) e.symm q.symm
    | 3, _, 3, _ => exact (hgk rfl).elim
    | 3, _, 4, _ => exact ne_of (P 8 10 (show 8 < 13 from by decide) (show 10 < 13 from by decide) (by decide))
    | 3, _, 5, _ => exact ne_of (P 8 12 (show 8 < 13 from by decide) (show 12 < 13 from by decide) (by decide))
    | 4, _, 0, _ => exact fun e q => ne_of (P 2 10 (show 2 < 13 from by decide) (show 10 < 13 from by decide) (by decide)) e.symm q.symm
    | 4, _, 1, _ => exact fun e q => ne_of (P 4 10 (show 4 < 13 from by decide) (show 10 < 13 from by decide) (by decide)) e.symm q.symm
    | 4, _, 2, _ => exact fun e q => ne_of (P 6 10 (show 6 < 13 from by decide) (show 10 < 13 from by decide) (by decide)) e.symm q.symm
    | 4, _, 3, _ => exact fun e q => ne_of (P 8 10 (show 8 < 13 from by decide) (show 10 < 13 from by decide) (by decide)) e.symm q.symm
    | 4, _, 4, _ => exact (hgk rfl).elim
    | 4, _, 5, _ => exact ne_of (P 10 12 (show 10 < 13 from by decide) (show 12 < 13 from by decide) (by decide))
    | 5, _, 0, _ => exact fun e q => ne_of (P 2 12 (show 2 < 13 from by decide) (show 12 < 13 from by decide) (by decide)) e.symm q.symm
    | 5, _, 1, _ => exact fun e q => ne_of (P 4 12 (show 4 < 13 from by decide) (show 12 < 13 from by decide) (by decide)) e.symm q.symm
    | 5, _, 2, _ => exact fun e q => ne_of (P 6 12 (show 6 < 13 from by decide) (show 12 < 13 from by decide) (by decide)) e.symm q.symm
    | 5, _, 3, _ => exact fun e q => ne_of (P 8 12 (show 8 < 13 from by decide) (show 12 < 13 from by decide) (by decide)) e.symm q.symm
    | 5, _, 4, _ => exact fun e q => ne_of (P 10 12 (show 10 < 13 from by decide) (show 12 < 13 from by decide) (by decide)) e.symm q.symm
    | 5, _, 5, _ => exact (hgk rfl).elim
  · intro g k hg hk h6
    match g, hg, k, hk with
    | 0, _, 0, _ => exact fun e q => ne_of (P 1 2 (show 1 < 13 from by decide) (show 2 < 13 from by decide) (by decide)) e.symm q.symm
    | 0, _, 1, _ => exact ne_of (P 2 3 (show 2 < 13 from by decide) (show 3 < 13 from by decide) (by decide))
    | 0, _, 2, _ => exact ne_of (P 2 5 (show 2 < 13 from by decide) (show 5 < 13 from by decide) (by decide))
    | 0, _, 3, _ => exact ne_of (P 2 7 (show 2 < 13 from by decide) (show 7 < 13 from by decide) (by decide))
    | 0, _, 4, _ => exact ne_of (P 2 9 (show 2 < 13 from by decide) (show 9 < 13 from by decide) (by decide))
    | 0, _, 5, _ => exact ne_of (P 2 11 (show 2 < 13 from by decide) (show 11 < 13 from by decide) (by decide))
    | 0, _, 6, _ => exact (h6 rfl).elim
    | 0, _, 7, _ => exact fun e q => ne_of (P 0 2 (show 0 < 13 from by decide) (show 2 < 13 from by decide) (by decide)) e.symm q.symm
    | 1, _, 0, _ => exact fun e q => ne_of (P 1 4 (show 1 < 13 from by decide) (show 4 < 13 from by decide) (by decide)) e.symm q.symm
    | 1, _, 1, _ => exact fun e q => ne_of (P 3 4 (show 3 < 13 from by decide) (show 4 < 13 from by decide) (by decide)) e.symm q.symm
    | 1, _, 2, _ => exact ne_of (P 4 5 (show 4 < 13 from by decide) (show 5 < 13 from by decide) (by decide))
    | 1, _, 3, _ => exact ne_of (P 4 7 (show 4 < 13 from by decide) (show 7 < 13 from by decide) (by decide))
    | 1, _, 4, _ => exact ne_of (P 4 9 (show 4 < 13 from by decide) (show 9 < 13 from by decide) (by decide))
    | 1, _, 5, _ => exact ne_of (P 4 11 (show 4 < 13 from by decide) (show 11 < 13 from by decide) (by decide))
    | 1, _, 6, _ => exact (h6 rfl).elim
    | 1, _, 7, _ => exact fun e q => ne_of (P 0 4 (show 0 < 13 from by decide) (show 4 < 13 from by decide) (by decide)) e.symm q.symm
    | 2, _, 0, _ => exact fun e q => ne_of (P 1 6 (show 1 < 13 from by decide) (show 6 < 13 from by decide) (by decide)) e.symm q.symm
    | 2, _, 1, _ => exact fun e q => ne_of (P 3 6 (show 3 < 13 from by decide) (show 6 < 13 from by decide) (by decide)) e.symm q.symm
    | 2, _, 2, _ => exact fun e q => ne_of (P 5 6 (show 5 < 13 from by decide) (show 6 < 13 from by decide) (by decide)) e.symm q.symm
    | 2, _, 3, _ => exact ne_of (P 6 7 (show 6 < 13 from by decide) (show 7 < 13 from by decide) (by decide))
    | 2, _, 4, _ => exact ne_of (P 6 9 (show 6 < 13 from by decide) (show 9 < 13 from by decide) (by decide))
    | 2, _, 5, _ => exact ne_of (P 6 11 (show 6 < 13 from by decide) (show 11 < 13 from by decide) (by decide))
    | 2, _, 6, _ => exact (h6 rfl).elim
    | 2, _, 7, _ => exact fun e q => ne_of (P 0 6 (show 0 < 13 from by decide) (show 6 < 13 from by decide) (by decide)) e.symm q.symm
    | 3, _, 0, _ => exact fun e q => ne_of (P 1 8 (show 1 < 13 from by decide) (show 8 < 13 from by decide) (by decide)) e.symm q.symm
    | 3, _, 1, _ => exact fun e q => ne_of (P 3 8 (show 3 < 13 from by decide) (show 8 < 13 from by decide) (by decide)) e.symm q.symm
    | 3, _, 2, _ => exact fun e q => ne_of (P 5 8 (show 5 < 13 from by decide) (show 8 < 13 from by decide) (by decide)) e.symm q.symm
    | 3, _, 3, _ => exact fun e q => ne_of (P 7 8 (show 7 < 13 from by decide) (show 8 < 13 from by decide) (by decide)) e.symm q.symm
    | 3, _, 4, _ => exact ne_of (P 8 9 (show 8 < 13 from by decide) (show 9 < 13 from by decide) (by decide))
    | 3, _, 5, _ => exact ne_of (P 8 11 (show 8 < 13 from by decide) (show 11 < 13 from by decide) (by decide))
    | 3, _, 6, _ => exact (h6 rfl).elim
    | 3, _, 7, _ => exact fun e q => ne_of (P 0 8 (show 0 < 13 from by decide) (show 8 < 13 from by decide) (by decide)) e.symm q.symm
    | 4, _, 0, _ => exact fun e q => ne_of (P 1 10 (show 1 < 13 from by decide) (show 10 < 13 from by decide) (by decide)) e.symm q.symm
    | 4, _, 1, _ => exact fun e q => ne_of (P 3 10 (show 3 < 13 from by decide) (show 10 < 13 from by decide) (by decide)) e.symm q.symm
    | 4, _, 2, _ => exact fun e q => ne_of (P 5 10 (show 5 < 13 from by decide) (show 10 < 13 from by decide) (by decide)) e.symm q.symm
    | 4, _, 3, _ => exact fun e q => ne_of (P 7 10 (show 7 < 13 from by decide) (show 10 < 13 from by decide) (by decide)) e.symm q.symm
    | 4, _, 4, _ => exact fun e q => ne_of (P 9 10 (show 9 < 13 from by decide) (show 10 < 13 from by decide) (by decide)) e.symm q.symm
    | 4, _, 5, _ => exact ne_of (P 10 11 (show 10 < 13 from by decide) (show 11 < 13 from by decide) (by decide))
    | 4, _, 6, _ => exact (h6 rfl).elim
    | 4, _, 7, _ => exact fun e q => ne_of (P 0 10 (show 0 < 13 from by decide) (show 10 < 13 from by decide) (by decide)) e.symm q.symm
    | 5, _, 0, _ => exact fun e q => ne_of (P 1 12 (show 1 < 13 from by decide) (show 12 < 13 from by decide) (by decide)) e.symm q.symm
    | 5, _, 1, _ => exact fun e q => ne_of (P 3 12 (show 3 < 13 from by decide) (show 12 < 13 from by decide) (by decide)) e.symm q.symm
    | 5, _, 2, _ => exact fun e q => ne_of (P 5 12 (show 5 < 13 from by decide) (show 12 < 13 from by decide) (by decide)) e.symm q.symm
    | 5, _, 3, _ => exact fun e q => ne_of (P 7 12 (show 7 < 13 from by decide) (show 12 < 13 from by decide) (by decide)) e.symm q.symm
    | 5, _, 4, _ => exact fun e q => ne_of (P 9 12 (show 9 < 13 from by decide) (show 12 < 13 from by decide) (by decide)) e.symm q.symm
    | 5, _, 5, _ => exact fun e q => ne_of (P 11 12 (show 11 < 13 from by decide) (show 12 < 13 from by decide) (by decide)) e.symm q.symm
    | 5, _, 6, _ => exact (h6 rfl).elim
    | 5, _, 7, _ => exact fun e q => ne_of (P 0 12 (show 0 < 13 from by decide) (show 12 < 13 from by decide) (by decide)) e.symm q.symm
end Go.Proofs.YtaembckojgfnlaaGreatDoor
