/- The two heaps side by side; same. -/
import Derived.Test.YtjblmincldaklaaDoorMf
namespace Go.Proofs.YtjblmincldaklaaDoor
open Go.RowKit Go.Proofs.YtjblmincldaklaaDoor.Hp
structure Ps (w0 : World) (B : HB) (pb base : Nat) : Prop where
  mem : ∀ j, B.mem j → w0.heap.size ≤ j ∧ j < base
  pb1 : w0.heap.size ≤ pb
  pb2 : pb < base
  npb : ¬ B.mem pb
  two : 2 ≤ w0.heap.size
structure Pl (w0 w : World) (B : HB) (pb base N : Nat) (A : Nat → Kd) (wd : Nat → Int) (L : List Rb) (lv : Value) : Prop where
  at_ : At w B N (hrOf A wd)
  inv : Inv N A
  vars : Vars w
  ref : RefAt w pb base N L lv
  mt : Match A L
  far : Fr (fun _ => False) w0 w
  le : base ≤ w.heap.size
  wrd : ∀ b ∈ L, base ≤ b.gw ∧ b.gw < w.heap.size ∧ lv.ownBlock ≠ some b.gw ∧ Row w b.gw b.room (fun x => .int .i64 (wd (b.at_ + x)))
  dis : L.Pairwise (fun a b => a.gw ≠ b.gw)
theorem Pl.quiet {w0 w w' : World} {B : HB} {pb base N : Nat} {A : Nat → Kd} {wd : Nat → Int} {L : List Rb} {lv : Value} (h : Pl w0 w B pb base N A wd L lv) (k : Fr (fun _ => False) w w') : Pl w0 w' B pb base N A wd L lv :=
  ⟨h.at_.quiet k, h.inv, h.vars.fr k id id, h.ref.quiet k, h.mt, h.far.trans k, Nat.le_trans h.le k.size, fun b hb => by
    obtain ⟨h1, h2, h3, h4⟩ := h.wrd b hb
    exact ⟨h1, Nat.lt_of_lt_of_le h2 k.size, h3, h4.fr k id⟩, h.dis⟩
theorem Load_out (B : HB) (n : Nat) (A : Nat → Kd) (wd : Nat → Int) (x : Nat) (w : World) (h : At w B n (hrOf A wd)) (hI : Inv n A) :
    Calls Tryd.prog 30 #[B.ptr, .int .i64 x, .int .i64 (roomN A x)] w fun e w' => e = .returned (.tuple #[.int .i64 0, .bool false]) ∧ Fr (fun _ => False) w w' := by
  refine (Load_any B n (hrOf A wd) x (roomN A x) w h (fine_of wd hI) (fits_of wd hI)).mono ?_
  rintro e w' ⟨rfl, hF⟩
  refine ⟨?_, hF⟩
  rw [loadV_neg]
  unfold inB
  rw [roomR_I wd hI, roomI, if_pos (by omega)]
  simp
theorem news2 {w : World} (H : Nat) (hH : w.heap.size = H) (x : Int) (t : Nat) : ∀ j u, ([.int .i64 x] : List Value)[j]? = some u → (w.alloc (.cells #[.int .i64 x] t)).cell? ((⟨H, 0, none⟩ : Addr).add j) = some u := by
  subst hH
  intro j u hj
  match j, hj with
  | 0, hj => simp at hj; subst hj; simp [Addr.add]
theorem one1r (x : Int) : ∀ u ∈ ([.int .i64 x] : List Value), u.oneCell' = true := by
  intro u hu; simp at hu; subst hu; rfl
theorem cell_q {w w' : World} {b i : Nat} {u : Value} (k : Fr (fun _ => False) w w') (hb : b < w.heap.size) (h : w.cell? ⟨b, i, none⟩ = some u) : w'.cell? ⟨b, i, none⟩ = some u :=
  (World.cell?_of_block (w := w) (a := ⟨b, i, none⟩) (k.block b hb id)).trans h
theorem own_ints {w : World} {base n cp : Nat} {ao : Option Addr} {ys : List Nat} (h : w.ownsRow base 3 1 (.slice ao n cp) n (ys.map nv)) : ∀ j, j < n → ∃ b off, ao = some ⟨b, off, none⟩ ∧ w.cell? ⟨b, off + j, none⟩ = some (.int .i64 ((ys.getD j 0 : Nat) : Int)) := by
  intro j hj
  obtain ⟨ao2, cp2, e, hg⟩ := own_form h
  injection e with e1 e2 e3
  subst e1
  obtain ⟨g, rfl⟩ := hg (by omega)
  refine ⟨g, 0, rfl, ?_⟩
  have hl : ys.length = n := by have := h.1; simpa using this
  rw [Nat.zero_add, h.cellAt j (by omega), List.getElem?_map, List.getElem?_eq_getElem (by omega)]
  simp [nv, List.getElem?_eq_getElem (show j < ys.length by omega)]
end Go.Proofs.YtjblmincldaklaaDoor
