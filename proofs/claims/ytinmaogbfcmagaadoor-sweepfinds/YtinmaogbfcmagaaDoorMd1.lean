/- What made holds while it works. -/
import Derived.Test.YtinmaogbfcmagaaDoorMd0
namespace Go.Proofs.YtinmaogbfcmagaaDoor
open Go.RowKit Go.Proofs.YtinmaogbfcmagaaDoor.Hp
theorem room_two {n : Nat} {A : Nat → Kd} (hI : Inv n A) {x : Nat} (h : roomN A x ≠ 0) : 2 ≤ roomN A x := by
  unfold roomN at *
  cases e : A (x / 64) with
  | free => rw [e] at h; exact absurd rfl h
  | tail => rw [e] at h; exact absurd rfl h
  | cls c u =>
    rw [e] at h
    simp only [roomK] at h ⊢
    split at h
    · rename_i hc
      rw [if_pos hc, Nat.pow_succ]
      have : 0 < 2 ^ c := Nat.pow_pos (by decide)
      omega
    · exact absurd rfl h
  | head k =>
    rw [e] at h
    have := (hI.head _ _ e).1
    simp only [roomK] at h ⊢
    split at h
    · rename_i hc
      rw [if_pos hc]; omega
    · exact absurd rfl h
/-- The blocks to be made lie in memory. -/
def RawsAt (w : World) (a0 : Option Addr) (rs : List Rw) : Prop := ∀ i r, rs[i]? = some r → ∃ b off, a0 = some ⟨b, off, none⟩ ∧ b < w.heap.size ∧
  w.cell? ⟨b, off + i * 4, none⟩ = some (.int .i64 r.kd) ∧ w.cell? ⟨b, off + i * 4 + 1, none⟩ = some (.int .i64 r.sz) ∧ w.cell? ⟨b, off + i * 4 + 2, none⟩ = some (.int .i64 r.ms) ∧ w.cell? ⟨b, off + i * 4 + 3, none⟩ = some (.slice r.wa r.W.length r.wc) ∧
  r.W.length ≤ 100 ∧ (∀ v ∈ r.W, -9223372036854775808 ≤ v ∧ v < 9223372036854775808) ∧ ∀ j, j < r.W.length → ∃ b' off', r.wa = some ⟨b', off', none⟩ ∧ b' < w.heap.size ∧ w.cell? ⟨b', off' + j, none⟩ = some (.int .i64 (r.W.getD j 0))
theorem cell_far {w w' : World} {b i : Nat} {u : Value} (k : Fr (fun _ => False) w w') (hb : b < w.heap.size) (h : w.cell? ⟨b, i, none⟩ = some u) : w'.cell? ⟨b, i, none⟩ = some u :=
  (World.cell?_of_block (w := w) (a := ⟨b, i, none⟩) (k.block b hb id)).trans h
theorem RawsAt.far {w w' : World} {a0 : Option Addr} {rs : List Rw} (h : RawsAt w a0 rs) (k : Fr (fun _ => False) w w') : RawsAt w' a0 rs := by
  intro i r hr
  obtain ⟨b, off, h1, h2, h3, h4, h5, h6, h7, h8, h9⟩ := h i r hr
  refine ⟨b, off, h1, Nat.lt_of_lt_of_le h2 k.size, cell_far k h2 h3, cell_far k h2 h4, cell_far k h2 h5, cell_far k h2 h6, h7, h8, fun j hj => ?_⟩
  obtain ⟨b', off', e1, e2, e3⟩ := h9 j hj
  exact ⟨b', off', e1, Nat.lt_of_lt_of_le e2 k.size, cell_far k e2 e3⟩
structure M1 (w0 w : World) (B : HB) (pb base : Nat) (rs : List Rw) (A : Nat → Kd) (L : List Rb) (lv : Value) (l : List (Nat × Rw)) (vl : Value) : Prop where
  mm : Mm w0 w B pb base 128 A (fun _ => 0) L lv
  ch : Mch rs A l
  own : w.ownsRow base 37 5 vl l.length (lbAll (l.map lbO))
  sep : ∀ g, vl.ownBlock = some g → lv.ownBlock ≠ some g
  ll : L.length = l.length
theorem clear_zero (a r : Nat) : clearW (fun _ => 0) a r = fun _ => 0 := by
  funext x
  unfold clearW
  split <;> rfl
theorem M1.quiet {w0 w w' : World} {B : HB} {pb base : Nat} {rs : List Rw} {A : Nat → Kd} {L : List Rb} {lv : Value} {l : List (Nat × Rw)} {vl : Value} (h : M1 w0 w B pb base rs A L lv l vl) (k : Fr (fun _ => False) w w') : M1 w0 w' B pb base rs A L lv l vl :=
  ⟨h.mm.quiet k, h.ch, own_fr h.own k (fun _ x => x.elim), h.sep, h.ll⟩
/-- Behind two refusals. -/
theorem M1.no {w0 w w1 : World} {B : HB} {pb base : Nat} {rs : List Rw} {A : Nat → Kd} {L : List Rb} {lv : Value} {l : List (Nat × Rw)} {vl : Value} {r : Rw} (hS : Ps w0 B pb base) (h : M1 w0 w B pb base rs A L lv l vl) (hF : Fr B.mem w w1) (hV : Vars w1) (hA : At w1 B 128 (hrOf A (fun _ => 0))) (hn : NoPlace 128 A (r.W.length + 1)) : M1 w0 w1 B pb base (rs ++ [r]) A L lv l vl :=
  ⟨h.mm.heap hS hF hV hA, .no _ _ _ _ h.ch hn, own_fr h.own hF (fun j hj => (hS.mem j hj).2), h.sep, h.ll⟩
/-- Behind two places that were had, ahead of the append. -/
theorem M1.goes {w0 w w1 w2 : World} {B : HB} {pb base a : Nat} {rs : List Rw} {A A' : Nat → Kd} {L : List Rb} {lv : Value} {l : List (Nat × Rw)} {vl : Value} {m : Nat} (hS : Ps w0 B pb base) (h : M1 w0 w B pb base rs A L lv l vl) (g : Goes 128 A m a A') (hm : m ≤ 16448)
    (hF : Fr B.mem w w1) (hV : Vars w1) (hA : At w1 B 128 (hrOf A' (clearW (fun _ => 0) a (roomOfM m)))) {e : Ending} (hP : AddP w1 pb base 128 a (roomOfM m) L e w2) :
    ∃ L' lv', Mm w0 w2 B pb base 128 A' (fun _ => 0) L' lv' ∧ w2.ownsRow base 37 5 vl l.length (lbAll (l.map lbO)) ∧ (∀ g, vl.ownBlock = some g → lv'.ownBlock ≠ some g) ∧ L'.length = l.length + 1 ∧ Fr (fun k => B.mem k ∨ k = pb) w w2 := by
  rw [clear_zero] at hA
  obtain ⟨gw, lv', h1, h2, h3⟩ := h.mm.alloc hS g hm hF hV hA hP
  have hpb := hS.pb2
  refine ⟨_, lv', h1, own_fr (own_fr h.own hF (fun j hj => (hS.mem j hj).2)) h3 (fun j hj => by omega), fun g' hg e => ?_, by rw [ins_len, h.ll], (hF.mono fun _ x => .inl x).trans (h3.mono fun _ x => .inr x)⟩
  have e1 := h2 g' e
  have e2 := (h.own.lt g' hg).2
  have := hF.size
  omega
/-- Behind the append. -/
theorem M1.put {w0 w w1 : World} {B : HB} {pb base a g cap : Nat} {rs : List Rw} {A A' : Nat → Kd} {L L' : List Rb} {lv lv' : Value} {l : List (Nat × Rw)} {ao : Option Addr} {cp : Nat} {r : Rw} {w9 : World} (hS : Ps w0 B pb base) (h : M1 w0 w9 B pb base rs A L lv l (.slice ao l.length cp)) (gg : Goes 128 A (r.W.length + 1) a A')
    (hm : Mm w0 w B pb base 128 A' (fun _ => 0) L' lv') (hs : ∀ g, (Value.slice ao l.length cp).ownBlock = some g → lv'.ownBlock ≠ some g) (hl : L'.length = l.length + 1) (ho : w.ownsRow base 37 5 (.slice ao l.length cp) l.length (lbAll (l.map lbO))) (o : Obj)
    (ho1 : w1.ownsRow base 37 5 (.slice (some ⟨g, 0, none⟩) (l.length + 1) cap) (l.length + 1) (lbAll (l.map lbO) ++ lbCells (lbO (a, r)))) (hg : (w.alloc o).grownBy w1 (Value.slice ao l.length cp).ownBlock) (hat : (Value.slice ao l.length cp).ownBlock = some g ∨ g = (w.alloc o).heap.size) :
    M1 w0 w1 B pb base (rs ++ [r]) A' L' lv' (l ++ [(a, r)]) (.slice (some ⟨g, 0, none⟩) (l.length + 1) cap) := by
  have hF : Fr (fun j => some j = (Value.slice ao l.length cp).ownBlock) w w1 := ((Fr.refl _ w).alloc o).trans (Fr.grown hg)
  refine ⟨hm.beside hS hF fun k hk => ⟨(ho.lt k hk.symm).1, hs k hk.symm⟩, .put _ _ _ _ _ _ h.ch gg, ?_, fun g' hg' e => ?_, by rw [hl, List.length_append]; rfl⟩
  · rw [List.length_append, List.map_append]
    have : lbAll (l.map lbO ++ [(a, r)].map lbO) = lbAll (l.map lbO) ++ lbCells (lbO (a, r)) := by simp [lbAll]
    rw [this]
    exact ho1
  · have eg : g = g' := by simpa [Value.ownBlock] using hg'
    rcases hat with h1 | h1
    · exact hs g' (by rw [h1, eg]) e
    · have := (hm.ref.own.lt g' e).2
      simp at h1
      omega
def finL (A : Nat → Kd) (l : List (Nat × Rw)) (gw : Nat → Nat) (j : Nat) : Lb :=
  ⟨adO l j, if hdO l j = 0 then 0 else (rwO l j).kd, if hdO l j = 0 then 0 else (rwO l j).sz, (rwO l j).ms, some ⟨gw j, 0, none⟩, roomN A (adO l j) - 1, roomN A (adO l j) - 1⟩
/-- The block i with its header's parts as they are told, its words not yet. -/
def midL (l : List (Nat × Rw)) (j : Nat) : Lb :=
  ⟨adO l j, if hdO l j = 0 then 0 else (rwO l j).kd, if hdO l j = 0 then 0 else (rwO l j).sz, (rwO l j).ms, (rwO l j).wa, (rwO l j).W.length, (rwO l j).wc⟩
def Fto (A : Nat → Kd) (l : List (Nat × Rw)) (gw : Nat → Nat) (i : Nat) (j : Nat) : Lb := if j < i then finL A l gw j else iniL l j
structure M3 (w0 w : World) (B : HB) (pb base : Nat) (A : Nat → Kd) (L : List Rb) (lv : Value) (l : List (Nat × Rw)) (gl : Nat) (F : Nat → Lb) (gw : Nat → Nat) (i k : Nat) (wd : Nat → Int) : Prop where
  mm : Mm w0 w B pb base 128 A wd L lv
  row : Row w gl (5 * l.length) (lcell F)
  wds : Wds A l wd (Gto l i k)
  ws : ∀ j, j < i → base ≤ gw j ∧ gw j ≠ gl ∧ lv.ownBlock ≠ some (gw j) ∧ Row w (gw j) (roomN A (adO l j) - 1) (fun q => .int .i64 (finO l j (q + 1)))
  gl1 : base ≤ gl
  gl2 : lv.ownBlock ≠ some gl
section
variable {w0 w w' : World} {B : HB} {pb base : Nat} {A : Nat → Kd} {L : List Rb} {lv : Value} {l : List (Nat × Rw)} {gl : Nat} {F : Nat → Lb} {gw : Nat → Nat} {i k : Nat} {wd : Nat → Int}
theorem M3.quiet (h : M3 w0 w B pb base A L lv l gl F gw i k wd) (q : Fr (fun _ => False) w w') : M3 w0 w' B pb base A L lv l gl F gw i k wd :=
  ⟨h.mm.quiet q, h.row.fr q id, h.wds, fun j hj => ⟨(h.ws j hj).1, (h.ws j hj).2.1, (h.ws j hj).2.2.1, (h.ws j hj).2.2.2.fr q id⟩, h.gl1, h.gl2⟩
/-- Behind a word that was stored. -/
theorem M3.store (hS : Ps w0 B pb base) (hB : Bk 128 l.length (adO l) (fun _ => false) A) (h : M3 w0 w B pb base A L lv l gl F gw i k wd) (hi : i < l.length) (hk : k < roomN A (adO l i)) (hF : Fr B.mem w w') (hA : At w' B 128 (hrOf A (upd wd (adO l i + k) (finO l i k)))) :
    M3 w0 w' B pb base A L lv l gl F gw i (k + 1) (upd wd (adO l i + k) (finO l i k)) := by
  have hn : ∀ x, base ≤ x → ¬ B.mem x := fun x hx hm => by have := (hS.mem x hm).2; omega
  have h2 := hS.two
  exact ⟨h.mm.heap hS hF (h.mm.vars.fr hF (fun x => by have := (hS.mem 0 x).1; omega) (fun x => by have := (hS.mem 1 x).1; omega)) hA, h.row.fr hF (hn gl h.gl1), h.wds.store hB hi hk, fun j hj => ⟨(h.ws j hj).1, (h.ws j hj).2.1, (h.ws j hj).2.2.1, (h.ws j hj).2.2.2.fr hF (hn _ (h.ws j hj).1)⟩, h.gl1, h.gl2⟩
/-- Behind a store into the list of blocks. -/
theorem M3.cell (hS : Ps w0 B pb base) (h : M3 w0 w B pb base A L lv l gl F gw i k wd) (x j : Nat) (hx : x < l.length) (hj : j < 5) (b : Lb) (v : Value) (hb : ∀ t, t < 5 → (lbCells b).getD t undef = if t = j then v else (lbCells (F x)).getD t undef) :
    M3 w0 (w.setCell ⟨gl, x * 5 + j, none⟩ v) B pb base A L lv l gl (upd F x b) gw i k wd := by
  have q : Fr (fun y => y = gl) w (w.setCell ⟨gl, x * 5 + j, none⟩ v) := (Fr.refl (fun y => y = gl) w).setCell (p := ⟨gl, x * 5 + j, none⟩) rfl _
  exact ⟨h.mm.beside hS q (fun y hy => by rw [hy]; exact ⟨h.gl1, h.gl2⟩), (h.row.set (x * 5 + j) v (by omega)).ext fun y _ => lcell_set F x j hj b v hb y, h.wds, fun j hj => ⟨(h.ws j hj).1, (h.ws j hj).2.1, (h.ws j hj).2.2.1, (h.ws j hj).2.2.2.fr q (h.ws j hj).2.1⟩, h.gl1, h.gl2⟩
/-- Behind a store beside all of it. -/
theorem M3.beside (hS : Ps w0 B pb base) (h : M3 w0 w B pb base A L lv l gl F gw i k wd) {x : Nat} (hx1 : base ≤ x) (hx2 : x ≠ gl) (hx3 : lv.ownBlock ≠ some x) (hx4 : ∀ j, j < i → gw j ≠ x) (q : Fr (fun y => y = x) w w') : M3 w0 w' B pb base A L lv l gl F gw i k wd :=
  ⟨h.mm.beside hS q (fun y hy => by rw [hy]; exact ⟨hx1, hx3⟩), h.row.fr q (fun e => hx2 e.symm), h.wds, fun j hj => ⟨(h.ws j hj).1, (h.ws j hj).2.1, (h.ws j hj).2.2.1, (h.ws j hj).2.2.2.fr q (hx4 j hj)⟩, h.gl1, h.gl2⟩
theorem M3.re {F' : Nat → Lb} (h : M3 w0 w B pb base A L lv l gl F gw i k wd) (e : ∀ j, j < l.length → F j = F' j) : M3 w0 w B pb base A L lv l gl F' gw i k wd :=
  ⟨h.mm, h.row.ext fun x hx => by unfold lcell; rw [e _ (by omega)], h.wds, h.ws, h.gl1, h.gl2⟩
/-- Behind the words of block i. -/
theorem M3.next (h : M3 w0 w B pb base A L lv l gl F gw i ((rwO l i).W.length + 1) wd) {gx : Nat} (hx1 : base ≤ gx) (hx2 : gx ≠ gl) (hx3 : lv.ownBlock ≠ some gx) (hr : Row w gx (roomN A (adO l i) - 1) (fun q => .int .i64 (finO l i (q + 1)))) :
    M3 w0 w B pb base A L lv l gl F (upd gw i gx) (i + 1) 0 wd := by
  refine ⟨h.mm, h.row, h.wds.next, fun j hj => ?_, h.gl1, h.gl2⟩
  by_cases e : j = i
  · subst e; rw [upd_same]; exact ⟨hx1, hx2, hx3, hr⟩
  · rw [upd_ne _ _ e]; exact h.ws j (by omega)
theorem M3.cells (h : M3 w0 w B pb base A L lv l gl F gw i k wd) (x : Nat) (hx : x < l.length) : w.cell? ⟨gl, x * 5, none⟩ = some (.int .i64 (F x).at_) ∧ w.cell? ⟨gl, x * 5 + 1, none⟩ = some (.int .i64 (F x).kd) ∧ w.cell? ⟨gl, x * 5 + 2, none⟩ = some (.int .i64 (F x).sz) ∧ w.cell? ⟨gl, x * 5 + 3, none⟩ = some (.int .i64 (F x).ms) ∧ w.cell? ⟨gl, x * 5 + 4, none⟩ = some (.slice (F x).wa (F x).wn (F x).wc) ∧ ∀ j, j < 5 → w.frozen? ⟨gl, x * 5 + j, none⟩ = false := by
  have c : ∀ j, j < 5 → w.cell? ⟨gl, x * 5 + j, none⟩ = some ((lbCells (F x)).getD j undef) := fun j hj => by rw [(h.row (x * 5 + j) (by omega)).1, lcell_at _ _ _ hj]
  exact ⟨c 0 (by omega), c 1 (by omega), c 2 (by omega), c 3 (by omega), c 4 (by omega), fun j hj => (h.row (x * 5 + j) (by omega)).2⟩
end
theorem fto_next (A : Nat → Kd) (l : List (Nat × Rw)) (gw : Nat → Nat) (i gx j : Nat) : upd (upd (Fto A l gw i) i (midL l i)) i ⟨adO l i, if hdO l i = 0 then 0 else (rwO l i).kd, if hdO l i = 0 then 0 else (rwO l i).sz, (rwO l i).ms, some ⟨gx, 0, none⟩, roomN A (adO l i) - 1, roomN A (adO l i) - 1⟩ j = Fto A l (upd gw i gx) (i + 1) j := by
  by_cases e : j = i
  · subst e
    rw [upd_same, Fto, if_pos (show j < j + 1 by omega), finL, upd_same]
  · rw [upd_ne _ _ e, upd_ne _ _ e]
    unfold Fto
    by_cases e2 : j < i
    · rw [if_pos e2, if_pos (by omega), finL, finL, upd_ne _ _ e]
    · rw [if_neg e2, if_neg (by omega)]
theorem M1.start {w0 w : World} {B : HB} {pb base : Nat} {rs : List Rw} {A : Nat → Kd} {L : List Rb} {lv : Value} {l : List (Nat × Rw)} {ao : Option Addr} {cp : Nat} (h : M1 w0 w B pb base rs A L lv l (.slice ao l.length cp)) :
    ∃ gl, (0 < l.length → ao = some ⟨gl, 0, none⟩) ∧ gl ≤ w.heap.size ∧ M3 w0 w B pb base A L lv l gl (Fto A l (fun _ => 0) 0) (fun _ => 0) 0 0 (fun _ => 0) := by
  have hle := h.mm.le
  by_cases e : 0 < l.length
  · obtain ⟨ao', cp', e1, hg⟩ := own_form h.own
    cases e1
    obtain ⟨g, rfl⟩ := hg e
    obtain ⟨_, h1, h2, h3⟩ := own_row h.own
    refine ⟨g, fun _ => rfl, by omega, h.mm, h3.ext fun i _ => ?_, Wds.zero A l, fun j hj => by omega, h1, h.sep g rfl⟩
    unfold lcell Fto
    rw [if_neg (by omega)]
  · refine ⟨w.heap.size, fun x => absurd x e, Nat.le_refl _, h.mm, fun i hi => by omega, Wds.zero A l, fun j hj => by omega, hle, fun x => ?_⟩
    have := (h.mm.ref.own.lt _ x).2
    omega
theorem finO_zero (l : List (Nat × Rw)) (j : Nat) : finO l j 0 = hdO l j := rfl
theorem finO_word (l : List (Nat × Rw)) (j k : Nat) (h : k < (rwO l j).W.length) : finO l j (k + 1) = valO l ((rwO l j).W.getD k 0) := by
  unfold finO
  rw [if_neg (by omega), Nat.add_sub_cancel, if_pos h]
theorem finO_past (l : List (Nat × Rw)) (j k : Nat) (h : ¬ k < (rwO l j).W.length) : finO l j (k + 1) = 0 := by
  unfold finO
  rw [if_neg (by omega), Nat.add_sub_cancel, if_neg h]
theorem fto_at (A : Nat → Kd) (l : List (Nat × Rw)) (gw : Nat → Nat) (i j : Nat) : (upd (Fto A l gw i) i (midL l i) j).at_ = adO l j := by
  by_cases e : j = i
  · subst e; rw [upd_same]; rfl
  · rw [upd_ne _ _ e]; unfold Fto; split <;> rfl
theorem neg_idx {v : Int} {n : Nat} (hv : v < 0) (hn : 0 < n) : ∃ x : Nat, x < n ∧ (-(v + 1)).tmod (n : Int) = (x : Int) ∧ ((-(v + 1)) % (n : Int)).toNat = x := by
  have h1 := Int.emod_nonneg (-(v + 1)) (show (n : Int) ≠ 0 by omega)
  have h2 := Int.emod_lt_of_pos (-(v + 1)) (show (0 : Int) < n by omega)
  refine ⟨((-(v + 1)) % (n : Int)).toNat, by omega, ?_, rfl⟩
  rw [Int.tmod_eq_emod_of_nonneg (by omega)]
  omega
def MadeP (w : World) (rs : List Rw) (e : Ending) (w' : World) : Prop :=
  ∃ (B : HB) (pb base : Nat) (A : Nat → Kd) (L : List Rb) (lv : Value) (l : List (Nat × Rw)) (gl : Nat) (gw : Nat → Nat) (wd : Nat → Int) (lo : Option Addr) (cp : Nat),
    e = .returned (.tuple #[B.ptr, .pointer (some ⟨pb, 0, none⟩), .slice lo l.length cp]) ∧ (0 < l.length → lo = some ⟨gl, 0, none⟩) ∧ Ps w B pb base ∧ Mch rs A l ∧ M3 w w' B pb base A L lv l gl (finL A l gw) gw l.length 0 wd
end Go.Proofs.YtinmaogbfcmagaaDoor
