/- What HeapApart asks, plainly and in memory. -/
import Derived.Test.YtkhegceikdegbaaDoorWd1
import Derived.Test.YtkhegceikdegbaaDoorBc2
namespace Go.Proofs.YtkhegceikdegbaaDoor
open Go.RowKit Go.Proofs.YtkhegceikdegbaaDoor.Hp
theorem disj {N : Nat} {A : Nat → Kd} (h : Inv N A) {a b r s : Nat} (ha : roomN A a = r) (hb : roomN A b = s) (hr : r ≠ 0) (hs : s ≠ 0) (hne : a ≠ b) : a + r ≤ b ∨ b + s ≤ a := by
  rcases Nat.lt_or_gt_of_ne hne with h1 | h1
  · left
    have := apart h h1 (by rw [ha]; exact hr) (by rw [hb]; exact hs)
    rw [ha] at this; exact this
  · right
    have := apart h h1 (by rw [hb]; exact hs) (by rw [ha]; exact hr)
    rw [hb] at this; exact this
/-- The addresses and rooms of all blocks in two slices of the law's own; each block is full of its own address. -/
structure Ap (w0 w : World) (B : HB) (base N k : Nat) (ad rm : Nat → Nat) (A : Nat → Kd) (v vr : Value) : Prop where
  l1 : L1 w0 w B base N ad A k v
  rr : w.ownsRow base 3 1 vr k (adL rm k)
  ne : ∀ g, v.ownBlock = some g → vr.ownBlock ≠ some g
  bk : Bk N k ad (fun _ => false) A
  rm_ : ∀ j, j < k → roomN A (ad j) = rm j
  wd_ : ∃ wd, At w B N (hrOf A wd) ∧ ∀ j, j < k → ∀ x, x < rm j → wd (ad j + x) = ad j
  cn : cntB A N = k
theorem Ap.keep {w0 w w' : World} {B : HB} {base N k : Nat} {ad rm : Nat → Nat} {A A' : Nat → Kd} {v vr : Value} (h : Ap w0 w B base N k ad rm A v vr) (hB : ∀ j, B.mem j → w0.heap.size ≤ j ∧ j < base) (hI : Inv N A') (hr : ∀ x, roomN A' x = roomN A x)
    (hF : Fr B.mem w w') (hV : Vars w') {wd : Nat → Int} (hA : At w' B N (hrOf A' wd)) (hw : ∀ j, j < k → ∀ x, x < rm j → wd (ad j + x) = ad j) : Ap w0 w' B base N k ad rm A' v vr := by
  refine ⟨h.l1.heap hB hF hV hA, own_fr h.rr hF (fun j hj => (hB j hj).2), h.ne, ⟨hI, fun j hj hg => by rw [hr]; exact h.bk.live j hj hg, fun j hj hg => by rw [hr]; exact h.bk.dead j hj hg, fun x hx => h.bk.only x (by rw [← hr]; exact hx), h.bk.inj⟩, fun j hj => by rw [hr]; exact h.rm_ j hj, ⟨wd, hA, hw⟩, ?_⟩
  rw [← h.cn]
  unfold cntB
  exact cntN_ext fun x _ => by unfold isB; rw [hr]
theorem Ap.quiet {w0 w w' : World} {B : HB} {base N k : Nat} {ad rm : Nat → Nat} {A : Nat → Kd} {v vr : Value} (h : Ap w0 w B base N k ad rm A v vr) (hF : Fr (fun _ => False) w w') : Ap w0 w' B base N k ad rm A v vr := by
  obtain ⟨wd, hA, hw⟩ := h.wd_
  exact ⟨h.l1.quiet hF, own_fr h.rr hF (fun j hj => hj.elim), h.ne, h.bk, h.rm_, ⟨wd, hA.quiet hF, hw⟩, h.cn⟩
/-- The words while a new block at a is filled. -/
def W3 (ad rm : Nat → Nat) (k a r q : Nat) (wd : Nat → Int) : Prop := (∀ x, x < q → wd (a + x) = a) ∧ (∀ x, q ≤ x → x < r → wd (a + x) = 0) ∧ ∀ j, j < k → ∀ x, x < rm j → wd (ad j + x) = ad j
/-- What is told apart: the new block lies beside all others. -/
def Off (ad rm : Nat → Nat) (k a r : Nat) : Prop := ∀ j, j < k → a + r ≤ ad j ∨ ad j + rm j ≤ a
theorem Off.of {N m a k : Nat} {ad rm : Nat → Nat} {A A' : Nat → Kd} (hb : Bk N k ad (fun _ => false) A) (hrm : ∀ j, j < k → roomN A (ad j) = rm j) (hm : m ≤ 16448) (g : Goes N A m a A') : Off ad rm k a (roomOfM m) := by
  intro j hj
  obtain ⟨h0, hr⟩ := room_goes hb.inv g
  have hl := hb.live j hj rfl
  have hne : a ≠ ad j := fun e => hl (by rw [← e]; exact h0)
  have hp := roomOfM_pos m
  refine disj (g.inv hb.inv hm) (by rw [hr, if_pos rfl]) (by rw [hr, if_neg (Ne.symm hne)]; exact hrm j hj) (by omega) (by rw [← hrm j hj]; exact hl) hne
theorem W3.start {ad rm : Nat → Nat} {k a r : Nat} {wd : Nat → Int} (hO : Off ad rm k a r) (hw : ∀ j, j < k → ∀ x, x < rm j → wd (ad j + x) = ad j) : W3 ad rm k a r 0 (clearW wd a r) := by
  refine ⟨fun x hx => by omega, fun x _ hx => ?_, fun j hj x hx => ?_⟩
  · unfold clearW; rw [if_pos (by omega)]
  · unfold clearW
    have := hO j hj
    rw [if_neg (by omega)]
    exact hw j hj x hx
theorem W3.step {ad rm : Nat → Nat} {k a r q : Nat} {wd : Nat → Int} (h : W3 ad rm k a r q wd) (hO : Off ad rm k a r) (hq : q < r) : W3 ad rm k a r (q + 1) (upd wd (a + q) (a : Int)) := by
  obtain ⟨h1, h2, h3⟩ := h
  refine ⟨fun x hx => ?_, fun x hx hx2 => ?_, fun j hj x hx => ?_⟩
  · by_cases e : x = q
    · rw [e, upd_same]
    · rw [upd_ne _ _ (by omega)]; exact h1 x (by omega)
  · rw [upd_ne _ _ (by omega)]; exact h2 x (by omega) hx2
  · have := hO j hj
    rw [upd_ne _ _ (by omega)]; exact h3 j hj x hx
/-- While the new block is looked at: the two slices, the heap with the new block. -/
structure Mid (w0 w : World) (B : HB) (base N k : Nat) (ad rm : Nat → Nat) (A' : Nat → Kd) (v vr : Value) (wd : Nat → Int) : Prop where
  l1 : L1 w0 w B base N ad A' k v
  rr : w.ownsRow base 3 1 vr k (adL rm k)
  at_ : At w B N (hrOf A' wd)
theorem Mid.quiet {w0 w w' : World} {B : HB} {base N k : Nat} {ad rm : Nat → Nat} {A : Nat → Kd} {v vr : Value} {wd : Nat → Int} (h : Mid w0 w B base N k ad rm A v vr wd) (hF : Fr (fun _ => False) w w') : Mid w0 w' B base N k ad rm A v vr wd :=
  ⟨h.l1.quiet hF, own_fr h.rr hF (fun _ hj => hj.elim), h.at_.quiet hF⟩
theorem Mid.heap {w0 w w' : World} {B : HB} {base N k : Nat} {ad rm : Nat → Nat} {A A' : Nat → Kd} {v vr : Value} {wd wd' : Nat → Int} (h : Mid w0 w B base N k ad rm A v vr wd) (hB : ∀ j, B.mem j → w0.heap.size ≤ j ∧ j < base) (hF : Fr B.mem w w') (hV : Vars w') (hA : At w' B N (hrOf A' wd')) : Mid w0 w' B base N k ad rm A' v vr wd' :=
  ⟨h.l1.heap hB hF hV hA, own_fr h.rr hF (fun j hj => (hB j hj).2), hA⟩
theorem Mid.cellR {w0 w : World} {B : HB} {base N k g cp : Nat} {ad rm : Nat → Nat} {A : Nat → Kd} {v : Value} {wd : Nat → Int} (h : Mid w0 w B base N k ad rm A v (.slice (some ⟨g, 0, none⟩) k cp) wd) {j : Nat} (hj : j < k) : w.cell? ⟨g, j, none⟩ = some (.int .i64 (rm j)) := by
  rw [h.rr.cellAt j (by omega), adL_get rm hj]
theorem Ap.cellR {w0 w : World} {B : HB} {base N k g cp : Nat} {ad rm : Nat → Nat} {A : Nat → Kd} {v : Value} (h : Ap w0 w B base N k ad rm A v (.slice (some ⟨g, 0, none⟩) k cp)) {j : Nat} (hj : j < k) : w.cell? ⟨g, j, none⟩ = some (.int .i64 (rm j)) := by
  rw [h.rr.cellAt j (by omega), adL_get rm hj]
/-- The new address at the end of the first slice. -/
theorem Mid.pushA {w0 w w1 : World} {B : HB} {base N k g cap : Nat} {ad rm : Nat → Nat} {A : Nat → Kd} {v vr : Value} {wd : Nat → Int} (h : Mid w0 w B base N k ad rm A v vr wd) (hne : ∀ g, v.ownBlock = some g → vr.ownBlock ≠ some g) (hB : ∀ j, B.mem j → w0.heap.size ≤ j ∧ j < base) (h2 : 2 ≤ w0.heap.size) (hb : w0.heap.size ≤ base) (a : Nat) (o : Obj)
    (ho : w1.ownsRow base 3 1 (.slice (some ⟨g, 0, none⟩) (k + 1) cap) (k + 1) (adL ad k ++ [.int .i64 (a : Int)])) (hg : (w.alloc o).grownBy w1 v.ownBlock) (hat : v.ownBlock = some g ∨ g = w.heap.size + 1) :
    L1 w0 w1 B base N (upd ad k a) A (k + 1) (.slice (some ⟨g, 0, none⟩) (k + 1) cap) ∧ w1.ownsRow base 3 1 vr k (adL rm k) ∧ At w1 B N (hrOf A wd) ∧ vr.ownBlock ≠ some g := by
  have hF : Fr (fun j => some j = v.ownBlock) w w1 := ((Fr.refl _ w).alloc o).trans (Fr.grown hg)
  refine ⟨(h.l1.re (ad' := upd ad k a) (fun j hj => upd_ne _ _ (by omega))).push hB h2 hb o (by
      rw [upd_same]
      have : adL (upd ad k a) k = adL ad k := by
        unfold adL
        apply List.map_congr_left
        intro j hj
        rw [upd_ne _ _ (by have := List.mem_range.1 hj; omega)]
      rw [this]; exact ho) hg, own_blk h.rr (fun x hx => hF.block x (h.rr.lt x hx).2 (fun e => hne x e.symm hx)), h.l1.grow hB o hg h.at_, ?_⟩
  rcases hat with e | e
  · exact hne g e
  · intro e2
    have := (h.rr.lt g e2).2
    omega
theorem Ap.pushR {w0 w w1 : World} {B : HB} {base N k g g1 cap cap1 : Nat} {ad rm : Nat → Nat} {A : Nat → Kd} {vr : Value} {wd : Nat → Int} (h : L1 w0 w B base N ad A (k + 1) (.slice (some ⟨g1, 0, none⟩) (k + 1) cap1)) (hr : w.ownsRow base 3 1 vr k (adL rm k)) (hA : At w B N (hrOf A wd)) (hne : vr.ownBlock ≠ some g1)
    (hB : ∀ j, B.mem j → w0.heap.size ≤ j ∧ j < base) (h2 : 2 ≤ w0.heap.size) (hb : w0.heap.size ≤ base) (r : Nat) (o : Obj)
    (ho : w1.ownsRow base 3 1 (.slice (some ⟨g, 0, none⟩) (k + 1) cap) (k + 1) (adL rm k ++ [.int .i64 (r : Int)])) (hg : (w.alloc o).grownBy w1 vr.ownBlock) (hat : vr.ownBlock = some g ∨ g = w.heap.size + 1)
    (bk : Bk N (k + 1) ad (fun _ => false) A) (hrm : ∀ j, j < k + 1 → roomN A (ad j) = upd rm k r j) (hw : ∀ j, j < k + 1 → ∀ x, x < upd rm k r j → wd (ad j + x) = ad j) (cn : cntB A N = k + 1) :
    Ap w0 w1 B base N (k + 1) ad (upd rm k r) A (.slice (some ⟨g1, 0, none⟩) (k + 1) cap1) (.slice (some ⟨g, 0, none⟩) (k + 1) cap) := by
  have hlt : ∀ x, vr.ownBlock = some x → base ≤ x := fun x hx => (hr.lt x hx).1
  have hF : Fr (fun j => some j = vr.ownBlock) w w1 := ((Fr.refl _ w).alloc o).trans (Fr.grown hg)
  have hn : ∀ j, j < base → ¬ (some j = vr.ownBlock) := fun j hj e => by have := hlt j e.symm; omega
  have hA1 : At w1 B N (hrOf A wd) := hA.fr' hF fun b hb' => hn b (hB b hb').2
  have hg1 : g1 < w.heap.size := (h.own.lt g1 rfl).2
  refine ⟨⟨own_blk h.own (fun x hx => hF.block x (h.own.lt x hx).2 (fun e => by
      have : x = g1 := by simpa [Value.ownBlock] using hx.symm
      exact hne (by rw [← e, this]))), ⟨wd, hA1⟩, h.far.up hF (fun j hj => Nat.le_trans hb (hlt j hj.symm)), h.vars.fr hF (hn 0 (by omega)) (hn 1 (by omega)), Nat.le_trans h.le hF.size⟩, ?_, ?_, bk, hrm, ⟨wd, hA1, hw⟩, cn⟩
  · have : adL (upd rm k r) (k + 1) = adL rm k ++ [.int .i64 (r : Int)] := by
      rw [← adL_succ, upd_same]
      congr 1
      unfold adL
      apply List.map_congr_left
      intro j hj
      rw [upd_ne _ _ (by have := List.mem_range.1 hj; omega)]
    rw [this]; exact ho
  · intro x hx e
    have e1 : x = g1 := by simpa [Value.ownBlock] using hx.symm
    have e2 : g = x := by simpa [Value.ownBlock] using e
    rcases hat with h3 | h3
    · exact hne (by rw [h3, e2, e1])
    · omega
theorem Free_no (B : HB) (n : Nat) (A : Nat → Kd) (wd : Nat → Int) (x : Nat) (w : World) (h : At w B n (hrOf A wd)) (hI : Inv n A) (hV : Vars w) (h0 : ∀ k, B.mem k → 2 ≤ k) (hx : roomN A x = 0) :
    Calls Tryd.prog 17 #[B.ptr, .int .i64 x] w fun e w' => e = .returned (.bool false) ∧ Fr B.mem w w' ∧ Vars w' ∧ At w' B n (hrOf A wd) := by
  have h00 : ¬ B.mem 0 := fun x => by have := h0 0 x; omega
  have h01 : ¬ B.mem 1 := fun x => by have := h0 1 x; omega
  have hr : roomI A (x : Int) = roomN A x := by unfold roomI; rw [if_pos (by omega)]; rfl
  refine (Free_any B n A wd (x : Int) w h hI).mono ?_
  rintro e w' ⟨rfl, hF, hA⟩
  refine ⟨ret_bool (by rw [hr]; simp [hx]), hF, hV.fr hF h00 h01, ?_⟩
  unfold freeI at hA
  rw [hr, if_pos hx] at hA
  exact hA
end Go.Proofs.YtkhegceikdegbaaDoor
