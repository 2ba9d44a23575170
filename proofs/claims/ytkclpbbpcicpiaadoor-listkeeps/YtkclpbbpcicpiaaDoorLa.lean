/- Slices in a space: what is read, made, cut and put behind; the document's example. -/
import Derived.Test.YtkclpbbpcicpiaaDoorD0
namespace Go.Proofs.YtkclpbbpcicpiaaDoor
open Go.RowKit Go.Proofs.YtkclpbbpcicpiaaDoor.Hp
section
variable {w0 w w' w1 w2 : World} {B : HB} {n p : Nat} {A : Nat → Kd} {wd : Nat → Int} {hv hv1 hv2 : Value} {held : List Int} {cnt : Nat}
/-- From a world to a later one of the same space. -/
structure To (B : HB) (p : Nat) (w : World) (hv : Value) (w' : World) (hv' : Value) : Prop where
  fr : Fr (SpK B p hv) w w'
  own : ∀ g, hv'.ownBlock = some g → hv.ownBlock = some g ∨ w.heap.size ≤ g
theorem To.refl (B : HB) (p : Nat) (w : World) (hv : Value) : To B p w hv w hv := ⟨Fr.refl _ _, fun _ h => .inl h⟩
theorem To.trans (h1 : To B p w hv w1 hv1) (h2 : To B p w1 hv1 w2 hv2) : To B p w hv w2 hv2 := by
  have hz := h1.fr.size
  refine ⟨⟨h2.fr.os.trans h1.fr.os, h2.fr.tape.trans h1.fr.tape, h2.fr.output.trans h1.fr.output, Nat.le_trans hz h2.fr.size, fun k hk hn => ?_⟩, fun g hg => ?_⟩
  · rw [h2.fr.block k (by omega) ?_, h1.fr.block k hk hn]
    rintro (h | h | h)
    · exact hn (.inl h)
    · exact hn (.inr (.inl h))
    · rcases h1.own k h with e | e
      · exact hn (.inr (.inr e))
      · omega
  · rcases h2.own g hg with e | e
    · exact h1.own g e
    · exact .inr (by omega)
theorem To.of (h : Fr (SpK B p hv) w w') : To B p w hv w' hv := ⟨h, fun _ h => .inl h⟩
theorem To.quiet (h : Fr (fun _ => False) w w') : To B p w hv w' hv := .of (h.mono fun _ x => x.elim)
theorem Lw.step {A' : Nat → Kd} {wd' : Nat → Int} {held' : List Int} {cnt' : Nat} (h : Lw w0 w B n p A wd hv held cnt) (hs : Sp w' B n p A' wd' hv1 held' cnt') (k : To B p w hv w' hv1) : Lw w0 w' B n p A' wd' hv1 held' cnt' := h.to hs k.fr k.own
/-- A cell that is none of the space's. -/
theorem To.cell (h : To B p w hv w' hv1) {b i : Nat} {u : Value} (hb : b < w.heap.size) (hn : ¬ SpK B p hv b) (hc : w.cell? ⟨b, i, none⟩ = some u) : w'.cell? ⟨b, i, none⟩ = some u :=
  (World.cell?_of_block (w := w) (a := ⟨b, i, none⟩) (h.fr.block b hb hn)).trans hc
theorem To.off (h : To B p w hv w' hv1) {b : Nat} (hb : b < w.heap.size) (hn : ¬ SpK B p hv b) : b < w'.heap.size ∧ ¬ SpK B p hv1 b := by
  refine ⟨Nat.lt_of_lt_of_le hb h.fr.size, ?_⟩
  rintro (k | k | k)
  · exact hn (.inl k)
  · exact hn (.inr (.inl k))
  · rcases h.own b k with e | e
    · exact hn (.inr (.inr e))
    · omega
/-- What a slice's block has. -/
abbrev slV (x0 x1 x2 x3 : Int) : Value := .agg #[.int .i64 x0, .int .i64 x1, .int .i64 x2, .int .i64 x3]
abbrev slO (x0 x1 x2 x3 : Int) : Obj := .cells #[.int .i64 x0, .int .i64 x1, .int .i64 x2, .int .i64 x3] 54
theorem Fr.setNew {K : Nat → Prop} {a w : World} (h : Fr K a w) {q : Addr} (hp : a.heap.size ≤ q.block) (u : Value) : Fr K a (w.setCell q u) :=
  ⟨h.os, h.tape, h.output, by simpa [World.setCell] using h.size, fun k hk hn => (Below.heap_setCell _ _ _ _ (by omega)).trans (h.block k hk hn)⟩
/-- A struct of four numbers in a block of its own. -/
def SlC (W : World) (N : Nat) (x0 x1 x2 x3 : Int) : Prop := Row W N 4 (fun i => .int .i64 (if i = 0 then x0 else if i = 1 then x1 else if i = 2 then x2 else x3))
variable {N : Nat} {x0 x1 x2 x3 : Int}
theorem SlC.new (W : World) (x0 x1 x2 x3 : Int) : SlC (W.alloc (slO x0 x1 x2 x3)) W.heap.size x0 x1 x2 x3 := by
  intro i hi
  refine ⟨?_, World.frozen?_alloc_at _ _ _ _ rfl⟩
  rw [World.cell?_alloc_at _ _ _ _ rfl]
  rcases (show i = 0 ∨ i = 1 ∨ i = 2 ∨ i = 3 by omega) with rfl | rfl | rfl | rfl <;> rfl
theorem SlC.cells (h : SlC w N x0 x1 x2 x3) : (w.cell? ⟨N, 0, none⟩ = some (.int .i64 x0) ∧ w.cell? ⟨N, 1, none⟩ = some (.int .i64 x1) ∧ w.cell? ⟨N, 2, none⟩ = some (.int .i64 x2) ∧ w.cell? ⟨N, 3, none⟩ = some (.int .i64 x3)) ∧ w.frozen? ⟨N, 0, none⟩ = false ∧ w.frozen? ⟨N, 1, none⟩ = false ∧ w.frozen? ⟨N, 2, none⟩ = false ∧ w.frozen? ⟨N, 3, none⟩ = false :=
  ⟨⟨(h 0 (by omega)).1, (h 1 (by omega)).1, (h 2 (by omega)).1, (h 3 (by omega)).1⟩, (h 0 (by omega)).2, (h 1 (by omega)).2, (h 2 (by omega)).2, (h 3 (by omega)).2⟩
theorem SlC.quiet (h : SlC w N x0 x1 x2 x3) (k : Fr (fun _ => False) w w') : SlC w' N x0 x1 x2 x3 := Row.fr h k id
theorem SlC.to (h : SlC w N x0 x1 x2 x3) (k : To B p w hv w' hv1) (hn : ¬ SpK B p hv N) : SlC w' N x0 x1 x2 x3 := Row.fr h k.fr hn
theorem SlC.set0 (h : SlC w N x0 x1 x2 x3) (v : Int) : SlC (w.setCell ⟨N, 0, none⟩ (.int .i64 v)) N v x1 x2 x3 := (Row.set h 0 _ (by omega)).ext fun i hi => by
  rcases (show i = 0 ∨ i = 1 ∨ i = 2 ∨ i = 3 by omega) with rfl | rfl | rfl | rfl <;> rfl
theorem SlC.set1 (h : SlC w N x0 x1 x2 x3) (v : Int) : SlC (w.setCell ⟨N, 1, none⟩ (.int .i64 v)) N x0 v x2 x3 := (Row.set h 1 _ (by omega)).ext fun i hi => by
  rcases (show i = 0 ∨ i = 1 ∨ i = 2 ∨ i = 3 by omega) with rfl | rfl | rfl | rfl <;> rfl
theorem SlC.set2 (h : SlC w N x0 x1 x2 x3) (v : Int) : SlC (w.setCell ⟨N, 2, none⟩ (.int .i64 v)) N x0 x1 v x3 := (Row.set h 2 _ (by omega)).ext fun i hi => by
  rcases (show i = 0 ∨ i = 1 ∨ i = 2 ∨ i = 3 by omega) with rfl | rfl | rfl | rfl <;> rfl
theorem SlC.set3 (h : SlC w N x0 x1 x2 x3) (v : Int) : SlC (w.setCell ⟨N, 3, none⟩ (.int .i64 v)) N x0 x1 x2 v := (Row.set h 3 _ (by omega)).ext fun i hi => by
  rcases (show i = 0 ∨ i = 1 ∨ i = 2 ∨ i = 3 by omega) with rfl | rfl | rfl | rfl <;> rfl
set_option maxHeartbeats 2000000 in
theorem open_any (h : Sp w B n p A wd hv held cnt) (z : Int) :
    Calls Tryd.prog 28 #[.pointer (some ⟨p, 0, none⟩), .int .i64 z] w fun e w' => e = .returned (slV (getI A wd z 0) (getI A wd z 1) (getI A wd z 2) (getI A wd z 3)) ∧ Fr (fun _ => False) w w' := by
  have HG : Hid (∀ k W, Fr (fun _ => False) w W → Calls Tryd.prog 16 #[.pointer (some ⟨p, 0, none⟩), .int .i64 z, .int .i64 k] W fun e w' => e = .returned (.int .i64 (getI A wd z k)) ∧ Fr (fun _ => False) W w') := hide fun k W hF => Get_any (h.quiet hF) z k
  generalize getI A wd z = f at *
  have HA := hide (SlC.new w 0 0 0 0)
  have HF0 := hide ((Fr.refl (fun _ => False) w).alloc (slO 0 0 0 0))
  clear h
  go_enter Tryd.func28, Tryd.ntmps28
  go_wp2_with fail
  refine (unhide HG 0 _ (unhide HF0)).mono ?_
  rintro e w1 ⟨rfl, hF1⟩
  have HC1 := hide ((unhide HA).quiet hF1)
  have HF1 := hide ((unhide HF0).trans hF1)
  have cc := (unhide HC1).cells
  clear hF1 HA HF0
  generalize hN : w.heap.size = N at *
  have HN := hide hN
  clear hN cc
  go_wp2_with fail
  refine (unhide HG 1 _ (unhide HF1)).mono ?_
  rintro e w2 ⟨rfl, hF2⟩
  have HC2 := hide ((unhide HC1).quiet hF2)
  have HF2 := hide ((unhide HF1).trans hF2)
  clear hF2
  go_wp2_with fail
  refine (unhide HG 2 _ (unhide HF2)).mono ?_
  rintro e w3 ⟨rfl, hF3⟩
  have HC3 := hide ((unhide HC2).quiet hF3)
  have HF3 := hide ((unhide HF2).trans hF3)
  clear hF3
  go_wp2_with fail
  refine (unhide HG 3 _ (unhide HF3)).mono ?_
  rintro e w4 ⟨rfl, hF4⟩
  have HC4 := hide ((unhide HC3).quiet hF4)
  have cc := (unhide HC4).cells
  have hle : w.heap.size ≤ N := by rw [unhide HN]; exact Nat.le_refl _
  have HF4 := hide ((((((unhide HF3).trans hF4).setNew (q := ⟨N, 0, none⟩) hle (.int .i64 (f 0))).setNew (q := ⟨N, 1, none⟩) hle (.int .i64 (f 1))).setNew (q := ⟨N, 2, none⟩) hle (.int .i64 (f 2))).setNew (q := ⟨N, 3, none⟩) hle (.int .i64 (f 3)))
  clear hF4 hle
  go_wp2
  exact bodyPost_ret (v := slV (f 0) (f 1) (f 2) (f 3)) (by simp [results, Tryd.results28, go_sem, *]) rfl ⟨rfl, unhide HF4⟩
theorem shas2_any (x0 x1 x2 x3 i : Int) (w : World) :
    Calls Tryd.prog 33 #[slV x0 x1 x2 x3, .int .i64 i] w fun e w' => e = .returned (.bool (decide (0 ≤ i) && decide (i < x2))) ∧ Fr (fun _ => False) w w' := by
  have HF := hide ((Fr.refl (fun _ => False) w).alloc (slO x0 x1 x2 x3))
  by_cases h0 : 0 ≤ i
  · by_cases h1 : i < x2
    · go_enter Tryd.func33, Tryd.ntmps33
      go_wp2
      all_goals go_ret
      all_goals exact ⟨ret_bool (by simp; omega), unhide HF⟩
    · go_enter Tryd.func33, Tryd.ntmps33
      go_wp2
      all_goals go_ret
      all_goals exact ⟨ret_bool (by simp; omega), unhide HF⟩
  · go_enter Tryd.func33, Tryd.ntmps33
    go_wp2
    all_goals go_ret
    all_goals exact ⟨ret_bool (by simp; omega), unhide HF⟩
end
section
variable {n p m a b k c lo N x q : Nat} {A A' A1 A2 : Nat → Kd} {wd wd' wd1 wd2 : Nat → Int} {held : List Int} {cnt : Nat} {f g : Nat → Int} {K : Nat → Prop} {z : Int}
theorem has_of (hx : roomN A x ≠ 0) (hq : (q : Int) < hS (wd x)) : hasB A wd x q = true := by
  have hr : roomI A (x : Int) ≠ 0 := by unfold roomI; rw [if_pos (by omega), Int.toNat_natCast]; exact hx
  unfold hasB sizI
  rw [if_pos hr, Int.toNat_natCast]
  simp; omega
theorem get_no {z k : Int} (h : roomI A z = 0) : getI A wd z k = 0 := by
  have : hasB A wd z k = false := by
    unfold hasB sizI
    rw [if_neg (fun x => x h)]
    simp
  unfold getI
  rw [this]
  simp
theorem room_zero (hI : Inv n A) : roomI A 0 = 0 := by
  apply Classical.byContradiction
  intro h
  obtain ⟨x, e, hx⟩ := room_nat h
  have := (room_in hI hx).1
  omega
theorem get_nil (hI : Inv n A) (k : Int) : getI A wd 0 k = 0 := get_no (room_zero hI)
/-- The words of a slice's block. -/
def slW (wd : Nat → Int) (a : Nat) (x0 x1 x2 x3 : Int) : Nat → Int := upd (upd (upd (upd wd (a + (1 + 0)) x0) (a + (1 + 1)) x1) (a + (1 + 2)) x2) (a + (1 + 3)) x3
theorem slW_out {x0 x1 x2 x3 : Int} (h : x < a + 1 ∨ a + 5 ≤ x) : slW wd a x0 x1 x2 x3 x = wd x := by
  unfold slW
  rw [upd_ne _ _ (by omega), upd_ne _ _ (by omega), upd_ne _ _ (by omega), upd_ne _ _ (by omega)]
theorem slW_0 {x0 x1 x2 x3 : Int} : slW wd a x0 x1 x2 x3 (a + 1) = x0 := by
  unfold slW
  rw [upd_ne _ _ (by omega), upd_ne _ _ (by omega), upd_ne _ _ (by omega), show a + (1 + 0) = a + 1 by omega, upd_same]
theorem slW_1 {x0 x1 x2 x3 : Int} : slW wd a x0 x1 x2 x3 (a + 2) = x1 := by
  unfold slW
  rw [upd_ne _ _ (by omega), upd_ne _ _ (by omega), show a + (1 + 1) = a + 2 by omega, upd_same]
theorem slW_2 {x0 x1 x2 x3 : Int} : slW wd a x0 x1 x2 x3 (a + 3) = x2 := by
  unfold slW
  rw [upd_ne _ _ (by omega), show a + (1 + 2) = a + 3 by omega, upd_same]
theorem slW_3 {x0 x1 x2 x3 : Int} : slW wd a x0 x1 x2 x3 (a + 4) = x3 := by
  unfold slW
  rw [show a + (1 + 3) = a + 4 by omega, upd_same]
/-- A slice's block. -/
structure SlAt (A : Nat → Kd) (wd : Nat → Int) (a b lo N c : Nat) : Prop where
  room : roomN A a ≠ 0
  big : 4 < roomN A a
  hd : wd a = hdr 4 4 1
  w0 : wd (a + 1) = b
  w1 : wd (a + 2) = lo
  w2 : wd (a + 3) = N
  w3 : wd (a + 4) = c
/-- An array. -/
structure ArAt (A : Nat → Kd) (wd : Nat → Int) (b k c : Nat) (f : Nat → Int) : Prop where
  room : roomN A b ≠ 0
  big : c < roomN A b
  kin : k = 1 ∨ k = 2
  le : c ≤ 16384
  hd : wd b = hdr k c 0
  it : ∀ j, j < c → wd (b + 1 + j) = f j
theorem sl_hdr : IsH (hdr 4 4 1) ∧ hK (hdr 4 4 1) = 4 ∧ hS (hdr 4 4 1) = 4 ∧ hM (hdr 4 4 1) = 1 := hdr_open (by unfold Right; omega)
theorem ar_right (hk : k = 1 ∨ k = 2) (hc : c ≤ 16384) : Right (k : Int) (c : Int) 0 := by unfold Right; omega
theorem ar_hdr (hk : k = 1 ∨ k = 2) (hc : c ≤ 16384) : IsH (hdr k c 0) ∧ hK (hdr k c 0) = k ∧ hS (hdr k c 0) = c ∧ hM (hdr k c 0) = 0 := hdr_open (ar_right hk hc)
theorem SlAt.sz (h : SlAt A wd a b lo N c) : hS (wd a) = 4 := by rw [h.hd]; exact sl_hdr.2.2.1
theorem ArAt.sz (h : ArAt A wd b k c f) : hS (wd b) = c := by rw [h.hd]; exact (ar_hdr h.kin h.le).2.2.1
theorem get_in (hx : roomN A x ≠ 0) (hq : (q : Int) < hS (wd x)) : getI A wd x q = wd (x + 1 + q) := by
  unfold getI
  rw [if_pos (has_of hx hq), Int.toNat_natCast, Int.toNat_natCast, show x + (1 + q) = x + 1 + q by omega]
theorem SlAt.get (h : SlAt A wd a b lo N c) : getI A wd a 0 = b ∧ getI A wd a 1 = lo ∧ getI A wd a 2 = N ∧ getI A wd a 3 = c := by
  have hs := h.sz
  have e0 := get_in (wd := wd) (q := 0) h.room (by rw [hs]; decide)
  have e1 := get_in (wd := wd) (q := 1) h.room (by rw [hs]; decide)
  have e2 := get_in (wd := wd) (q := 2) h.room (by rw [hs]; decide)
  have e3 := get_in (wd := wd) (q := 3) h.room (by rw [hs]; decide)
  exact ⟨e0.trans h.w0, e1.trans h.w1, e2.trans h.w2, e3.trans h.w3⟩
theorem ArAt.get (h : ArAt A wd b k c f) {j : Nat} (hj : j < c) : getI A wd b j = f j := by
  rw [get_in h.room (by rw [h.sz]; omega), h.it j hj]
/-- What else there is stays. -/
def Olds (K : Nat → Prop) (A : Nat → Kd) (wd : Nat → Int) (A' : Nat → Kd) (wd' : Nat → Int) : Prop := ∀ x, roomN A x ≠ 0 → ¬ K x → roomN A' x = roomN A x ∧ ∀ y, x ≤ y → y < x + roomN A x → wd' y = wd y
theorem Olds.refl (K : Nat → Prop) (A : Nat → Kd) (wd : Nat → Int) : Olds K A wd A wd := fun _ _ _ => ⟨rfl, fun _ _ _ => rfl⟩
theorem Olds.trans (h1 : Olds K A wd A1 wd1) (h2 : Olds K A1 wd1 A2 wd2) : Olds K A wd A2 wd2 := fun x hx hk => by
  obtain ⟨r1, e1⟩ := h1 x hx hk
  obtain ⟨r2, e2⟩ := h2 x (by rw [r1]; exact hx) hk
  exact ⟨r2.trans r1, fun y h3 h4 => (e2 y h3 (by rw [r1]; exact h4)).trans (e1 y h3 h4)⟩
theorem Olds.goes (K : Nat → Prop) (hI : Inv n A) (hI' : Inv n A') (g : Goes n A m a A') (hm : 0 < m) (ho : ∀ x, x < a ∨ a + roomOfM m ≤ x → wd' x = wd x) : Olds K A wd A' wd' := fun x hx _ => by
  obtain ⟨g0, g1⟩ := room_goes hI g
  have hne : x ≠ a := fun e => hx (by rw [e]; exact g0)
  have hxa := g1 x
  rw [if_neg hne] at hxa
  have hb := g1 a
  rw [if_pos rfl] at hb
  have hge := roomOfM_ge m
  refine ⟨hxa, fun y h1 h2 => ho y ?_⟩
  rcases Nat.lt_or_gt_of_ne hne with hl | hl
  · have := apart hI' hl (by omega) (by omega)
    omega
  · have := apart hI' hl (by omega) (by omega)
    omega
theorem Olds.new (K : Nat → Prop) (hI : Inv n A) (hI' : Inv n A') (g : Goes n A m a A') (hm : 0 < m) (h : Int) : Olds K A wd A' (newW wd a m h) := Olds.goes K hI hI' g hm fun x hx => by
  have hge := roomOfM_ge m
  unfold newW
  rw [upd_ne _ _ (by omega), clear_out hx]
/-- Words of one block are others. -/
theorem Olds.put (hI : Inv n A) (hb : roomN A b ≠ 0) (hK : K b) (ho : ∀ x, x < b ∨ b + roomN A b ≤ x → wd' x = wd x) : Olds K A wd A wd' := fun x hx hk => by
  have hne : x ≠ b := fun e => hk (e ▸ hK)
  refine ⟨rfl, fun y h1 h2 => ho y ?_⟩
  rcases Nat.lt_or_gt_of_ne hne with hl | hl
  · have := apart hI hl hx hb
    omega
  · have := apart hI hl hb hx
    omega
theorem Olds.mono {L : Nat → Prop} (h : Olds K A wd A' wd') (hl : ∀ x, roomN A x ≠ 0 → K x → L x) : Olds L A wd A' wd' := fun x hx hn => h x hx fun hk => hn (hl x hx hk)
theorem SlAt.keep (h : SlAt A wd a b lo N c) (ho : Olds K A wd A' wd') (hk : ¬ K a) : SlAt A' wd' a b lo N c := by
  obtain ⟨r, e⟩ := ho a h.room hk
  have hb := h.big
  exact ⟨by rw [r]; exact h.room, by rw [r]; exact hb, by rw [e a (by omega) (by omega)]; exact h.hd, by rw [e _ (by omega) (by omega)]; exact h.w0, by rw [e _ (by omega) (by omega)]; exact h.w1, by rw [e _ (by omega) (by omega)]; exact h.w2, by rw [e _ (by omega) (by omega)]; exact h.w3⟩
theorem ArAt.keep (h : ArAt A wd b k c f) (ho : Olds K A wd A' wd') (hk : ¬ K b) : ArAt A' wd' b k c f := by
  obtain ⟨r, e⟩ := ho b h.room hk
  have hb := h.big
  exact ⟨by rw [r]; exact h.room, by rw [r]; exact hb, h.kin, h.le, by rw [e b (by omega) (by omega)]; exact h.hd, fun j hj => by rw [e _ (by omega) (by omega)]; exact h.it j hj⟩
theorem ArAt.ext (h : ArAt A wd b k c f) (e : ∀ j, j < c → f j = g j) : ArAt A wd b k c g := ⟨h.room, h.big, h.kin, h.le, h.hd, fun j hj => (h.it j hj).trans (e j hj)⟩
theorem SlAt.ne (h : SlAt A wd a b lo N c) (k' : ArAt A wd x k q f) : a ≠ x := by
  rintro rfl
  have h1 := h.sz
  have h2 : hK (wd a) = 4 := by rw [h.hd]; exact sl_hdr.2.1
  have h3 : hK (wd a) = k := by rw [k'.hd]; exact (ar_hdr k'.kin k'.le).2.1
  have := k'.kin
  omega
/-- A new array is of zeros. -/
theorem newW_room (hI : Inv n A) (g : Goes n A m a A') (hm : 0 < m) : roomN A' a ≠ 0 ∧ m ≤ roomN A' a := by
  have := (room_goes hI g).2 a
  rw [if_pos rfl] at this
  have := roomOfM_ge m
  omega
theorem newW_in {h : Int} (h1 : a < x) (h2 : x < a + m) : newW wd a m h x = 0 := by
  have := roomOfM_ge m
  unfold newW clearW
  rw [upd_ne _ _ (by omega), if_pos (by omega)]
theorem ar_new (hk : k = 1 ∨ k = 2) (hc : c ≤ 16384) (hI : Inv n A) (g : Goes n A (1 + c) b A') (wd : Nat → Int) : ArAt A' (newW wd b (1 + c) (hdr k c 0)) b k c (fun _ => 0) := by
  obtain ⟨r1, r2⟩ := newW_room hI g (by omega)
  exact ⟨r1, by omega, hk, hc, newW_at, fun j hj => newW_in (by omega) (by omega)⟩
theorem sl_new (hI : Inv n A) (g : Goes n A 5 a A') (wd : Nat → Int) (b lo N c : Nat) : SlAt A' (slW (newW wd a 5 (hdr 4 4 1)) a b lo N c) a b lo N c := by
  obtain ⟨r1, r2⟩ := newW_room hI g (by omega)
  exact ⟨r1, by omega, by rw [slW_out (by omega)]; exact newW_at, slW_0, slW_1, slW_2, slW_3⟩
theorem sl_olds (K : Nat → Prop) (hI : Inv n A) (hI' : Inv n A') (g : Goes n A 5 a A') (wd : Nat → Int) (x0 x1 x2 x3 : Int) : Olds K A wd A' (slW (newW wd a 5 (hdr 4 4 1)) a x0 x1 x2 x3) := Olds.goes K hI hI' g (by omega) fun x hx => by
  have hge := roomOfM_ge 5
  rw [slW_out (by omega)]
  unfold newW
  rw [upd_ne _ _ (by omega), clear_out hx]
/-- Items written into an array. -/
def wrW (wd : Nat → Int) (o : Nat) (zs : List Int) (k : Nat) : Nat → Int := fun x => if o ≤ x ∧ x < o + k then zs.getD (x - o) 0 else wd x
theorem wrW_zero (wd : Nat → Int) (o : Nat) (zs : List Int) : wrW wd o zs 0 = wd := by
  funext x
  unfold wrW
  rw [if_neg (by omega)]
theorem wrW_succ (wd : Nat → Int) (o : Nat) (zs : List Int) (k : Nat) : upd (wrW wd o zs k) (o + k) (zs.getD k 0) = wrW wd o zs (k + 1) := by
  funext x
  by_cases e : x = o + k
  · subst e
    rw [upd_same]
    unfold wrW
    rw [if_pos (by omega), show o + k - o = k by omega]
  · rw [upd_ne _ _ e]
    unfold wrW
    by_cases e2 : o ≤ x ∧ x < o + k
    · rw [if_pos e2, if_pos (by omega)]
    · rw [if_neg e2, if_neg (by omega)]
theorem wrW_out {o : Nat} {zs : List Int} (h : x < o ∨ o + k ≤ x) : wrW wd o zs k x = wd x := by
  unfold wrW
  rw [if_neg (by omega)]
theorem ArAt.wr (h : ArAt A wd b k c f) (lo : Nat) (zs : List Int) : ArAt A (wrW wd (b + 1 + lo) zs zs.length) b k c (fun j => if lo ≤ j ∧ j < lo + zs.length then zs.getD (j - lo) 0 else f j) := by
  refine ⟨h.room, h.big, h.kin, h.le, by rw [wrW_out (by omega)]; exact h.hd, fun j hj => ?_⟩
  unfold wrW
  by_cases e : lo ≤ j ∧ j < lo + zs.length
  · rw [if_pos e, if_pos (by omega), show b + 1 + j - (b + 1 + lo) = j - lo by omega]
  · rw [if_neg e, if_neg (by omega)]
    exact h.it j hj
theorem ArAt.wr_olds (h : ArAt A wd b k c f) (hI : Inv n A) (hK : K b) (lo : Nat) (zs : List Int) (hl : lo + zs.length ≤ c) : Olds K A wd A (wrW wd (b + 1 + lo) zs zs.length) := by
  have := h.big
  exact Olds.put hI h.room hK fun x hx => wrW_out (by omega)
end
section
variable {w0 w w' w1 w2 : World} {B : HB} {n p : Nat} {A A' : Nat → Kd} {wd wd' : Nat → Int} {hv hv1 hv2 : Value} {held : List Int} {cnt : Nat}
theorem HoldT (h : Sp w B n p A wd hv held cnt) (z : Int) (hz : -9223372036854775808 ≤ z ∧ z < 9223372036854775808) (hl : held.length < 900) :
    Calls Tryd.prog 11 #[.pointer (some ⟨p, 0, none⟩), .int .i64 z] w fun e w' => ∃ hv', e = .returned (.tuple #[]) ∧ Sp w' B n p A wd hv' (held ++ [z]) cnt ∧ To B p w hv w' hv' := by
  refine (Hold_any h z hz hl).mono ?_
  rintro e w' ⟨hv', rfl, hs, hF, hg⟩
  exact ⟨hv', rfl, hs, hF, hg⟩
theorem DropT (h : Sp w B n p A wd hv held cnt) (z : Int) (hz : -9223372036854775808 ≤ z ∧ z < 9223372036854775808) :
    Calls Tryd.prog 13 #[.pointer (some ⟨p, 0, none⟩), .int .i64 z] w fun e w' => ∃ hv', e = .returned (.tuple #[]) ∧ Sp w' B n p A wd hv' (held.take (leftN held.length z)) cnt ∧ To B p w hv w' hv' := by
  refine (Drop_any h z hz).mono ?_
  rintro e w' ⟨hv', rfl, hs, hF, hg⟩
  exact ⟨hv', rfl, hs, hF.mono fun k e => .inr (.inl e), fun g e => .inl (by rw [← hg]; exact e)⟩
theorem drop_last (l : List Int) (z : Int) : (l ++ [z]).take (leftN (l ++ [z]).length 1) = l := by
  have : leftN (l ++ [z]).length 1 = l.length := by unfold leftN; simp
  rw [this]; simp
theorem DropL {z : Int} (h : Sp w B n p A wd hv (held ++ [z]) cnt) :
    Calls Tryd.prog 13 #[.pointer (some ⟨p, 0, none⟩), .int .i64 1] w fun e w' => ∃ hv', e = .returned (.tuple #[]) ∧ Sp w' B n p A wd hv' held cnt ∧ To B p w hv w' hv' := by
  have := DropT h 1 (by omega)
  rw [drop_last] at this
  exact this
theorem SetS (h : Sp w B n p A wd hv held cnt) {x : Nat} (q v : Int) (q' : Nat) (e : q = q') (hx : roomN A x ≠ 0) (hq : (q' : Int) < hS (wd x)) :
    Calls Tryd.prog 10 #[.pointer (some ⟨p, 0, none⟩), .int .i64 x, .int .i64 q, .int .i64 v] w fun e w' => e = .returned (.bool true) ∧ Sp w' B n p A (upd wd (x + (1 + q')) v) hv held cnt ∧ To B p w hv w' hv := by
  subst e
  have hb := has_of hx hq
  refine (Set_any h x q' v).mono ?_
  rintro e w' ⟨rfl, hs, hF⟩
  unfold putW at hs
  rw [if_pos hb] at hs
  exact ⟨ret_bool hb, hs, .of (hF.mono fun k hk => .inl hk)⟩
/-- What Make answers. -/
inductive MkV (n : Nat) (A : Nat → Kd) (wd : Nat → Int) (held : List Int) (cnt : Nat) (k s m : Int) (e : Ending) (A' : Nat → Kd) (wd' : Nat → Int) (cnt' : Nat) : Prop
  | yes (a : Nat) (he : e = .returned (.tuple #[.int .i64 (a : Int), .bool true])) (h : MkS n A wd held cnt k s m (.tuple #[.int .i64 (a : Int), .bool true]) A' wd' cnt') (hr : roomN A' a ≠ 0) (hs : hS (wd' a) = s) (hc : cnt' ≤ cnt + 1)
  | no (he : e = .returned (.tuple #[.int .i64 0, .bool false])) (h : MkS n A wd held cnt k s m (.tuple #[.int .i64 0, .bool false]) A' wd' cnt') (hc : cnt' ≤ cnt + 1)
theorem MakeV (h : Sp w B n p A wd hv held cnt) (hc : cnt < 100000) {k s m : Int} (hR : Right k s m) :
    Calls Tryd.prog 9 #[.pointer (some ⟨p, 0, none⟩), .int .i64 k, .int .i64 s, .int .i64 m] w fun e w' => ∃ A' wd' cnt', MkV n A wd held cnt k s m e A' wd' cnt' ∧ Sp w' B n p A' wd' hv held cnt' ∧ To B p w hv w' hv := by
  refine (Make_any h hc k s m).mono ?_
  rintro e w' ⟨v, A', wd', cnt', hm, rfl, hs, hF⟩
  have hm' := hm
  obtain ⟨_, _, hS1, _⟩ := hdr_open hR
  cases hm with
  | no hr => exact absurd hR hr
  | at_ hr a _ g => exact ⟨_, _, _, .yes a rfl hm' (newW_room h.inv g (by omega)).1 ((congrArg hS newW_at).trans hS1) (by omega), hs, .of hF⟩
  | gc hr hn rb A1 hg a _ g => exact ⟨_, _, _, .yes a rfl hm' (newW_room hg.inv g (by omega)).1 ((congrArg hS newW_at).trans hS1) (by omega), hs, .of hF⟩
  | full hr hn rb A1 hg g => exact ⟨_, _, _, .no rfl hm' (by omega), hs, .of hF⟩
/-- What block answers. -/
inductive BkV (w : World) (B : HB) (n p : Nat) (A : Nat → Kd) (wd : Nat → Int) (hv : Value) (held : List Int) (cnt : Nat) (x0 x1 x2 x3 : Int) (e : Ending) (w' : World) : Prop
  | yes (a : Nat) (A' : Nat → Kd) (wd1 : Nat → Int) (cnt' : Nat) (hv' : Value) (he : e = .returned (.tuple #[.int .i64 (a : Int), .bool true])) (h : MkS n A wd (held ++ [x0]) cnt 4 4 1 (.tuple #[.int .i64 (a : Int), .bool true]) A' wd1 cnt') (hc : cnt' ≤ cnt + 1) (hs : Sp w' B n p A' (slW wd1 a x0 x1 x2 x3) hv' held cnt') (ht : To B p w hv w' hv')
  | no (A' : Nat → Kd) (wd1 : Nat → Int) (cnt' : Nat) (hv' : Value) (he : e = .returned (.tuple #[.int .i64 0, .bool false])) (h : MkS n A wd (held ++ [x0]) cnt 4 4 1 (.tuple #[.int .i64 0, .bool false]) A' wd1 cnt') (hc : cnt' ≤ cnt + 1) (hs : Sp w' B n p A' wd1 hv' held cnt') (ht : To B p w hv w' hv')
set_option maxRecDepth 100000 in
set_option maxHeartbeats 4000000 in
theorem block_any (h : Sp w B n p A wd hv held cnt) (hc : cnt < 100000) (hl : held.length < 900) (x0 x1 x2 x3 : Int) (hx : -9223372036854775808 ≤ x0 ∧ x0 < 9223372036854775808) :
    Calls Tryd.prog 39 #[.pointer (some ⟨p, 0, none⟩), slV x0 x1 x2 x3] w fun e w' => BkV w B n p A wd hv held cnt x0 x1 x2 x3 e w' := by
  have hF0 := (Fr.refl (fun _ => False) w).alloc (slO x0 x1 x2 x3)
  have HT0 := hide (To.quiet (B := B) (p := p) (hv := hv) hF0)
  have HS0 := hide (h.quiet hF0)
  have HC0 := hide (SlC.new w x0 x1 x2 x3)
  have HN0 : Hid (¬ SpK B p hv w.heap.size) := hide fun k => by have := (h.lt k).2; omega
  have hsz : w.heap.size < (w.alloc (slO x0 x1 x2 x3)).heap.size := by simp
  have HZ0 := hide hsz
  have HH := hide (HoldT (unhide HS0) x0 hx hl)
  clear h hF0 hsz
  go_enter Tryd.func39, Tryd.ntmps39
  go_wp2_with fail
  refine (unhide HH).mono ?_
  rintro e w1 ⟨hv1, rfl, hs1, ht1⟩
  have HN1 := hide (ht1.off (unhide HZ0) (unhide HN0))
  have HC1 := hide ((unhide HC0).to ht1 (unhide HN0))
  have HT1 := hide ((unhide HT0).trans ht1)
  have HM := hide (MakeV hs1 hc (show Right 4 4 1 by unfold Right; omega))
  clear ht1 hs1 HH
  generalize w.heap.size = N at *
  have cc := (unhide HC1).cells
  go_wp2_with fail
  clear cc
  refine (unhide HM).mono ?_
  rintro e w2 ⟨A', wd', cnt', hm, hs2, ht2⟩
  have HN2 := hide (ht2.off (unhide HN1).1 (unhide HN1).2)
  have HC2 := hide ((unhide HC1).to ht2 (unhide HN1).2)
  have HT2 := hide ((unhide HT1).trans ht2)
  have HD := hide (DropL hs2)
  clear ht2 hs2 HM
  cases hm with
  | yes a he hm hr hs hcn =>
    subst he
    have HMk := hide hm
    clear hm
    go_wp2_with fail
    refine (unhide HD).mono ?_
    rintro e w3 ⟨hv3, rfl, hs3, ht3⟩
    have HN3 := hide (ht3.off (unhide HN2).1 (unhide HN2).2)
    have HC3 := hide ((unhide HC2).to ht3 (unhide HN2).2)
    have HT3 := hide ((unhide HT2).trans ht3)
    have HS3 := hide (SetS hs3 0 x0 0 rfl hr (by rw [hs]; decide))
    clear ht3 hs3 HD
    have cc := (unhide HC3).cells
    go_wp2_with fail
    clear cc
    refine (unhide HS3).mono ?_
    rintro e w4 ⟨rfl, hs4, ht4⟩
    have HN4 := hide (ht4.off (unhide HN3).1 (unhide HN3).2)
    have HC4 := hide ((unhide HC3).to ht4 (unhide HN3).2)
    have HT4 := hide ((unhide HT3).trans ht4)
    have HS4 := hide (SetS hs4 1 x1 1 rfl hr (by rw [upd_ne _ _ (by omega), hs]; decide))
    clear ht4 hs4 HS3
    have cc := (unhide HC4).cells
    go_wp2_with fail
    clear cc
    refine (unhide HS4).mono ?_
    rintro e w5 ⟨rfl, hs5, ht5⟩
    have HN5 := hide (ht5.off (unhide HN4).1 (unhide HN4).2)
    have HC5 := hide ((unhide HC4).to ht5 (unhide HN4).2)
    have HT5 := hide ((unhide HT4).trans ht5)
    have HS5 := hide (SetS hs5 2 x2 2 rfl hr (by rw [upd_ne _ _ (by omega), upd_ne _ _ (by omega), hs]; decide))
    clear ht5 hs5 HS4
    have cc := (unhide HC5).cells
    go_wp2_with fail
    clear cc
    refine (unhide HS5).mono ?_
    rintro e w6 ⟨rfl, hs6, ht6⟩
    have HN6 := hide (ht6.off (unhide HN5).1 (unhide HN5).2)
    have HC6 := hide ((unhide HC5).to ht6 (unhide HN5).2)
    have HT6 := hide ((unhide HT5).trans ht6)
    have HS6 := hide (SetS hs6 3 x3 3 rfl hr (by rw [upd_ne _ _ (by omega), upd_ne _ _ (by omega), upd_ne _ _ (by omega), hs]; decide))
    clear ht6 hs6 HS5
    have cc := (unhide HC6).cells
    go_wp2_with fail
    clear cc
    refine (unhide HS6).mono ?_
    rintro e w7 ⟨rfl, hs7, ht7⟩
    have HE := hide (BkV.yes a A' wd' cnt' hv3 rfl (unhide HMk) hcn hs7 ((unhide HT6).trans ht7))
    clear ht7 hs7 HS6 hcn hs hr
    go_wp2
    go_ret2
    exact unhide HE
  | no he hm hcn =>
    subst he
    have HMk := hide hm
    clear hm
    go_wp2_with fail
    refine (unhide HD).mono ?_
    rintro e w3 ⟨hv3, rfl, hs3, ht3⟩
    have HE := hide (BkV.no (x1 := x1) (x2 := x2) (x3 := x3) A' wd' cnt' hv3 rfl (unhide HMk) hcn hs3 ((unhide HT2).trans ht3))
    clear ht3 hs3 HD hcn
    go_wp2
    go_ret2
    exact unhide HE
end
section
variable {w0 w w' w1 w2 : World} {B : HB} {n p : Nat} {A A' : Nat → Kd} {wd wd' : Nat → Int} {hv hv1 hv2 : Value} {held : List Int} {cnt : Nat}
def kdR (r : Bool) : Nat := if r then 2 else 1
theorem kdR_or (r : Bool) : kdR r = 1 ∨ kdR r = 2 := by cases r <;> simp [kdR]
/-- What fresh answers. -/
inductive FsV (w : World) (B : HB) (n p : Nat) (A : Nat → Kd) (wd : Nat → Int) (hv : Value) (held : List Int) (cnt N c k : Nat) (e : Ending) (w' : World) : Prop
  | yes (a b : Nat) (A1 : Nat → Kd) (wd1 : Nat → Int) (cnt1 : Nat) (A2 : Nat → Kd) (wd2 : Nat → Int) (cnt2 : Nat) (hv' : Value) (he : e = .returned (.tuple #[.int .i64 (a : Int), .bool true])) (h1 : MkS n A wd held cnt k c 0 (.tuple #[.int .i64 (b : Int), .bool true]) A1 wd1 cnt1) (h2 : MkS n A1 wd1 (held ++ [(b : Int)]) cnt1 4 4 1 (.tuple #[.int .i64 (a : Int), .bool true]) A2 wd2 cnt2) (hI : Inv n A1) (hc : cnt2 ≤ cnt + 2) (hs : Sp w' B n p A2 (slW wd2 a b 0 N c) hv' held cnt2) (ht : To B p w hv w' hv')
  | no1 (A1 : Nat → Kd) (wd1 : Nat → Int) (cnt1 : Nat) (he : e = .returned (.tuple #[.int .i64 0, .bool false])) (h1 : MkS n A wd held cnt k c 0 (.tuple #[.int .i64 0, .bool false]) A1 wd1 cnt1) (hs : Sp w' B n p A1 wd1 hv held cnt1) (ht : To B p w hv w' hv)
  | no2 (b : Nat) (A1 : Nat → Kd) (wd1 : Nat → Int) (cnt1 : Nat) (A2 : Nat → Kd) (wd2 : Nat → Int) (cnt2 : Nat) (rb : Nat → Bool) (A3 : Nat → Kd) (hv' : Value) (he : e = .returned (.tuple #[.int .i64 0, .bool false])) (h1 : MkS n A wd held cnt k c 0 (.tuple #[.int .i64 (b : Int), .bool true]) A1 wd1 cnt1) (h2 : MkS n A1 wd1 (held ++ [(b : Int)]) cnt1 4 4 1 (.tuple #[.int .i64 0, .bool false]) A2 wd2 cnt2) (hI : Inv n A1) (hI2 : Inv n A2) (hg : Gc n A2 wd2 held rb A3) (hs : Sp w' B n p A3 wd2 hv' held (cnt2 + 1)) (ht : To B p w hv w' hv')
set_option maxRecDepth 100000 in
set_option maxHeartbeats 4000000 in
theorem fresh_any (h : Sp w B n p A wd hv held cnt) (hc : cnt < 90000) (hl : held.length < 900) (N c : Nat) (hcap : c ≤ 16384) (r : Bool) :
    Calls Tryd.prog 38 #[.pointer (some ⟨p, 0, none⟩), .int .i64 N, .int .i64 c, .bool r] w fun e w' => FsV w B n p A wd hv held cnt N c (kdR r) e w' := by
  have HM := hide (MakeV h (by omega) (ar_right (kdR_or r) hcap))
  clear h
  generalize hk : kdR r = k at *
  have ek : (k : Int) = if r = true then 2 else 1 := by rw [← hk]; cases r <;> rfl
  clear hk
  cases r
  all_goals
    simp only [Bool.false_eq_true, if_false, if_true] at ek
    rw [ek] at HM
    go_enter Tryd.func38, Tryd.ntmps38
    go_wp2_with fail
    refine (unhide HM).mono ?_
    rintro e w1 ⟨A1, wd1, cnt1, hm, hs1, ht1⟩
    rw [← ek] at hm
    clear HM ek
    cases hm with
    | no he hm hcn =>
      subst he
      have HE := hide (FsV.no1 (N := N) A1 wd1 cnt1 rfl hm hs1 ht1)
      clear hm hs1 ht1 hcn
      go_wp2
      go_ret2
      exact unhide HE
    | yes b he hm hr hsz hcn =>
      subst he
      have hb := room_in hs1.inv hr
      have hhi := hs1.hi
      have HB := hide (block_any hs1 (by omega) hl (b : Int) 0 (N : Int) (c : Int) (by omega))
      have HI1 := hide hs1.inv
      have HMk := hide hm
      have HT1 := hide ht1
      clear hm hs1 ht1 hr hsz hb hhi
      go_wp2_with fail
      refine (unhide HB).mono ?_
      rintro e w2 hb
      clear HB
      cases hb with
      | yes a A2 wd2 cnt2 hv2 he hm2 hcn2 hs2 ht2 =>
        subst he
        have HE := hide (FsV.yes a b A1 wd1 cnt1 A2 wd2 cnt2 hv2 rfl (unhide HMk) hm2 (unhide HI1) (by omega) hs2 ((unhide HT1).trans ht2))
        clear hm2 hs2 ht2 hcn2 hcn
        go_wp2
        go_ret2
        exact unhide HE
      | no A2 wd2 cnt2 hv2 he hm2 hcn2 hs2 ht2 =>
        subst he
        have HC := hide (SCollect_any hs2 (by omega))
        have HI2 := hide hs2.inv
        have HMk2 := hide hm2
        have HT2 := hide ((unhide HT1).trans ht2)
        clear hm2 hs2 ht2 hcn2 hcn
        go_wp2_with fail
        refine (unhide HC).mono ?_
        rintro e w3 ⟨rb, A3, hg, rfl, hs3, hF3⟩
        have HE := hide (FsV.no2 (N := N) b A1 wd1 cnt1 A2 wd2 cnt2 rb A3 hv2 rfl (unhide HMk) (unhide HMk2) (unhide HI1) (unhide HI2) hg hs3 ((unhide HT2).trans (.of hF3)))
        clear hg hs3 hF3 HC
        go_wp2
        go_ret2
        exact unhide HE
/-- Items in a slice that is none of the space's. -/
def ItAt (w : World) (B : HB) (p : Nat) (hv : Value) (ao : Option Addr) (zs : List Int) : Prop := ∃ g off, ao = some ⟨g, off, none⟩ ∧ g < w.heap.size ∧ ¬ SpK B p hv g ∧ ∀ j, j < zs.length → w.cell? ⟨g, off + j, none⟩ = some (.int .i64 (zs.getD j 0))
theorem ItAt.to {ao : Option Addr} {zs : List Int} (h : ItAt w B p hv ao zs) (k : To B p w hv w' hv1) : ItAt w' B p hv1 ao zs := by
  obtain ⟨g, off, e, h1, h2, h3⟩ := h
  exact ⟨g, off, e, (k.off h1 h2).1, (k.off h1 h2).2, fun j hj => k.cell h1 h2 (h3 j hj)⟩
set_option maxRecDepth 100000 in
set_option maxHeartbeats 4000000 in
theorem write_any (h : Sp w B n p A wd hv held cnt) (b lo : Nat) (ao : Option Addr) (len cp : Nat) (zs : List Int) (hlen : zs.length = len) (hb : roomN A b ≠ 0) (hS : ((lo + len : Nat) : Int) ≤ hS (wd b)) (hlo : lo + len ≤ 16384) (hit : ItAt w B p hv ao zs) :
    Calls Tryd.prog 37 #[.pointer (some ⟨p, 0, none⟩), .int .i64 b, .int .i64 lo, .slice ao len cp] w fun e w' => e = .returned (.tuple #[]) ∧ Sp w' B n p A (wrW wd (b + 1 + lo) zs len) hv held cnt ∧ To B p w hv w' hv := by
  have HSt : Hid (∀ W (k : Nat), k < len → Sp W B n p A (wrW wd (b + 1 + lo) zs k) hv held cnt → Calls Tryd.prog 10 #[.pointer (some ⟨p, 0, none⟩), .int .i64 b, .int .i64 ((lo : Int) + k), .int .i64 (zs.getD k 0)] W fun e w' => e = .returned (.bool true) ∧ Sp w' B n p A (wrW wd (b + 1 + lo) zs (k + 1)) hv held cnt ∧ To B p W hv w' hv) := hide fun W k hk hs => by
    have := SetS hs ((lo : Int) + k) (zs.getD k 0) (lo + k) (by omega) hb (by rw [wrW_out (by omega)]; omega)
    rw [show b + (1 + (lo + k)) = b + 1 + lo + k by omega, wrW_succ] at this
    exact this
  obtain ⟨g, off, rfl, hg1, hg2, hg3⟩ := hit
  rw [hlen] at hg3
  have HI : Hid (∀ W k, To B p w hv W hv → k < len → W.cell? ⟨g, off + k, none⟩ = some (.int .i64 (zs.getD k 0))) := hide fun W k hT hk => hT.cell hg1 hg2 (hg3 k hk)
  have HS0 := hide h
  clear h hlen hb hS hg1 hg2 hg3
  generalize zs.getD = f at *
  go_enter Tryd.func37, Tryd.ntmps37
  go_wp2
  go_loopw [12] (fun i wr => ∃ k : Nat, k ≤ len ∧ i = .int .i64 k ∧ Hid (Sp wr B n p A (wrW wd (b + 1 + lo) zs k) hv held cnt ∧ To B p w hv wr hv)) (fun i _ => len - (intOf i).toNat)
  case atStart => exact ⟨0, Nat.zero_le _, rfl, hide ⟨by rw [wrW_zero]; exact unhide HS0, To.refl _ _ _ _⟩⟩
  case round =>
    obtain ⟨k, hk, rfl, hK⟩ := hrel
    by_cases hlt : k < len
    · have HT := hide (unhide HSt wr k hlt (unhide hK).1)
      have hcell := unhide HI _ k (unhide hK).2 hlt
      have HRel : Hid (∀ W', Sp W' B n p A (wrW wd (b + 1 + lo) zs (k + 1)) hv held cnt → To B p wr hv W' hv → Sp W' B n p A (wrW wd (b + 1 + lo) zs (k + 1)) hv held cnt ∧ To B p w hv W' hv) := hide fun W' h1 h2 => ⟨h1, (unhide hK).2.trans h2⟩
      go_wp2_with fail
      refine (unhide HT).mono ?_
      rintro e w3 ⟨rfl, hs3, ht3⟩
      have HS3 := hide (unhide HRel _ hs3 ht3)
      clear hs3 ht3
      go_wp2
      go_roundw
      case rel => exact ⟨k + 1, by omega, by go_num, HS3⟩
      case measure => simp [intOf]; omega
    · have hge : ¬ (k : Int) < len := by omega
      have hge2 : decide ((k : Int) < len) = false := decide_eq_false hge
      obtain rfl : k = len := by omega
      clear hlt
      go_wp2
      go_end0
      exact ⟨rfl, (unhide hK).1, (unhide hK).2⟩
end
section
variable {w0 w w' w1 w2 : World} {B : HB} {n p : Nat} {A A' A1 A2 : Nat → Kd} {wd wd' wd1 wd2 : Nat → Int} {hv hv1 hv2 : Value} {held : List Int} {cnt cnt' : Nat} {a b lo N c k : Nat} {f : Nat → Int} {z : Int}
theorem mks_to {k s m : Int} {v : Value} (h : MkS n A wd held cnt k s m v A' wd' cnt') (hR : Right k s m) (hp : ¬ NoPlace n A (1 + s.toNat)) : ∃ a : Nat, v = .tuple #[.int .i64 (a : Int), .bool true] ∧ Goes n A (1 + s.toNat) a A' ∧ wd' = newW wd a (1 + s.toNat) (hdr k s m) ∧ cnt' = cnt := by
  cases h with
  | no hr => exact absurd hR hr
  | at_ hr a _ g => exact ⟨a, rfl, g, rfl, rfl⟩
  | gc hr hn => exact absurd hn hp
  | full hr hn => exact absurd hn hp
theorem tup_inj {x y : Int} {c d : Bool} (h : Value.tuple #[.int .i64 x, .bool c] = .tuple #[.int .i64 y, .bool d]) : x = y ∧ c = d := by
  simp at h
  exact h
theorem Olds.but {L : Nat → Prop} (h1 : Olds L A wd A1 wd1) (h2 : Olds (· = b) A1 wd1 A2 wd2) (nb : roomN A b = 0) : Olds L A wd A2 wd2 := by
  have h3 : Olds (fun x => L x ∨ x = b) A wd A2 wd2 := (h1.mono fun _ _ x => .inl x).trans (h2.mono fun _ _ x => .inr x)
  exact h3.mono fun x hx e => e.elim id fun e => absurd (e ▸ nb) hx
theorem slF0 : ∀ (x0 x1 x2 x3 : Int) (w : World), (Instr.field 54 (.agg #[.int .i64 x0, .int .i64 x1, .int .i64 x2, .int .i64 x3]) 0).run Tryd.prog w = .ok (.int .i64 x0) w := fun _ _ _ _ _ => by kernel_rfl
/-- A slice of a new array. -/
structure Two (n : Nat) (A : Nat → Kd) (wd : Nat → Int) (A2 : Nat → Kd) (wd2 : Nat → Int) (a b k N c : Nat) (f : Nat → Int) : Prop where
  go : ∃ A1, Goes n A (1 + c) b A1 ∧ Goes n A1 5 a A2
  sl : SlAt A2 wd2 a b 0 N c
  ar : ArAt A2 wd2 b k c f
  olds : Olds (fun _ => False) A wd A2 wd2
  nb : roomN A b = 0
def FtP (w : World) (B : HB) (n p : Nat) (A : Nat → Kd) (wd : Nat → Int) (hv : Value) (held : List Int) (cnt N c k : Nat) (f : Nat → Int) (e : Ending) (w' : World) : Prop :=
  ∃ (a b : Nat) (A2 : Nat → Kd) (wd2 : Nat → Int) (hv' : Value), e = .returned (.tuple #[.int .i64 (a : Int), .bool true]) ∧ Two n A wd A2 wd2 a b k N c f ∧ Sp w' B n p A2 wd2 hv' held cnt ∧ To B p w hv w' hv'
/-- There is room for an array and a slice. -/
def Roomy (n : Nat) (A : Nat → Kd) (c : Nat) : Prop := ¬ NoPlace n A (1 + c) ∧ ∀ b A1, Goes n A (1 + c) b A1 → ¬ NoPlace n A1 5
theorem fresh_to (h : Sp w B n p A wd hv held cnt) (hc : cnt < 90000) (hl : held.length < 900) (N c : Nat) (hcap : c ≤ 16384) (r : Bool) (hp : Roomy n A c) :
    Calls Tryd.prog 38 #[.pointer (some ⟨p, 0, none⟩), .int .i64 N, .int .i64 c, .bool r] w fun e w' => FtP w B n p A wd hv held cnt N c (kdR r) (fun _ => 0) e w' := by
  have hR1 := ar_right (kdR_or r) hcap
  have hR2 : Right 4 4 1 := by unfold Right; omega
  have e1 : 1 + ((c : Nat) : Int).toNat = 1 + c := by omega
  have e2 : 1 + (4 : Int).toNat = 5 := rfl
  refine (fresh_any h hc hl N c hcap r).mono ?_
  rintro e w' (⟨a, b, A1, wd1, cnt1, A2, wd2, cnt2, hv', rfl, h1, h2, hI, _, hs, ht⟩ | ⟨A1, wd1, cnt1, rfl, h1, hs, ht⟩ | ⟨b, A1, wd1, cnt1, A2, wd2, cnt2, rb, A3, hv', rfl, h1, h2, hI, hI2, hg, hs, ht⟩)
  · obtain ⟨b', eb, g1, rfl, rfl⟩ := mks_to h1 hR1 (by rw [e1]; exact hp.1)
    obtain rfl : b = b' := by have := (tup_inj eb).1; omega
    rw [e1] at g1
    obtain ⟨a', ea, g2, rfl, rfl⟩ := mks_to h2 hR2 (by rw [e2]; exact hp.2 _ _ g1)
    obtain rfl : a = a' := by have := (tup_inj ea).1; omega
    rw [e2] at g2
    rw [e1, e2] at hs
    have ho := sl_olds (fun _ => False) hI hs.inv g2 (newW wd b (1 + c) (hdr (kdR r) c 0)) b 0 N c
    exact ⟨a, b, A2, _, hv', rfl, ⟨⟨A1, g1, g2⟩, sl_new hI g2 _ b 0 N c, (ar_new (kdR_or r) hcap h.inv g1 wd).keep ho id, (Olds.new _ h.inv hI g1 (by omega) _).trans ho, (room_goes h.inv g1).1⟩, hs, ht⟩
  · obtain ⟨b', eb, _⟩ := mks_to h1 hR1 (by rw [e1]; exact hp.1)
    cases (tup_inj eb).2
  · obtain ⟨b', eb, g1, rfl, rfl⟩ := mks_to h1 hR1 (by rw [e1]; exact hp.1)
    rw [e1] at g1
    obtain ⟨a', ea, _⟩ := mks_to h2 hR2 (by rw [e2]; exact hp.2 _ _ g1)
    cases (tup_inj ea).2
set_option maxRecDepth 100000 in
set_option maxHeartbeats 4000000 in
theorem New_to (h : Sp w B n p A wd hv held cnt) (hc : cnt < 90000) (hl : held.length < 900) (N : Nat) (hcap : N ≤ 16384) (r : Bool) (hp : Roomy n A N) :
    Calls Tryd.prog 19 #[.pointer (some ⟨p, 0, none⟩), .int .i64 N, .bool r] w fun e w' => FtP w B n p A wd hv held cnt N N (kdR r) (fun _ => 0) e w' := by
  have HF := hide (fresh_to h hc hl N N hcap r hp)
  clear h hp
  go_enter Tryd.func19, Tryd.ntmps19
  go_wp2_with fail
  refine (unhide HF).mono ?_
  rintro e w' ⟨a, b, A2, wd2, hv', rfl, h2⟩
  have HE := hide h2
  clear h2 HF
  go_wp2
  go_ret2
  exact ⟨a, b, A2, wd2, hv', rfl, unhide HE⟩
set_option maxRecDepth 100000 in
set_option maxHeartbeats 4000000 in
theorem Of_to (h : Sp w B n p A wd hv held cnt) (hc : cnt < 90000) (hl : held.length < 900) (ao : Option Addr) (len cp : Nat) (zs : List Int) (hlen : zs.length = len) (hit : ItAt w B p hv ao zs) (hcap : len ≤ 16384) (r : Bool) (hp : Roomy n A len) :
    Calls Tryd.prog 18 #[.pointer (some ⟨p, 0, none⟩), .slice ao len cp, .bool r] w fun e w' => FtP w B n p A wd hv held cnt len len (kdR r) (fun j => zs.getD j 0) e w' := by
  have HN := hide (New_to h hc hl len hcap r hp)
  have HI := hide hit
  have HL := hide hlen
  have hf0 := slF0
  clear h hp hit hlen
  go_enter Tryd.func18, Tryd.ntmps18
  go_wp2_with fail
  refine (unhide HN).mono ?_
  rintro e w1 ⟨a, b, A2, wd2, hv', rfl, h2, hs, ht⟩
  have HO := hide (open_any hs a)
  have HT := hide ht
  have HS := hide hs
  have H2 := hide h2
  rw [h2.sl.get.1, h2.sl.get.2.1, h2.sl.get.2.2.1, h2.sl.get.2.2.2] at HO
  unfold slV at HO
  clear ht hs h2 HN
  go_wp2_with fail
  refine (unhide HO).mono ?_
  rintro e w2 ⟨rfl, hF2⟩
  have HT2 := hide ((unhide HT).trans (To.quiet hF2))
  have hW := write_any ((unhide HS).quiet hF2) b 0 ao len cp zs (unhide HL) (unhide H2).ar.room (by rw [(unhide H2).ar.sz]; omega) (by omega) ((unhide HI).to (unhide HT2))
  have HW := hide hW
  clear hF2 hW HO
  go_wp2_with fail
  refine (unhide HW).mono ?_
  rintro e w3 ⟨rfl, hs3, ht3⟩
  have HE : Hid (FtP w B n p A wd hv held cnt len len (kdR r) (fun j => zs.getD j 0) (.returned (.tuple #[.int .i64 (a : Int), .bool true])) w3) := hide (by
    have h2 := unhide H2
    have hl := unhide HL
    subst hl
    have hI := (unhide HS).inv
    refine ⟨a, b, A2, _, hv', rfl, ⟨h2.go, ?_, ?_, ?_, h2.nb⟩, hs3, (unhide HT2).trans ht3⟩
    · exact h2.sl.keep (h2.ar.wr_olds (K := (· = b)) hI rfl 0 zs (by omega)) (h2.sl.ne h2.ar)
    · exact (h2.ar.wr 0 zs).ext fun j hj => by rw [if_pos (by omega), Nat.sub_zero]
    · exact h2.olds.but (h2.ar.wr_olds (K := (· = b)) hI rfl 0 zs (by omega)) h2.nb)
  clear hs3 ht3 HW
  go_wp2
  go_ret2
  exact unhide HE
/-- The word z is a slice, or nil. -/
def SlOf (A : Nat → Kd) (wd : Nat → Int) (z : Int) (b lo N c : Nat) : Prop := (z = 0 ∧ b = 0 ∧ lo = 0 ∧ N = 0 ∧ c = 0) ∨ ∃ a : Nat, z = a ∧ SlAt A wd a b lo N c
theorem SlOf.get (h : SlOf A wd z b lo N c) (hI : Inv n A) : getI A wd z 0 = b ∧ getI A wd z 1 = lo ∧ getI A wd z 2 = N ∧ getI A wd z 3 = c := by
  rcases h with ⟨rfl, rfl, rfl, rfl, rfl⟩ | ⟨a, rfl, h⟩
  · exact ⟨get_nil hI 0, get_nil hI 1, get_nil hI 2, get_nil hI 3⟩
  · exact h.get
theorem open_to (h : Sp w B n p A wd hv held cnt) (hs : SlOf A wd z b lo N c) :
    Calls Tryd.prog 28 #[.pointer (some ⟨p, 0, none⟩), .int .i64 z] w fun e w' => e = .returned (.agg #[.int .i64 b, .int .i64 lo, .int .i64 N, .int .i64 c]) ∧ Fr (fun _ => False) w w' := by
  obtain ⟨e0, e1, e2, e3⟩ := hs.get h.inv
  have := open_any h z
  rw [e0, e1, e2, e3] at this
  exact this
set_option maxRecDepth 100000 in
set_option maxHeartbeats 4000000 in
theorem Size_to (h : Sp w B n p A wd hv held cnt) (hs : SlOf A wd z b lo N c) :
    Calls Tryd.prog 20 #[.pointer (some ⟨p, 0, none⟩), .int .i64 z] w fun e w' => e = .returned (.tuple #[.int .i64 N, .int .i64 c]) ∧ Fr (fun _ => False) w w' := by
  have HO : Hid (∀ W, Fr (fun _ => False) w W → Calls Tryd.prog 28 #[.pointer (some ⟨p, 0, none⟩), .int .i64 z] W fun e w' => e = .returned (.agg #[.int .i64 b, .int .i64 lo, .int .i64 N, .int .i64 c]) ∧ Fr (fun _ => False) w w') := hide fun W hF => (open_to (h.quiet hF) hs).mono fun _ _ x => ⟨x.1, hF.trans x.2⟩
  clear h hs
  go_enter Tryd.func20, Tryd.ntmps20
  go_wp2_with fail
  refine (unhide HO _ (Fr.refl _ _)).mono ?_
  rintro e w1 ⟨rfl, hF1⟩
  have HF1 := hide (hF1.alloc (slO b lo N c))
  clear hF1
  go_wp2
  go_region
  go_wp2
  go_ret2
  exact ⟨rfl, (unhide HF1).drew⟩
set_option maxRecDepth 100000 in
set_option maxHeartbeats 4000000 in
theorem At_out (h : Sp w B n p A wd hv held cnt) (hs : SlOf A wd z b lo N c) (i : Int) (hi : i < 0 ∨ (N : Int) ≤ i) :
    Calls Tryd.prog 15 #[.pointer (some ⟨p, 0, none⟩), .int .i64 z, .int .i64 i] w fun e w' => e = .returned (.tuple #[.int .i64 0, .bool false]) ∧ Fr (fun _ => False) w w' := by
  have HO := hide (open_to h hs)
  have HH : Hid (∀ W, Calls Tryd.prog 33 #[.agg #[.int .i64 b, .int .i64 lo, .int .i64 N, .int .i64 c], .int .i64 i] W fun e w' => e = .returned (.bool false) ∧ Fr (fun _ => False) W w') := hide fun W => by
    have := shas2_any b lo N c i W
    rw [show (decide (0 ≤ i) && decide (i < (N : Int))) = false by simp; omega] at this
    exact this
  clear h hs hi
  go_enter Tryd.func15, Tryd.ntmps15
  go_wp2_with fail
  refine (unhide HO).mono ?_
  rintro e w1 ⟨rfl, hF1⟩
  have HF1 := hide (hF1.alloc (slO b lo N c))
  clear hF1 HO
  go_wp2_with fail
  refine (unhide HH _).mono ?_
  rintro e w2 ⟨rfl, hF2⟩
  have HF2 := hide ((unhide HF1).trans hF2)
  clear hF2 HH
  go_wp2
  go_ret2
  exact ⟨rfl, unhide HF2⟩
set_option maxRecDepth 100000 in
set_option maxHeartbeats 4000000 in
theorem At_in (h : Sp w B n p A wd hv held cnt) (hs : SlOf A wd z b lo N c) {C i : Nat} (ha : ArAt A wd b k C f) (hi : i < N) (hl : lo + N ≤ C) :
    Calls Tryd.prog 15 #[.pointer (some ⟨p, 0, none⟩), .int .i64 z, .int .i64 i] w fun e w' => e = .returned (.tuple #[.int .i64 (f (lo + i)), .bool true]) ∧ Fr (fun _ => False) w w' := by
  have HO := hide (open_to h hs)
  have HH : Hid (∀ W, Calls Tryd.prog 33 #[.agg #[.int .i64 b, .int .i64 lo, .int .i64 N, .int .i64 c], .int .i64 i] W fun e w' => e = .returned (.bool true) ∧ Fr (fun _ => False) W w') := hide fun W => by
    have := shas2_any b lo N c i W
    rw [show (decide (0 ≤ (i : Int)) && decide ((i : Int) < (N : Int))) = true by simp; omega] at this
    exact this
  have HG : Hid (∀ W, Fr (fun _ => False) w W → Calls Tryd.prog 16 #[.pointer (some ⟨p, 0, none⟩), .int .i64 b, .int .i64 ((lo : Int) + i)] W fun e w' => e = .returned (.int .i64 (f (lo + i))) ∧ Fr (fun _ => False) w w') := hide fun W hF => by
    have := Get_any (h.quiet hF) b ((lo : Int) + i)
    rw [show (lo : Int) + i = ((lo + i : Nat) : Int) by omega, ha.get (by omega)] at this
    rw [show (lo : Int) + i = ((lo + i : Nat) : Int) by omega]
    exact this.mono fun _ _ x => ⟨x.1, hF.trans x.2⟩
  have hC := ha.le
  have hb1 : (lo : Int) + i < 9223372036854775808 := by omega
  clear h hs ha
  generalize f (lo + i) = v at *
  go_enter Tryd.func15, Tryd.ntmps15
  go_wp2_with fail
  refine (unhide HO).mono ?_
  rintro e w1 ⟨rfl, hF1⟩
  have HF1 := hide (hF1.alloc (slO b lo N c))
  have HC1 := hide (SlC.new w1 b lo N c)
  clear hF1 HO
  go_wp2_with fail
  refine (unhide HH _).mono ?_
  rintro e w2 ⟨rfl, hF2⟩
  have HF2 := hide ((unhide HF1).trans hF2)
  have cc := ((unhide HC1).quiet hF2).cells
  clear hF2 HH HC1
  generalize w1.heap.size = M at *
  go_wp2_with fail
  refine (unhide HG _ (unhide HF2)).mono ?_
  rintro e w3 ⟨rfl, hF3⟩
  have HF3 := hide hF3
  clear hF3 HG
  go_wp2
  go_ret2
  exact ⟨rfl, unhide HF3⟩
end
section
variable {w0 w w' w1 w2 : World} {B : HB} {n p : Nat} {A A' A1 A2 : Nat → Kd} {wd wd' wd1 wd2 : Nat → Int} {hv hv1 hv2 : Value} {held : List Int} {cnt cnt' : Nat} {a b lo N c k : Nat} {f : Nat → Int} {z : Int}
set_option maxRecDepth 100000 in
set_option maxHeartbeats 4000000 in
theorem Put_out (h : Sp w B n p A wd hv held cnt) (hs : SlOf A wd z b lo N c) (i v : Int) (hi : i < 0 ∨ (N : Int) ≤ i) :
    Calls Tryd.prog 22 #[.pointer (some ⟨p, 0, none⟩), .int .i64 z, .int .i64 i, .int .i64 v] w fun e w' => e = .returned (.bool false) ∧ Fr (fun _ => False) w w' := by
  have HO := hide (open_to h hs)
  have HH : Hid (∀ W, Calls Tryd.prog 33 #[.agg #[.int .i64 b, .int .i64 lo, .int .i64 N, .int .i64 c], .int .i64 i] W fun e w' => e = .returned (.bool false) ∧ Fr (fun _ => False) W w') := hide fun W => by
    have := shas2_any b lo N c i W
    rw [show (decide (0 ≤ i) && decide (i < (N : Int))) = false by simp; omega] at this
    exact this
  clear h hs hi
  go_enter Tryd.func22, Tryd.ntmps22
  go_wp2_with fail
  refine (unhide HO).mono ?_
  rintro e w1 ⟨rfl, hF1⟩
  have HF1 := hide (hF1.alloc (slO b lo N c))
  clear hF1 HO
  go_wp2_with fail
  refine (unhide HH _).mono ?_
  rintro e w2 ⟨rfl, hF2⟩
  have HF2 := hide ((unhide HF1).trans hF2)
  clear hF2 HH
  go_wp2
  go_ret
  exact ⟨rfl, unhide HF2⟩
set_option maxRecDepth 100000 in
set_option maxHeartbeats 4000000 in
theorem Put_in (h : Sp w B n p A wd hv held cnt) (hs : SlOf A wd z b lo N c) {C i : Nat} (v : Int) (ha : ArAt A wd b k C f) (hi : i < N) (hl : lo + N ≤ C) :
    Calls Tryd.prog 22 #[.pointer (some ⟨p, 0, none⟩), .int .i64 z, .int .i64 i, .int .i64 v] w fun e w' => e = .returned (.bool true) ∧ Sp w' B n p A (upd wd (b + (1 + (lo + i))) v) hv held cnt ∧ To B p w hv w' hv := by
  have HO := hide (open_to h hs)
  have HH : Hid (∀ W, Calls Tryd.prog 33 #[.agg #[.int .i64 b, .int .i64 lo, .int .i64 N, .int .i64 c], .int .i64 i] W fun e w' => e = .returned (.bool true) ∧ Fr (fun _ => False) W w') := hide fun W => by
    have := shas2_any b lo N c i W
    rw [show (decide (0 ≤ (i : Int)) && decide ((i : Int) < (N : Int))) = true by simp; omega] at this
    exact this
  have HG : Hid (∀ W, Fr (fun _ => False) w W → Calls Tryd.prog 10 #[.pointer (some ⟨p, 0, none⟩), .int .i64 b, .int .i64 ((lo : Int) + i), .int .i64 v] W fun e w' => e = .returned (.bool true) ∧ Sp w' B n p A (upd wd (b + (1 + (lo + i))) v) hv held cnt ∧ To B p w hv w' hv) := hide fun W hF =>
    (SetS (h.quiet hF) ((lo : Int) + i) v (lo + i) (by omega) ha.room (by rw [ha.sz]; omega)).mono fun _ _ x => ⟨x.1, x.2.1, (To.quiet hF).trans x.2.2⟩
  have hC := ha.le
  have hb1 : (lo : Int) + i < 9223372036854775808 := by omega
  clear h hs ha
  go_enter Tryd.func22, Tryd.ntmps22
  go_wp2_with fail
  refine (unhide HO).mono ?_
  rintro e w1 ⟨rfl, hF1⟩
  have HF1 := hide (hF1.alloc (slO b lo N c))
  have HC1 := hide (SlC.new w1 b lo N c)
  clear hF1 HO
  go_wp2_with fail
  refine (unhide HH _).mono ?_
  rintro e w2 ⟨rfl, hF2⟩
  have HF2 := hide ((unhide HF1).trans hF2)
  have cc := ((unhide HC1).quiet hF2).cells
  clear hF2 HH HC1
  generalize w1.heap.size = M at *
  go_wp2_with fail
  refine (unhide HG _ (unhide HF2)).mono ?_
  rintro e w3 ⟨rfl, hs3, ht3⟩
  have HS3 := hide hs3
  have HT3 := hide ht3
  clear hs3 ht3 HG
  go_wp2
  go_ret
  exact ⟨rfl, unhide HS3, unhide HT3⟩
theorem ArAt.put (h : ArAt A wd b k c f) (i : Nat) (v : Int) : ArAt A (upd wd (b + (1 + i)) v) b k c (fun j => if j = i then v else f j) := by
  refine ⟨h.room, h.big, h.kin, h.le, by rw [upd_ne _ _ (by omega)]; exact h.hd, fun j hj => ?_⟩
  by_cases e : j = i
  · rw [if_pos e, e, show b + 1 + i = b + (1 + i) by omega, upd_same]
  · rw [if_neg e, upd_ne _ _ (by omega)]; exact h.it j hj
theorem ArAt.put_olds (h : ArAt A wd b k c f) (hI : Inv n A) {i : Nat} (hi : i < c) (v : Int) : Olds (· = b) A wd A (upd wd (b + (1 + i)) v) := by
  have := h.big
  exact Olds.put hI h.room rfl fun x hx => upd_ne _ _ (by omega)
set_option maxRecDepth 100000 in
set_option maxHeartbeats 4000000 in
theorem Cut_no (h : Sp w B n p A wd hv held cnt) (hs : SlOf A wd z b lo N c) (l u : Int) (hlu : ¬ (0 ≤ l ∧ l ≤ u ∧ u ≤ c)) :
    Calls Tryd.prog 21 #[.pointer (some ⟨p, 0, none⟩), .int .i64 z, .int .i64 l, .int .i64 u] w fun e w' => e = .returned (.tuple #[.int .i64 0, .bool false]) ∧ Fr (fun _ => False) w w' := by
  have HO := hide (open_to h hs)
  clear h hs
  rcases (show l < 0 ∨ (0 ≤ l ∧ u < l) ∨ (0 ≤ l ∧ l ≤ u ∧ (c : Int) < u) by omega) with h1 | ⟨h1, h2⟩ | ⟨h1, h2, h3⟩
  all_goals
    clear hlu
    go_enter Tryd.func21, Tryd.ntmps21
    go_wp2_with fail
    refine (unhide HO).mono ?_
    rintro e w1 ⟨rfl, hF1⟩
    have HF1 := hide (hF1.alloc (slO b lo N c))
    clear hF1 HO
    go_wp2
    go_ret2
    exact ⟨rfl, unhide HF1⟩
/-- A slice of the same array. -/
structure One (n : Nat) (A : Nat → Kd) (wd : Nat → Int) (A2 : Nat → Kd) (wd2 : Nat → Int) (a b lo N c : Nat) : Prop where
  go : Goes n A 5 a A2
  sl : SlAt A2 wd2 a b lo N c
  olds : Olds (fun _ => False) A wd A2 wd2
theorem block_to (h : Sp w B n p A wd hv held cnt) (hc : cnt < 90000) (hl : held.length < 900) (b lo N c : Nat) (hb : b < 100000) (hp : ¬ NoPlace n A 5) (x1 x2 x3 : Int) (e1 : x1 = lo) (e2 : x2 = N) (e3 : x3 = c) :
    Calls Tryd.prog 39 #[.pointer (some ⟨p, 0, none⟩), .agg #[.int .i64 b, .int .i64 x1, .int .i64 x2, .int .i64 x3]] w fun e w' => ∃ (a : Nat) (A2 : Nat → Kd) (wd2 : Nat → Int) (hv' : Value), e = .returned (.tuple #[.int .i64 (a : Int), .bool true]) ∧ One n A wd A2 wd2 a b lo N c ∧ Sp w' B n p A2 wd2 hv' held cnt ∧ To B p w hv w' hv' := by
  subst e1 e2 e3
  have hR2 : Right 4 4 1 := by unfold Right; omega
  have e2 : 1 + (4 : Int).toNat = 5 := rfl
  refine (block_any h (by omega) hl b lo N c (by omega)).mono ?_
  rintro e w' (⟨a, A2, wd2, cnt2, hv', rfl, h2, _, hs, ht⟩ | ⟨A2, wd2, cnt2, hv', rfl, h2, _, hs, ht⟩)
  · obtain ⟨a', ea, g2, rfl, rfl⟩ := mks_to h2 hR2 (by rw [e2]; exact hp)
    obtain rfl : a = a' := by have := (tup_inj ea).1; omega
    rw [e2] at g2 hs
    exact ⟨a, A2, _, hv', rfl, ⟨g2, sl_new h.inv g2 _ b lo N c, sl_olds _ h.inv hs.inv g2 wd b lo N c⟩, hs, ht⟩
  · obtain ⟨a', ea, _⟩ := mks_to h2 hR2 (by rw [e2]; exact hp)
    cases (tup_inj ea).2
set_option maxRecDepth 100000 in
set_option maxHeartbeats 4000000 in
theorem Cut_to (h : Sp w B n p A wd hv held cnt) (hc : cnt < 90000) (hl : held.length < 900) (hs : SlAt A wd a b lo N c) (hb : b < 100000) (hlo : lo ≤ 16384) (hcc : c ≤ 16384) {l u : Nat} (h1 : l ≤ u) (h2 : u ≤ c) (hp : ¬ NoPlace n A 5) :
    Calls Tryd.prog 21 #[.pointer (some ⟨p, 0, none⟩), .int .i64 a, .int .i64 l, .int .i64 u] w fun e w' => ∃ (x : Nat) (A2 : Nat → Kd) (wd2 : Nat → Int) (hv' : Value), e = .returned (.tuple #[.int .i64 (x : Int), .bool true]) ∧ One n A wd A2 wd2 x b (lo + l) (u - l) (c - l) ∧ Sp w' B n p A2 wd2 hv' held cnt ∧ To B p w hv w' hv' := by
  have HO := hide (open_to h (.inr ⟨a, rfl, hs⟩))
  have ha0 : a ≠ 0 := fun e => by have := (room_in h.inv hs.room).1; omega
  have haz : ¬ (a : Int) = 0 := by omega
  have HB : Hid (∀ W, Fr (fun _ => False) w W → Calls Tryd.prog 39 #[.pointer (some ⟨p, 0, none⟩), .agg #[.int .i64 b, .int .i64 ((lo : Int) + l), .int .i64 ((u : Int) - l), .int .i64 ((c : Int) - l)]] W fun e w' => ∃ (x : Nat) (A2 : Nat → Kd) (wd2 : Nat → Int) (hv' : Value), e = .returned (.tuple #[.int .i64 (x : Int), .bool true]) ∧ One n A wd A2 wd2 x b (lo + l) (u - l) (c - l) ∧ Sp w' B n p A2 wd2 hv' held cnt ∧ To B p w hv w' hv') := hide fun W hF => by
    refine (block_to (h.quiet hF) hc hl b (lo + l) (u - l) (c - l) hb hp _ _ _ (by omega) (by omega) (by omega)).mono ?_
    rintro e w' ⟨x, A2, wd2, hv', rfl, ho, hs, ht⟩
    exact ⟨x, A2, wd2, hv', rfl, ho, hs, (To.quiet hF).trans ht⟩
  clear h hs
  go_enter Tryd.func21, Tryd.ntmps21
  go_wp2_with fail
  refine (unhide HO).mono ?_
  rintro e w1 ⟨rfl, hF1⟩
  have HF1 := hide (hF1.alloc (slO b lo N c))
  clear hF1 HO
  go_wp2_with fail
  refine (unhide HB _ (unhide HF1)).mono ?_
  rintro e w2 ⟨x, A2, wd2, hv', rfl, hE⟩
  have HE := hide hE
  clear hE
  go_wp2
  go_ret2
  exact ⟨x, A2, wd2, hv', rfl, unhide HE⟩
end
section
variable {w0 w w' w1 w2 : World} {B : HB} {n p : Nat} {A A' A1 A2 : Nat → Kd} {wd wd' wd1 wd2 : Nat → Int} {hv hv1 hv2 : Value} {held : List Int} {cnt cnt' : Nat} {a b lo N c k : Nat} {f : Nat → Int} {z : Int}
/-- What is put behind. -/
def behF (f : Nat → Int) (o : Nat) (zs : List Int) : Nat → Int := fun j => if o ≤ j ∧ j < o + zs.length then zs.getD (j - o) 0 else f j
/-- A slice of the same array, with items behind. -/
structure Ext (n : Nat) (A : Nat → Kd) (wd : Nat → Int) (A2 : Nat → Kd) (wd2 : Nat → Int) (a b lo N c k C : Nat) (f : Nat → Int) : Prop where
  go : Goes n A 5 a A2
  sl : SlAt A2 wd2 a b lo N c
  ar : ArAt A2 wd2 b k C f
  olds : Olds (· = b) A wd A2 wd2
def ExP (w : World) (B : HB) (n p : Nat) (A : Nat → Kd) (wd : Nat → Int) (hv : Value) (held : List Int) (cnt b lo N c k C : Nat) (f : Nat → Int) (e : Ending) (w' : World) : Prop :=
  ∃ (a : Nat) (A2 : Nat → Kd) (wd2 : Nat → Int) (hv' : Value), e = .returned (.tuple #[.int .i64 (a : Int), .bool true]) ∧ Ext n A wd A2 wd2 a b lo N c k C f ∧ Sp w' B n p A2 wd2 hv' held cnt ∧ To B p w hv w' hv'
set_option maxRecDepth 100000 in
set_option maxHeartbeats 4000000 in
theorem extend_to (h : Sp w B n p A wd hv held cnt) (hc : cnt < 90000) (hl : held.length < 900) {C : Nat} (ha : ArAt A wd b k C f) (hb : b < 100000) (ao : Option Addr) (len cp : Nat) (zs : List Int) (hlen : zs.length = len) (hit : ItAt w B p hv ao zs) (hN : N + len ≤ c) (hC : lo + c ≤ C) (hp : ¬ NoPlace n A 5) :
    Calls Tryd.prog 29 #[.pointer (some ⟨p, 0, none⟩), .agg #[.int .i64 b, .int .i64 lo, .int .i64 N, .int .i64 c], .slice ao len cp] w fun e w' => ExP w B n p A wd hv held cnt b lo (N + len) c k C (behF f (lo + N) zs) e w' := by
  have hF0 := (Fr.refl (fun _ => False) w).alloc (slO b lo N c)
  have HT0 := hide (To.quiet (B := B) (p := p) (hv := hv) hF0)
  have HC0 := hide (SlC.new w b lo N c)
  have HN0 : Hid (w.heap.size < (w.alloc (slO b lo N c)).heap.size ∧ ¬ SpK B p hv w.heap.size) := hide ⟨by simp, fun k => by have := (h.lt k).2; omega⟩
  have HB := hide (block_to (h.quiet hF0) hc hl b lo (N + len) c hb hp lo ((N : Int) + len) c rfl (by omega) rfl)
  have HI := hide (hit.to (unhide HT0))
  have HL := hide hlen
  have HA := hide ha
  have hCl := ha.le
  clear h ha hF0 hit hlen
  go_enter Tryd.func29, Tryd.ntmps29
  go_wp2_with fail
  refine (unhide HB).mono ?_
  rintro e w1 ⟨a, A2, wd2, hv1, rfl, ho, hs1, ht1⟩
  have HC1 := hide ((unhide HC0).to ht1 (unhide HN0).2)
  have hA1 := (unhide HA).keep ho.olds id
  have hW := write_any hs1 b (lo + N) ao len cp zs (unhide HL) hA1.room (by rw [hA1.sz]; omega) (by omega) ((unhide HI).to ht1)
  rw [show ((lo + N : Nat) : Int) = (lo : Int) + N by omega] at hW
  have HW := hide hW
  have HT1 := hide ((unhide HT0).trans ht1)
  have HO := hide ho
  have HA1 := hide hA1
  have HI1 := hide hs1.inv
  have cc := (unhide HC1).cells
  clear hs1 ht1 ho hA1 hW HB HI
  generalize w.heap.size = M at *
  go_wp2_with fail
  refine (unhide HW).mono ?_
  rintro e w2 ⟨rfl, hs2, ht2⟩
  have HE : Hid (ExP w B n p A wd hv held cnt b lo (N + len) c k C (behF f (lo + N) zs) (.returned (.tuple #[.int .i64 (a : Int), .bool true])) w2) := hide (by
    have hl := unhide HL
    subst hl
    have h1 := unhide HA1
    have hw := h1.wr_olds (K := (· = b)) (unhide HI1) rfl (lo + N) zs (by omega)
    rw [show b + 1 + (lo + N) = b + 1 + (lo + N) from rfl] at hs2
    exact ⟨a, A2, _, hv1, rfl, ⟨(unhide HO).go, (unhide HO).sl.keep hw ((unhide HO).sl.ne h1), h1.wr (lo + N) zs, ((unhide HO).olds.mono fun _ _ x => x.elim).trans hw⟩, hs2, (unhide HT1).trans ht2⟩)
  clear hs2 ht2 HW cc
  go_wp2
  go_ret2
  exact unhide HE
/-- The items of both. -/
def groF (f : Nat → Int) (lo N : Nat) (zs : List Int) : Nat → Int := fun j => if j < N then f (lo + j) else if j < N + zs.length then zs.getD (j - N) 0 else 0
def capG (c t : Nat) : Nat := max (2 * c) t
theorem map_getD (f : Nat → Int) (N k : Nat) (hk : k < N) : ((List.range N).map f).getD k 0 = f k := by
  rw [List.getD_eq_getElem?_getD, List.getElem?_map, List.getElem?_range hk]; rfl
set_option maxRecDepth 100000 in
set_option maxHeartbeats 8000000 in
theorem grow_to (h : Sp w B n p A wd hv held cnt) (hc : cnt < 90000) (hl : held.length < 900) {C : Nat} (ha : 0 < N → ArAt A wd b k C f ∧ lo + N ≤ C) (ao : Option Addr) (len cp : Nat) (zs : List Int) (hlen : zs.length = len) (hit : ItAt w B p hv ao zs) (ht : N + len ≤ 16384) (h2c : 2 * c ≤ 16384) (hlo : lo ≤ 16384) (r : Bool) (hp : Roomy n A (capG c (N + len))) :
    Calls Tryd.prog 30 #[.pointer (some ⟨p, 0, none⟩), .agg #[.int .i64 b, .int .i64 lo, .int .i64 N, .int .i64 c], .slice ao len cp, .bool r] w fun e w' => FtP w B n p A wd hv held cnt (N + len) (capG c (N + len)) (kdR r) (groF f lo N zs) e w' := by
  have hcl : capG c (N + len) ≤ 16384 := by unfold capG; omega
  have hct : N + len ≤ capG c (N + len) := by unfold capG; omega
  have hcz : (2 * (c : Int) < (N : Int) + len ∧ ((capG c (N + len) : Nat) : Int) = (N : Int) + len) ∨ ((N : Int) + len ≤ 2 * c ∧ ((capG c (N + len) : Nat) : Int) = 2 * c) := by
    unfold capG
    omega
  have hF0 := (Fr.refl (fun _ => False) w).alloc (slO b lo N c)
  have HT0 := hide (To.quiet (B := B) (p := p) (hv := hv) hF0)
  have HC0 := hide (SlC.new w b lo N c)
  have HN0 : Hid (w.heap.size < (w.alloc (slO b lo N c)).heap.size ∧ ¬ SpK B p hv w.heap.size) := hide ⟨by simp, fun k => by have := (h.lt k).2; omega⟩
  have hFr := fresh_to (h.quiet hF0) hc hl (N + len) (capG c (N + len)) hcl r hp
  rw [show ((N + len : Nat) : Int) = (N : Int) + len by omega] at hFr
  have HI := hide (hit.to (unhide HT0))
  have HL := hide hlen
  have HA := hide ha
  have hf0 := slF0
  clear h hp ha hlen hit hF0
  generalize capG c (N + len) = d at *
  have hb1 : (N : Int) + len ≤ 16384 := by omega
  have hb2 : 2 * (c : Int) ≤ 16384 := by omega
  have HFr := hide hFr
  clear hFr
  rcases hcz with ⟨hcz, hcd⟩ | ⟨hcz, hcd⟩
  all_goals
    have HD := hide hcd
    rw [hcd] at HFr
    clear hcd
    go_enter Tryd.func30, Tryd.ntmps30
    go_wp2_with fail
    refine (unhide HFr).mono ?_
    rintro e w1 ⟨a, b', A2, wd2, hv1, rfl, h2, hs1, ht1⟩
    have HC1 := hide ((unhide HC0).to ht1 (unhide HN0).2)
    have HN1 := hide (ht1.off (unhide HN0).1 (unhide HN0).2)
    have HO := hide (open_to hs1 (.inr ⟨a, rfl, h2.sl⟩))
    have HS1 := hide hs1
    have HT1 := hide ((unhide HT0).trans ht1)
    have HI1 := hide ((unhide HI).to ht1)
    have H2 := hide h2
    clear h2 hs1 ht1 HFr
    generalize w.heap.size = M at *
    go_wp2_with fail
    refine (unhide HO).mono ?_
    rintro e w2 ⟨rfl, hF2⟩
    have HC2 := hide ((unhide HC1).quiet hF2)
    have HS2 := hide ((unhide HS1).quiet hF2)
    have HT2 := hide ((unhide HT1).trans (To.quiet hF2))
    have HN2 := hide ((To.quiet (B := B) (p := p) (hv := hv1) hF2).off (unhide HN1).1 (unhide HN1).2)
    have HI2 := hide ((unhide HI1).to (To.quiet hF2))
    have HG : Hid (∀ W (j : Nat), j < N → Sp W B n p A2 (wrW wd2 (b' + 1 + 0) ((List.range N).map fun j => f (lo + j)) j) hv1 held cnt → Calls Tryd.prog 16 #[.pointer (some ⟨p, 0, none⟩), .int .i64 b, .int .i64 ((lo : Int) + j)] W fun e w' => e = .returned (.int .i64 (f (lo + j))) ∧ Fr (fun _ => False) W w') := hide fun W j hj hs => by
      obtain ⟨ha, hC⟩ := unhide HA (by omega)
      have h2 := unhide H2
      have hne : ¬ b = b' := fun e => ha.room (by rw [e]; exact h2.nb)
      have hw : Olds (· = b') A2 wd2 A2 (wrW wd2 (b' + 1 + 0) ((List.range N).map fun j => f (lo + j)) j) := Olds.put hs.inv h2.ar.room rfl fun x hx => wrW_out (by have := h2.ar.big; omega)
      have h3 := (ha.keep h2.olds id).keep hw hne
      have := Get_any hs b ((lo : Int) + j)
      rw [show (lo : Int) + j = ((lo + j : Nat) : Int) by omega, h3.get (by omega)] at this
      rw [show (lo : Int) + j = ((lo + j : Nat) : Int) by omega]
      exact this
    have HSt : Hid (∀ W (j : Nat), j < N → Sp W B n p A2 (wrW wd2 (b' + 1 + 0) ((List.range N).map fun j => f (lo + j)) j) hv1 held cnt → Calls Tryd.prog 10 #[.pointer (some ⟨p, 0, none⟩), .int .i64 b', .int .i64 (j : Int), .int .i64 (f (lo + j))] W fun e w' => e = .returned (.bool true) ∧ Sp w' B n p A2 (wrW wd2 (b' + 1 + 0) ((List.range N).map fun j => f (lo + j)) (j + 1)) hv1 held cnt ∧ To B p W hv1 w' hv1) := hide fun W j hj hs => by
      have h2 := unhide H2
      have := SetS hs (j : Int) (f (lo + j)) j rfl h2.ar.room (by rw [wrW_out (by omega), h2.ar.sz]; omega)
      rw [show b' + (1 + j) = b' + 1 + 0 + j by omega, show f (lo + j) = ((List.range N).map fun j => f (lo + j)).getD j 0 from (map_getD (fun j => f (lo + j)) N j hj).symm, wrW_succ, map_getD (fun j => f (lo + j)) N j hj] at this
      exact this
    have HWr : Hid (∀ W, Sp W B n p A2 (wrW wd2 (b' + 1 + 0) ((List.range N).map fun j => f (lo + j)) N) hv1 held cnt → To B p w2 hv1 W hv1 → Calls Tryd.prog 37 #[.pointer (some ⟨p, 0, none⟩), .int .i64 b', .int .i64 N, .slice ao len cp] W fun e w' => e = .returned (.tuple #[]) ∧ FtP w B n p A wd hv held cnt (N + len) d (kdR r) (groF f lo N zs) (.returned (.tuple #[.int .i64 (a : Int), .bool true])) w') := hide fun W hs hT => by
      have h2 := unhide H2
      have hl := unhide HL
      subst hl
      have hg : ((List.range N).map fun j => f (lo + j)).length = N := by simp
      have ha1 := h2.ar.wr 0 ((List.range N).map fun j => f (lo + j))
      have hw1 := h2.ar.wr_olds (K := (· = b')) (unhide HS1).inv rfl 0 ((List.range N).map fun j => f (lo + j)) (by omega)
      rw [hg] at ha1 hw1
      refine (write_any hs b' N ao zs.length cp zs rfl ha1.room (by rw [ha1.sz]; omega) (by omega) ((unhide HI2).to hT)).mono ?_
      rintro e w' ⟨rfl, hs3, ht3⟩
      have hw2 := ha1.wr_olds (K := (· = b')) (unhide HS1).inv rfl N zs (by omega)
      refine ⟨rfl, a, b', A2, _, hv1, rfl, ⟨h2.go, (h2.sl.keep hw1 (h2.sl.ne h2.ar)).keep hw2 (h2.sl.ne h2.ar), (ha1.wr N zs).ext fun j hj => ?_, (h2.olds.but hw1 h2.nb).but hw2 h2.nb, h2.nb⟩, hs3, ((unhide HT2).trans hT).trans ht3⟩
      unfold groF
      by_cases e1 : j < N
      · rw [if_neg (by omega), if_pos (by omega), if_pos e1, Nat.sub_zero, map_getD (fun j => f (lo + j)) N j e1]
      · by_cases e2 : j < N + zs.length
        · rw [if_pos (by omega), if_neg e1, if_pos e2]
        · rw [if_neg (by omega), if_neg (by omega), if_neg e1, if_neg e2]
    have HS0 : Hid (Sp w2 B n p A2 (wrW wd2 (b' + 1 + 0) ((List.range N).map fun j => f (lo + j)) 0) hv1 held cnt) := hide (by rw [wrW_zero]; exact unhide HS2)
    have HCC : Hid (∀ W, To B p w2 hv1 W hv1 → SlC W M b lo N c) := hide fun W hT => (unhide HC2).to hT (unhide HN2).2
    have cc := (unhide HC2).cells
    clear hF2 HO HC2 HS2
    go_wp2
    go_loopw [41] (fun i wr => ∃ j : Nat, j ≤ N ∧ i = .int .i64 j ∧ Hid (Sp wr B n p A2 (wrW wd2 (b' + 1 + 0) ((List.range N).map fun j => f (lo + j)) j) hv1 held cnt ∧ To B p w2 hv1 wr hv1)) (fun i _ => N - (intOf i).toNat)
    case atStart => exact ⟨0, Nat.zero_le _, rfl, hide ⟨unhide HS0, To.refl _ _ _ _⟩⟩
    case round =>
      obtain ⟨j, hj, rfl, hK⟩ := hrel
      clear cc
      have cc := (unhide HCC _ (unhide hK).2).cells
      by_cases hlt : j < N
      · have HG1 := hide (unhide HG wr j hlt (unhide hK).1)
        have hb3 : (lo : Int) + j < 9223372036854775808 := by omega
        go_wp2_with fail
        refine (unhide HG1).mono ?_
        rintro e w3 ⟨rfl, hF3⟩
        have HT := hide (unhide HSt w3 j hlt ((unhide hK).1.quiet hF3))
        have HQ := hide ((unhide hK).2.trans (To.quiet hF3))
        clear hF3
        go_wp2_with fail
        refine (unhide HT).mono ?_
        rintro e w4 ⟨rfl, hs4, ht4⟩
        have HS4 := hide (And.intro hs4 ((unhide HQ).trans ht4))
        clear hs4 ht4
        go_wp2
        go_roundw
        case rel => exact ⟨j + 1, by omega, by go_num, HS4⟩
        case measure => simp [intOf]; omega
      · have hge : ¬ (j : Int) < N := by omega
        have hge2 : decide ((j : Int) < N) = false := decide_eq_false hge
        obtain rfl : j = N := by omega
        have HW := hide (unhide HWr _ (unhide hK).1 (unhide hK).2)
        clear hlt
        go_wp2_with fail
        refine (unhide HW).mono ?_
        rintro e w5 ⟨rfl, hE⟩
        have HE := hide hE
        clear hE
        go_wp2
        go_ret2
        exact unhide HE
end
section
variable {w0 w w' w1 w2 : World} {B : HB} {n p m d q : Nat} {A A' A1 A2 : Nat → Kd} {wd wd' wd1 wd2 : Nat → Int} {hv hv1 hv2 : Value} {held : List Int} {cnt cnt' : Nat} {a b lo N c k : Nat} {f : Nat → Int} {z : Int}
set_option maxRecDepth 100000 in
set_option maxHeartbeats 4000000 in
theorem Append_ext (h : Sp w B n p A wd hv held cnt) (hc : cnt < 90000) (hl : held.length < 900) (hs : SlOf A wd z b lo N c) {C : Nat} (ha : ArAt A wd b k C f) (hb : b < 100000) (ao : Option Addr) (len cp : Nat) (zs : List Int) (hlen : zs.length = len) (h0 : 0 < len) (hit : ItAt w B p hv ao zs) (hN : N + len ≤ c) (hC : lo + c ≤ C) (hp : ¬ NoPlace n A 5) (r : Bool) :
    Calls Tryd.prog 12 #[.pointer (some ⟨p, 0, none⟩), .int .i64 z, .slice ao len cp, .bool r] w fun e w' => ExP w B n p A wd hv held cnt b lo (N + len) c k C (behF f (lo + N) zs) e w' := by
  have HO := hide (open_to h hs)
  have HB : Hid (∀ W, Fr (fun _ => False) w W → Calls Tryd.prog 29 #[.pointer (some ⟨p, 0, none⟩), .agg #[.int .i64 b, .int .i64 lo, .int .i64 N, .int .i64 c], .slice ao len cp] W fun e w' => ExP w B n p A wd hv held cnt b lo (N + len) c k C (behF f (lo + N) zs) e w') := hide fun W hF => by
    refine (extend_to (h.quiet hF) hc hl ha hb ao len cp zs hlen (hit.to (To.quiet hF)) hN hC hp).mono ?_
    rintro e w' ⟨a, A2, wd2, hv', rfl, ho, hs, ht⟩
    exact ⟨a, A2, wd2, hv', rfl, ho, hs, (To.quiet hF).trans ht⟩
  have hle := ha.le
  have h1 : ¬ (len : Int) = 0 := by omega
  have h2 : ¬ (16384 : Int) - len < N := by omega
  have h3 : (N : Int) + len ≤ c := by omega
  have h4 : (c : Int) ≤ 16384 := by omega
  clear h hs ha hlen hit hp
  go_enter Tryd.func12, Tryd.ntmps12
  go_wp2_with fail
  refine (unhide HO).mono ?_
  rintro e w1 ⟨rfl, hF1⟩
  have HF1 := hide (hF1.alloc (slO b lo N c))
  clear hF1 HO
  go_wp2_with fail
  refine (unhide HB _ (unhide HF1)).mono ?_
  rintro e w2 ⟨x, A2, wd2, hv', rfl, hE⟩
  have HE := hide hE
  clear hE
  go_wp2
  go_ret2
  exact ⟨x, A2, wd2, hv', rfl, unhide HE⟩
set_option maxRecDepth 100000 in
set_option maxHeartbeats 4000000 in
theorem Append_gro (h : Sp w B n p A wd hv held cnt) (hc : cnt < 90000) (hl : held.length < 900) (hs : SlOf A wd z b lo N c) {C : Nat} (ha : 0 < N → ArAt A wd b k C f ∧ lo + N ≤ C) (ao : Option Addr) (len cp : Nat) (zs : List Int) (hlen : zs.length = len) (h0 : 0 < len) (hit : ItAt w B p hv ao zs) (hN : c < N + len) (ht : N + len ≤ 16384) (h2c : 2 * c ≤ 16384) (hlo : lo ≤ 16384) (r : Bool) (hp : Roomy n A (capG c (N + len))) :
    Calls Tryd.prog 12 #[.pointer (some ⟨p, 0, none⟩), .int .i64 z, .slice ao len cp, .bool r] w fun e w' => FtP w B n p A wd hv held cnt (N + len) (capG c (N + len)) (kdR r) (groF f lo N zs) e w' := by
  have HO := hide (open_to h hs)
  have HB : Hid (∀ W, Fr (fun _ => False) w W → Calls Tryd.prog 30 #[.pointer (some ⟨p, 0, none⟩), .agg #[.int .i64 b, .int .i64 lo, .int .i64 N, .int .i64 c], .slice ao len cp, .bool r] W fun e w' => FtP w B n p A wd hv held cnt (N + len) (capG c (N + len)) (kdR r) (groF f lo N zs) e w') := hide fun W hF => by
    refine (grow_to (h.quiet hF) hc hl ha ao len cp zs hlen (hit.to (To.quiet hF)) ht h2c hlo r hp).mono ?_
    rintro e w' ⟨a, b2, A2, wd2, hv', rfl, ho, hs, ht⟩
    exact ⟨a, b2, A2, wd2, hv', rfl, ho, hs, (To.quiet hF).trans ht⟩
  have h1 : ¬ (len : Int) = 0 := by omega
  have h2 : ¬ (16384 : Int) - len < N := by omega
  have h3 : ¬ (N : Int) + len ≤ c := by omega
  have h4 : (N : Int) + len ≤ 16384 := by omega
  clear h hs ha hlen hit hp hN ht
  generalize capG c (N + len) = d at *
  go_enter Tryd.func12, Tryd.ntmps12
  go_wp2_with fail
  refine (unhide HO).mono ?_
  rintro e w1 ⟨rfl, hF1⟩
  have HF1 := hide (hF1.alloc (slO b lo N c))
  clear hF1 HO
  go_wp2_with fail
  refine (unhide HB _ (unhide HF1)).mono ?_
  rintro e w2 ⟨x, b2, A2, wd2, hv', rfl, hE⟩
  have HE := hide hE
  clear hE
  go_wp2
  go_ret2
  exact ⟨x, b2, A2, wd2, hv', rfl, unhide HE⟩
/-- The free spans are the last ones. -/
def Suf (n : Nat) (A : Nat → Kd) (c : Nat) : Prop := ∃ h, 1 ≤ h ∧ h ≤ 1 + c ∧ ∀ t, A t = .free ↔ h ≤ t ∧ t < n
theorem Suf.start (n : Nat) : Suf n (emptyA n) 0 := by
  refine ⟨1, by omega, by omega, fun t => ?_⟩
  unfold emptyA
  split
  · simp; omega
  · simp; omega
theorem Suf.place (h : Suf n A c) (hm : (m + 63) / 64 ≤ d) (hd : 1 ≤ d) (hn : 1 + c + d ≤ n) : ¬ NoPlace n A m := by
  obtain ⟨q, h1, h2, h3⟩ := h
  rintro (⟨_, _, k3⟩ | ⟨k1, k2⟩)
  · exact k3 q ((h3 q).2 (by omega))
  · obtain ⟨t, k3, k4, k5⟩ := k2 q (by omega)
    exact k5 ((h3 t).2 (by omega))
theorem Suf.goes (h : Suf n A c) (g : Goes n A m a A') (hmd : (m + 63) / 64 ≤ d) (hd : 1 ≤ d) : Suf n A' (c + d) := by
  obtain ⟨h, h0, h00, hf⟩ := h
  cases g with
  | op s u hm hs e hn hl =>
    refine ⟨h, by omega, by omega, fun t => ?_⟩
    by_cases et : t = s
    · subst et
      have := hf t
      rw [e] at this
      rw [upd_same]
      simp at this ⊢
      exact this
    · rw [upd_ne _ _ et]; exact hf t
  | free s hm hs e hl hn =>
    have h1 := (hf s).1 e
    have h2 : s = h := by
      by_cases hh : s = h
      · exact hh
      · exact absurd ((hf h).2 (by omega)) (hl h (by omega))
    subst h2
    refine ⟨s + 1, by omega, by omega, fun t => ?_⟩
    by_cases et : t = s
    · subst et
      rw [upd_same]
      simp; omega
    · rw [upd_ne _ _ et, hf t]; omega
  | row f k hm hk hfn e hl =>
    have h1 := (hf f).1 (e f (by omega) (by omega))
    have h2 : f = h := by
      by_cases hh : f = h
      · exact hh
      · obtain ⟨t, k1, k2, k3⟩ := hl h (by omega)
        exact absurd ((hf t).2 (by omega)) k3
    subst h2
    refine ⟨f + k, by omega, by omega, fun t => ?_⟩
    show (if t = f then Kd.head k else if f < t ∧ t < f + k then Kd.tail else A t) = .free ↔ _
    by_cases e1 : t = f
    · rw [if_pos e1]; simp; omega
    · rw [if_neg e1]
      by_cases e2 : f < t ∧ t < f + k
      · rw [if_pos e2]; simp; omega
      · rw [if_neg e2, hf t]; omega
theorem Suf.roomy (h : Suf n A q) {x : Nat} (hx : (1 + x + 63) / 64 ≤ d) (hd : 1 ≤ d) (hn : 1 + q + d + 1 ≤ n) : Roomy n A x :=
  ⟨h.place hx hd (by omega), fun _ _ g => (h.goes g hx hd).place (d := 1) (by omega) (by omega) (by omega)⟩
theorem Two.suf (h : Two n A wd A2 wd2 a b k N c f) (hs : Suf n A q) (hx : (1 + c + 63) / 64 ≤ d) (hd : 1 ≤ d) : Suf n A2 (q + d + 1) := by
  obtain ⟨A1, g1, g2⟩ := h.go
  exact (hs.goes g1 hx hd).goes g2 (by omega) (by omega)
/-- Items that a composite has just made. -/
theorem it_one (h : Sp w B n p A wd hv held cnt) (x : Int) (t : TypeId) : ItAt (w.alloc (.cells #[.int .i64 x] t)) B p hv (some ⟨w.heap.size, 0, none⟩) [x] := by
  refine ⟨w.heap.size, 0, rfl, by simp, fun k => by have := (h.lt k).2; omega, fun j hj => ?_⟩
  obtain rfl : j = 0 := by simpa using hj
  rw [World.cell?_alloc_at _ _ _ _ rfl]; rfl
theorem it_two (h : Sp w B n p A wd hv held cnt) (x y : Int) (t : TypeId) : ItAt (w.alloc (.cells #[.int .i64 x, .int .i64 y] t)) B p hv (some ⟨w.heap.size, 0, none⟩) [x, y] := by
  refine ⟨w.heap.size, 0, rfl, by simp, fun k => by have := (h.lt k).2; omega, fun j hj => ?_⟩
  have hj2 : j < 2 := by simpa using hj
  rcases (show j = 0 ∨ j = 1 by omega) with rfl | rfl
  · rw [World.cell?_alloc_at _ _ _ _ rfl]; rfl
  · rw [World.cell?_alloc_at _ _ _ _ rfl]; rfl
theorem Sp.b_lt (h : Sp w B n p A wd hv held cnt) {x : Nat} (hx : roomN A x ≠ 0) : x < 100000 := by
  have := (room_in h.inv hx).2.1
  have := h.hi
  omega
end
section
variable {w0 w w' w1 w2 : World} {B : HB} {n p m d q : Nat} {A A' A1 A2 : Nat → Kd} {wd wd' wd1 wd2 : Nat → Int} {hv hv1 hv2 : Value} {held : List Int} {cnt cnt' : Nat} {a b lo N c k : Nat} {f : Nat → Int} {z : Int}
set_option maxRecDepth 100000 in
set_option maxHeartbeats 4000000 in
theorem anchor_any (w : World) (hV : Vars w) : Calls Tryd.prog 7 #[] w fun e w' => e = .returned (.bool true) ∧ Fr (fun _ => False) w w' ∧ Vars w' := by
  have HN := hide (SNew_any 1024 w (by omega) (by omega) hV)
  clear hV
  go_enter Tryd.func7, Tryd.ntmps7
  go_wp2_with fail
  refine (unhide HN).mono ?_
  rintro e w1 ⟨B, p, rfl, hL⟩
  have HL := hide hL
  have hQ := Fr.refl (fun _ => False) w1
  have hq1 := hQ.alloc (.cells #[.int .i64 1, .int .i64 2] 3)
  have HO := hide (Of_to (hL.sp.quiet hq1) (by omega) (by simp) (some ⟨w1.heap.size, 0, none⟩) 2 2 [1, 2] rfl (it_two hL.sp 1 2 3) (by omega) false ((Suf.start 16).roomy (d := 1) (by omega) (by omega) (by omega)))
  clear hL HN hQ hq1
  go_wp2_with fail
  refine (unhide HO).mono ?_
  rintro e w2 ⟨a, b, A2, wd2, hv2, rfl, h2, hs2, ht2⟩
  have HL2 := hide (((unhide HL).quiet ((Fr.refl (fun _ => False) w1).alloc (.cells #[.int .i64 1, .int .i64 2] 3))).step hs2 ht2)
  have hsu2 := h2.suf (d := 1) (Suf.start 16) (by omega) (by omega)
  have hq2 := (Fr.refl (fun _ => False) w2).alloc (.cells #[.int .i64 3] 3)
  have HA1 := hide (Append_gro (hs2.quiet hq2) (by omega) (by simp) (.inr ⟨a, rfl, h2.sl⟩) (fun _ => ⟨h2.ar, by omega⟩) (some ⟨w2.heap.size, 0, none⟩) 1 1 [3] rfl (by omega) (it_one hs2 3 3) (by omega) (by omega) (by omega) (by omega) false (hsu2.roomy (d := 1) (by unfold capG; omega) (by omega) (by omega)))
  have HSu2 := hide hsu2
  clear h2 hs2 ht2 hsu2 hq2 HO HL
  go_wp2_with fail
  refine (unhide HA1).mono ?_
  rintro e w3 ⟨a3, b3, A3, wd3, hv3, rfl, h3, hs3, ht3⟩
  have HL3 := hide (((unhide HL2).quiet ((Fr.refl (fun _ => False) w2).alloc (.cells #[.int .i64 3] 3))).step hs3 ht3)
  have hsu3 := h3.suf (d := 1) (unhide HSu2) (by unfold capG; omega) (by omega)
  have hq3 := (Fr.refl (fun _ => False) w3).alloc (.cells #[.int .i64 4] 3)
  have HA2 := hide (Append_ext (hs3.quiet hq3) (by omega) (by simp) (.inr ⟨a3, rfl, h3.sl⟩) h3.ar (hs3.b_lt h3.ar.room) (some ⟨w3.heap.size, 0, none⟩) 1 1 [4] rfl (by omega) (it_one hs3 4 3) (by unfold capG; omega) (by unfold capG; omega) (hsu3.place (d := 1) (by omega) (by omega) (by omega)) false)
  have HSu3 := hide hsu3
  have HB3 := hide (hs3.b_lt h3.ar.room)
  clear h3 hs3 ht3 hsu3 hq3 HA1 HL2 HSu2
  go_wp2_with fail
  refine (unhide HA2).mono ?_
  rintro e w4 ⟨a4, A4, wd4, hv4, rfl, h4, hs4, ht4⟩
  have HL4 := hide (((unhide HL3).quiet ((Fr.refl (fun _ => False) w3).alloc (.cells #[.int .i64 4] 3))).step hs4 ht4)
  have hsu4 := (unhide HSu3).goes (d := 1) h4.go (by omega) (by omega)
  have HCu := hide (Cut_to hs4 (by omega) (by simp) h4.sl (unhide HB3) (by omega) (by unfold capG; omega) (l := 1) (u := 4) (by omega) (by unfold capG; omega) (hsu4.place (d := 1) (by omega) (by omega) (by omega)))
  have HAr4 := hide h4.ar
  clear h4 hs4 ht4 hsu4 HA2 HL3 HSu3 HB3
  go_wp2_with fail
  refine (unhide HCu).mono ?_
  rintro e w5 ⟨a5, A5, wd5, hv5, rfl, h5, hs5, ht5⟩
  have HL5 := hide ((unhide HL4).step hs5 ht5)
  have hsl : SlOf A5 wd5 (a5 : Int) b3 1 3 3 := .inr ⟨a5, rfl, h5.sl⟩
  have HAr5 := hide ((unhide HAr4).keep h5.olds id)
  have HSi := hide (Size_to hs5 hsl)
  have HSl := hide hsl
  clear h5 hs5 ht5 hsl HCu HL4 HAr4
  go_wp2_with fail
  refine (unhide HSi).mono ?_
  rintro e w6 ⟨rfl, hF6⟩
  have HL6 := hide ((unhide HL5).quiet hF6)
  have hAt := At_in (unhide HL6).sp (unhide HSl) (i := 2) (unhide HAr5) (by omega) (by unfold capG; omega)
  rw [show behF (groF (fun j => [1, 2].getD j 0) 0 2 [3]) (0 + (2 + 1)) [4] (1 + 2) = 4 from by decide +kernel] at hAt
  have HAt := hide hAt
  clear hF6 HSi hAt
  go_wp2_with fail
  refine (unhide HAt).mono ?_
  rintro e w7 ⟨rfl, hF7⟩
  have HL7 := hide ((unhide HL6).quiet hF7)
  clear hF7
  go_wp2
  go_ret
  exact ⟨rfl, (unhide HL7).far, (unhide HL7).sp.vars⟩
end
end Go.Proofs.YtkclpbbpcicpiaaDoor
