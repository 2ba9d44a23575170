/- The two queues side by side. -/
import Derived.Test.YtidacjkpioenhaaR3
namespace Go.Proofs.Ytidacjkpioenhaa
open Go.RowKit
theorem Fr.lowD {w w' : World} (h : Fr (fun _ => False) w w') : Below w.heap.size w w' := h.below (Nat.le_refl _) (fun _ x => x.elim)
def Duo (w0 w : World) (p r : Nat) (S I T L : List Int) : Prop := ∃ (B : Qb) (C : Rb), B.p = p ∧ C.p = r ∧ QAt w B S I ∧ RAt w C T L ∧ (∀ k, B.all k → w0.heap.size ≤ k) ∧ (∀ k, C.own k → w0.heap.size ≤ k) ∧ (∀ k off, C.za = some ⟨k, off, none⟩ → k < w0.heap.size) ∧ (∀ k, B.all k → ¬ C.own k) ∧ Fr (fun _ => False) w0 w
theorem allR_of_own {C : Rb} {k : Nat} (h : C.own k) : C.all k := by
  rcases h with h | h
  · exact .inl h
  · exact .inr (.inl h)
theorem Duo.stepQ {w0 w w' : World} {B B' : Qb} {C : Rb} {S I T L : List Int} (hr : RAt w C T L) (hb : ∀ k, B.all k → w0.heap.size ≤ k) (hc : ∀ k, C.own k → w0.heap.size ≤ k) (hz : ∀ k off, C.za = some ⟨k, off, none⟩ → k < w0.heap.size) (hs : ∀ k, B.all k → ¬ C.own k) (hf : Fr (fun _ => False) w0 w) (hm : Moved w B B') (hq : QAt w' B' S I) (hF : Fr B.own w w') : Duo w0 w' B.p C.p S I T L := by
  have hsz := hf.size
  refine ⟨B', C, hm.p, rfl, hq, hr.fr hF fun j hj hk => ?_, fun k hk => ?_, hc, hz, fun k hk hc' => ?_, hf.up hF fun k hk => hb k (all_of_own hk)⟩
  · rcases hj with e | e | ⟨off, e⟩
    · exact hs j (all_of_own hk) (.inl e)
    · exact hs j (all_of_own hk) (.inr e)
    · have h1 := hz j off e
      have h2 := hb j (all_of_own hk)
      omega
  · rcases hm.all k hk with h | h
    · exact hb k h
    · omega
  · rcases hm.all k hk with h | h
    · exact hs k h hc'
    · have := hr.lt k (allR_of_own hc'); omega
theorem Duo.stepR {w0 w w' : World} {B : Qb} {C C' : Rb} {S I T L : List Int} (hq : QAt w B S I) (hb : ∀ k, B.all k → w0.heap.size ≤ k) (hc : ∀ k, C.own k → w0.heap.size ≤ k) (hz : ∀ k off, C.za = some ⟨k, off, none⟩ → k < w0.heap.size) (hs : ∀ k, B.all k → ¬ C.own k) (hf : Fr (fun _ => False) w0 w) (hm : MovedR w C C') (hr : RAt w' C' T L) (hF : Fr C.own w w') : Duo w0 w' B.p C.p S I T L := by
  have hsz := hf.size
  refine ⟨B, C', rfl, hm.p, hq.fr hF fun j hj => hs j hj, hr, hb, fun k hk => ?_, fun k off e => hz k off (by rw [← hm.za, e]), fun k hk hc' => ?_, hf.up hF fun k hk => hc k hk⟩
  · rcases hm.own k hk with h | h
    · exact hc k h
    · omega
  · rcases hm.own k hc' with h | h
    · exact hs k hk h
    · have := hq.lt k hk; omega
theorem Duo.quiet {w0 w w' : World} {p r : Nat} {S I T L : List Int} (h : Duo w0 w p r S I T L) (k : Fr (fun _ => False) w w') : Duo w0 w' p r S I T L := by
  obtain ⟨B, C, rfl, rfl, hq, hr, hb, hc, hz, hs, hf⟩ := h
  exact ⟨B, C, rfl, rfl, hq.quiet k, hr.quiet k, hb, hc, hz, hs, hf.trans k⟩
theorem Duo.far {w0 w : World} {p r : Nat} {S I T L : List Int} (h : Duo w0 w p r S I T L) : Fr (fun _ => False) w0 w := by
  obtain ⟨B, C, rfl, rfl, hq, hr, hb, hc, hz, hs, hf⟩ := h
  exact hf
theorem Duo.push {w0 w : World} {p r : Nat} {S I T L : List Int} (h : Duo w0 w p r S I T L) (x : Int) (hl : I.length < 1000000) : Calls Try.prog 10 #[.pointer (some ⟨p, 0, none⟩), .int .i64 x] w fun e w' => e = .returned (.tuple #[]) ∧ Duo w0 w' p r S (I ++ [x]) T L := by
  obtain ⟨B, C, rfl, rfl, hq, hr, hb, hc, hz, hs, hf⟩ := h
  exact (Push_q w B S I x hq hl).mono fun e w' ⟨he, B', hm, hq', hF⟩ => ⟨he, Duo.stepQ hr hb hc hz hs hf hm hq' hF⟩
theorem Duo.yield {w0 w : World} {p r : Nat} {S I T L : List Int} (h : Duo w0 w p r S I T L) (x : Int) (hl : I.length < 1000000) : Calls Try.prog 11 #[.pointer (some ⟨p, 0, none⟩), .int .i64 x] w fun e w' => e = .returned (.int .i64 (yldV S I x)) ∧ Duo w0 w' p r S.tail (yldI S I x) T L := by
  obtain ⟨B, C, rfl, rfl, hq, hr, hb, hc, hz, hs, hf⟩ := h
  exact (Yield_q w B S I x hq hl).mono fun e w' ⟨he, B', hm, hq', hF⟩ => ⟨he, Duo.stepQ hr hb hc hz hs hf hm hq' hF⟩
theorem Duo.next {w0 w : World} {p r : Nat} {S I T L : List Int} (h : Duo w0 w p r S I T L) (hl : I.length ≤ 1000000) : Calls Try.prog 14 #[.pointer (some ⟨p, 0, none⟩)] w fun e w' => e = .returned (.tuple #[.int .i64 (nxtV S I), .bool (nxtB I)]) ∧ Duo w0 w' p r S.tail (nxtI S I) T L := by
  obtain ⟨B, C, rfl, rfl, hq, hr, hb, hc, hz, hs, hf⟩ := h
  exact (Next_q w B S I hq hl).mono fun e w' ⟨he, hq', hF⟩ => ⟨he, Duo.stepQ hr hb hc hz hs hf (Moved.refl _ _) hq' hF⟩
theorem Duo.number {w0 w : World} {p r : Nat} {S I T L : List Int} (h : Duo w0 w p r S I T L) : Calls Try.prog 15 #[.pointer (some ⟨p, 0, none⟩)] w fun e w' => e = .returned (.int .i64 (numN S : Nat)) ∧ Duo w0 w' p r S.tail I T L := by
  obtain ⟨B, C, rfl, rfl, hq, hr, hb, hc, hz, hs, hf⟩ := h
  exact (Number_q w B S I hq).mono fun e w' ⟨he, hq', hF⟩ => ⟨he, Duo.stepQ hr hb hc hz hs hf (Moved.refl _ _) hq' (hF.mono fun k e => .inl e)⟩
theorem Duo.len {w0 w : World} {p r : Nat} {S I T L : List Int} (h : Duo w0 w p r S I T L) : Calls Try.prog 12 #[.pointer (some ⟨p, 0, none⟩)] w fun e w' => e = .returned (.int .i64 (I.length : Nat)) ∧ w = w' := by
  obtain ⟨B, C, rfl, rfl, hq, hr, hb, hc, hz, hs, hf⟩ := h
  exact Len_q w B S I hq
theorem Duo.list {w0 w : World} {p r : Nat} {S I T L : List Int} (h : Duo w0 w p r S I T L) (hl : I.length ≤ 1000000) : Calls Try.prog 13 #[.pointer (some ⟨p, 0, none⟩)] w (CloneP w I) := by
  obtain ⟨B, C, rfl, rfl, hq, hr, hb, hc, hz, hs, hf⟩ := h
  exact List_q w B S I hq hl
theorem Duo.nextR {w0 w : World} {p r : Nat} {S I T L : List Int} (h : Duo w0 w p r S I T L) (hl : L.length ≤ 1000000) : Calls Try.prog 16 #[.pointer (some ⟨r, 0, none⟩)] w fun e w' => e = .returned (.tuple #[.int .i64 (nxtV T L), .bool (nxtB L)]) ∧ Duo w0 w' p r S I T.tail (nxtI T L) := by
  obtain ⟨B, C, rfl, rfl, hq, hr, hb, hc, hz, hs, hf⟩ := h
  exact (Next_r w C T L hr hl).mono fun e w' ⟨he, C', hm, hr', hF⟩ => ⟨he, Duo.stepR hq hb hc hz hs hf hm hr' hF⟩
theorem Duo.yieldR {w0 w : World} {p r : Nat} {S I T L : List Int} (h : Duo w0 w p r S I T L) (x : Int) (hl : L.length < 1000000) : Calls Try.prog 19 #[.pointer (some ⟨r, 0, none⟩), .int .i64 x] w fun e w' => e = .returned (.int .i64 (yldV T L x)) ∧ Duo w0 w' p r S I T.tail (yldI T L x) := by
  obtain ⟨B, C, rfl, rfl, hq, hr, hb, hc, hz, hs, hf⟩ := h
  exact (Yield_r w C T L x hr hl).mono fun e w' ⟨he, C', hm, hr', hF⟩ => ⟨he, Duo.stepR hq hb hc hz hs hf hm hr' hF⟩
theorem Duo.numberR {w0 w : World} {p r : Nat} {S I T L : List Int} (h : Duo w0 w p r S I T L) : Calls Try.prog 20 #[.pointer (some ⟨r, 0, none⟩)] w fun e w' => e = .returned (.int .i64 (numN T : Nat)) ∧ Duo w0 w' p r S I T.tail L := by
  obtain ⟨B, C, rfl, rfl, hq, hr, hb, hc, hz, hs, hf⟩ := h
  exact (Number_r w C T L hr).mono fun e w' ⟨he, hr', hF⟩ => ⟨he, Duo.stepR hq hb hc hz hs hf (MovedR.refl _ _) hr' (hF.mono fun k e => .inl e)⟩
/-- The list of those who wait in the document's queue, as it lies there; and one more. -/
theorem Duo.cell {w0 w : World} {p r : Nat} {S I T L : List Int} (h : Duo w0 w p r S I T L) : ∃ ao cap lb, w.cell? ⟨r, 2, none⟩ = some (.slice ao L.length cap) ∧ w.frozen? ⟨r, 2, none⟩ = false ∧ Own w (.slice ao L.length cap) lb L ∧
    ∀ w1 w2 ao' c' lb' x, Fr (fun _ => False) w w1 → Own w2 (.slice ao' (L.length + 1) c') lb' (L ++ [x]) → Grew w1 w2 lb lb' → w2.cell? ⟨r, 2, none⟩ = some (.slice ao L.length cap) ∧ w2.frozen? ⟨r, 2, none⟩ = false ∧ Duo w0 (w2.setCell ⟨r, 2, none⟩ (.slice ao' (L.length + 1) c')) p r S I T (L ++ [x]) := by
  obtain ⟨B, C, rfl, rfl, hq, hr, hb, hc, hz, hs, hf⟩ := h
  obtain ⟨v, c2, o2⟩ := hr.vl
  obtain ⟨ao, cap, rfl, hle, _⟩ := o2.form
  refine ⟨ao, cap, C.lb, c2, hr.f2, o2, fun w1 w2 ao' c' lb' x F1 ho hg => ?_⟩
  obtain ⟨C', hm, hr', hF⟩ := hr.push F1 ho hg
  have hsz := F1.size
  have hpl := hr.plt
  exact ⟨hg.fr.cell (F1.cell c2 id) hr.pl, hg.fr.free (by omega) (F1.free hpl hr.f2 id) hr.pl, Duo.stepR hq hb hc hz hs hf hm hr' hF⟩
/-- Both of them new. -/
theorem Duo.new {w0 w w1 : World} {B : Qb} {za : Option Addr} {zc : Nat} {Z : List Int} (hf : Fr (fun _ => False) w0 w) (hq : QAt w B Z []) (hb : ∀ k, B.all k → w0.heap.size ≤ k) (hl : Z.length ≤ 1000000) (hr : ∀ z ∈ Z, rng z) (hz : IntsAt w0 za Z) (hw : w1 = w.alloc (.cells #[.slice za Z.length zc, .int .i64 0, .slice none 0 0] 29)) : Duo w0 w1 B.p w.heap.size Z [] Z [] := by
  have F : Fr (fun _ => False) w w1 := by rw [hw]; exact (Fr.refl _ w).alloc _
  have hsz := hf.size
  have hh : w1.heap[w.heap.size]? = some (.cells #[.slice za Z.length zc, .int .i64 0, .slice none 0 0] 29 (0, 0)) := by rw [hw]; exact heap_alloc_new w _
  obtain ⟨zb, ho, hzb⟩ : ∃ zb, (Z = [] ∨ zb = za) ∧ ∀ k off, zb = some ⟨k, off, none⟩ → k < w0.heap.size := by
    cases Z with
    | nil => exact ⟨none, .inl rfl, fun k off e => by cases e⟩
    | cons z r =>
      obtain ⟨b, off, e, hl, _⟩ := hz 0 (by simp)
      exact ⟨za, .inr rfl, fun k off' e' => by rw [e] at e'; cases e'; exact hl⟩
  refine ⟨B, ⟨w.heap.size, none, zb⟩, rfl, rfl, hq.quiet F, ⟨⟨Z, 0, zc, za, by simp, by simp, hl, ?_, ?_, hz.quiet (hf.trans F), ho⟩, ⟨_, ?_, Own.nil _⟩, ?_, ?_, by simp, fun off e => ?_, by simp, fun k off e => ?_, hr⟩, hb, fun k hk => ?_, hzb, fun k hk hc => ?_, hf.trans F⟩
  · rw [hw]; simp
  · rw [hw]; simp
  · rw [hw]; simp
  · unfold World.frozen?; simp only [hh]; simp
  · unfold World.frozen?; simp only [hh]; simp
  · have := hzb _ off e; simp at this; omega
  · have := hzb k off e; have := F.size; omega
  · rcases hk with e | e
    · simp at e; omega
    · simp at e
  · rcases hc with e | e
    · simp at e; have := hq.lt k hk; omega
    · simp at e
/-- A number of one's own is written. -/
theorem Own.set {w : World} {g off n cap : Nat} {ib : Option Nat} {ys : List Int} (h : Own w (.slice (some ⟨g, off, none⟩) n cap) ib ys) (j : Nat) (hj : j < ys.length) (x : Int) : Own (w.setCell ⟨g, off + j, none⟩ (.int .i64 x)) (.slice (some ⟨g, off, none⟩) n cap) ib (ys.set j x) ∧ w.frozen? ⟨g, off + j, none⟩ = false ∧ w.cell? ⟨g, off + j, none⟩ = some (.int .i64 (ys.getD j 0)) ∧ ib = some g := by
  rcases h with ⟨hv, _, _⟩ | ⟨g', off', cap', hv, e, hl, hle, hs, hc⟩
  · cases hv
  · cases hv
    refine ⟨.inr ⟨g, off, cap, by rw [List.length_set], e, ?_, by rw [List.length_set]; exact hle, fun i hi => ⟨?_, ?_⟩, fun i hi => ?_⟩, (hs j (by omega)).2, hc j hj, e⟩
    · simpa [World.setCell] using hl
    · by_cases hij : i = j
      · subst hij
        rw [World.cell?_setCell_same _ _ _ (hc i hj)]; rfl
      · rw [World.cell?_setCell_other _ _ _ _ (by simp only [ne_eq, Addr.mk.injEq, true_and, and_true]; omega)]; exact (hs i hi).1
    · rw [World.frozen?_setCell]; exact (hs i hi).2
    · rw [List.length_set] at hi
      by_cases hij : i = j
      · subst hij
        rw [World.cell?_setCell_same _ _ _ (hc i hj)]
        simp [List.getD, hi]
      · rw [World.cell?_setCell_other _ _ _ _ (by simp only [ne_eq, Addr.mk.injEq, true_and, and_true]; omega), hc i hi]
        simp [List.getD, Ne.symm hij]
theorem nxt_len (S I : List Int) (h : I ≠ []) : (nxtI S I ++ [nxtV S I]).length = I.length := by
  have hp : 0 < I.length := List.length_pos_iff.2 h
  unfold nxtI
  rw [List.length_append, List.length_eraseIdx_of_lt (Nat.mod_lt _ hp)]
  simp; omega
theorem nxt_none (S : List Int) : nxtI S [] = [] := rfl
end Go.Proofs.Ytidacjkpioenhaa
