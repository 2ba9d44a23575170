/- The document's queue: one is taken out. -/
import Derived.Test.YtidacjkpioenhaaR1
namespace Go.Proofs.Ytidacjkpioenhaa
open Go.RowKit
structure MovedR (w : World) (C C' : Rb) : Prop where
  p : C'.p = C.p
  za : C'.za = C.za
  lb : C'.lb = C.lb ∨ C'.lb = none ∨ ∃ g, C'.lb = some g ∧ w.heap.size ≤ g
theorem MovedR.refl (w : World) (C : Rb) : MovedR w C C := ⟨rfl, rfl, .inl rfl⟩
theorem MovedR.trans {w w' : World} {A B C : Rb} (h : MovedR w A B) (hw : w.heap.size ≤ w'.heap.size) (k : MovedR w' B C) : MovedR w A C := by
  refine ⟨k.p.trans h.p, k.za.trans h.za, ?_⟩
  rcases k.lb with e | e | ⟨g, e, hg⟩
  · rw [e]; exact h.lb
  · exact .inr (.inl e)
  · exact .inr (.inr ⟨g, e, by omega⟩)
theorem MovedR.own {w : World} {C C' : Rb} (h : MovedR w C C') (k : Nat) (hk : C'.own k) : C.own k ∨ w.heap.size ≤ k := by
  rcases hk with e | e
  · exact .inl (.inl (by rw [e, h.p]))
  · rcases h.lb with e' | e' | ⟨g, e', hg⟩
    · exact .inl (.inr (by rw [← e', e]))
    · rw [e'] at e; cases e
    · rw [e'] at e; cases e; exact .inr hg
theorem MovedR.all {w : World} {C C' : Rb} (h : MovedR w C C') (k : Nat) (hk : C'.all k) : C.all k ∨ w.heap.size ≤ k := by
  rcases hk with e | e | ⟨off, e⟩
  · exact .inl (.inl (by rw [e, h.p]))
  · rcases h.own k (.inr e) with (h | h) | h
    · exact .inl (.inl h)
    · exact .inl (.inr (.inl h))
    · exact .inr h
  · exact .inl (.inr (.inr ⟨off, by rw [← h.za, e]⟩))
theorem Fr.twoR {w w1 w2 : World} {C C1 : Rb} (h : Fr C.own w w1) (m : MovedR w C C1) (k : Fr C1.own w1 w2) : Fr C.own w w2 :=
  ⟨k.os.trans h.os, k.tape.trans h.tape, k.output.trans h.output, Nat.le_trans h.size k.size, fun i hi hn => (k.block i (Nat.lt_of_lt_of_le hi h.size) (fun x => by
    rcases m.own i x with y | y
    · exact hn y
    · omega)).trans (h.block i hi hn)⟩
/-- The cell of those who wait is written. -/
theorem RAt.setL {w w1 : World} {C : Rb} {S L L' : List Int} (h : RAt w C S L) {K : Nat → Prop} (k : Fr K w w1) (hk : ∀ j, C.own j → K j → C.lb = some j) (hz : ∀ b off, C.za = some ⟨b, off, none⟩ → ¬ K b) {v : Value} {lb : Option Nat} (ho : Own w1 v lb L') (hl : lb = C.lb ∨ lb = none ∨ ∃ g, lb = some g ∧ w.heap.size ≤ g) :
    RAt (w1.setCell ⟨C.p, 2, none⟩ v) ⟨C.p, lb, C.za⟩ S L' := by
  have hp : ¬ K C.p := fun x => h.pl (hk _ (.inl rfl) x)
  obtain ⟨Z, n, zc, za, hS, hn, hZ, c0, c1, hzz, hor⟩ := h.vz
  obtain ⟨u, c2, _⟩ := h.vl
  have F : Fr (· = C.p) w1 (w1.setCell ⟨C.p, 2, none⟩ v) := (Fr.refl (· = C.p) w1).setCell (p := ⟨C.p, 2, none⟩) rfl _
  have hlp : lb ≠ some C.p := by
    rcases hl with e | e | ⟨g, e, hg⟩
    · rw [e]; exact h.pl
    · rw [e]; simp
    · intro e'; rw [e] at e'; cases e'; have := h.plt; omega
  refine ⟨⟨Z, n, zc, za, hS, hn, hZ, ?_, ?_, ints_or (ints_or hzz hor k fun b off e => hz b off e) hor F fun b off e e2 => ?_, hor⟩, ⟨v, World.cell?_setCell_same _ _ _ (k.cell c2 hp), ho.fr F fun g e e2 => hlp (by rw [e, e2])⟩, ?_, ?_, hlp, h.pz, fun j off e => ?_, fun j off e => ?_, h.rg⟩
  · rw [World.cell?_setCell_other _ _ _ _ (by simp)]; exact k.cell c0 hp
  · rw [World.cell?_setCell_other _ _ _ _ (by simp)]; exact k.cell c1 hp
  · exact h.pz off (by rw [e, e2])
  · rw [World.frozen?_setCell]; exact k.free h.plt h.f1 hp
  · rw [World.frozen?_setCell]; exact k.free h.plt h.f2 hp
  · rcases hl with e' | e' | ⟨g, e', hg⟩
    · rw [e']; exact h.lz j off e
    · rw [e']; simp
    · intro e2; rw [e'] at e2; cases e2; have := h.zl _ off e; omega
  · exact Nat.lt_of_lt_of_le (h.zl j off e) (Nat.le_trans k.size F.size)
theorem take_erase_same (L : List Int) (k : Nat) (hk : k < L.length) : (L.take (k + 1)).eraseIdx k = (L.take k).eraseIdx k := by
  have hlen : (L.take k).length = k := by rw [List.length_take]; omega
  rw [List.take_succ_eq_append_getElem hk, List.eraseIdx_append_of_length_le (by omega), List.eraseIdx_of_length_le (l := L.take k) (by omega), hlen, Nat.sub_self]
  simp
theorem take_erase_other (L : List Int) (k pl : Nat) (hk : k < L.length) (h : k ≠ pl) : (L.take (k + 1)).eraseIdx pl = (L.take k).eraseIdx pl ++ [L.getD k 0] := by
  have e : L.getD k 0 = L[k] := by simp [List.getD, hk]
  rw [List.take_succ_eq_append_getElem hk, e]
  by_cases hlt : k < pl
  · rw [List.eraseIdx_of_length_le (by simp; omega), List.eraseIdx_of_length_le (by simp; omega)]
  · rw [List.eraseIdx_append_of_lt_length (by simp; omega)]
def OutP (w : World) (C : Rb) (S L : List Int) (pl : Nat) (e : Ending) (w' : World) : Prop := e = .returned (.int .i64 (L.getD pl 0)) ∧ ∃ C', MovedR w C C' ∧ RAt w' C' S (L.eraseIdx pl) ∧ Fr C.own w w'
set_option maxRecDepth 100000 in
set_option maxHeartbeats 1000000 in
theorem Out_r (w : World) (C : Rb) (S L : List Int) (pl : Nat) (h : RAt w C S L) (hl : L.length ≤ 1000000) (hpl : pl < L.length) :
    Calls Try.prog 22 #[.pointer (some ⟨C.p, 0, none⟩), .int .i64 (pl : Nat)] w (OutP w C S L pl) := by
  obtain ⟨v, c2, o2⟩ := h.vl
  have f2 := h.f2
  obtain ⟨ao, cap, rfl, hle, _⟩ := o2.form
  obtain ⟨b, off, hab, _, cp⟩ := o2.ints pl hpl
  have HC : Hid (∀ wr, Fr (fun _ => False) w wr → wr.cell? ⟨C.p, 2, none⟩ = some (.slice ao L.length cap) ∧ wr.frozen? ⟨C.p, 2, none⟩ = false ∧ ∀ j, j < L.length → wr.cell? ⟨b, off + j, none⟩ = some (.int .i64 (L.getD j 0))) := hide fun wr hF => ⟨hF.cell c2 id, hF.free h.plt f2 id, fun j hj => by
    obtain ⟨b', off', e, _, hc⟩ := o2.ints j hj
    rw [hab] at e; cases e
    exact hF.cell hc id⟩
  have HE : Hid (∀ wr v rb, Fr (fun _ => False) w wr → Own wr v rb (L.eraseIdx pl) → (∀ g, rb = some g → w.heap.size ≤ g) → OutP w C S L pl (.returned (.int .i64 (L.getD pl 0))) (wr.setCell ⟨C.p, 2, none⟩ v)) := hide fun wr v rb hF ho hg => by
    have hl : rb = C.lb ∨ rb = none ∨ ∃ g, rb = some g ∧ w.heap.size ≤ g := by
      cases rb with
      | none => exact .inr (.inl rfl)
      | some g => exact .inr (.inr ⟨g, rfl, hg g rfl⟩)
    refine ⟨rfl, ⟨C.p, rb, C.za⟩, ⟨rfl, rfl, hl⟩, h.setL hF (fun _ _ x => x.elim) (fun _ _ _ => id) ho hl, ?_⟩
    exact (hF.mono fun _ x => x.elim).setCell (p := ⟨C.p, 2, none⟩) (.inl rfl) _
  rw [hab] at c2 HC
  obtain ⟨n, hn⟩ : ∃ n, n = L.length := ⟨_, rfl⟩
  have HIl : Hid (n = L.length) := hide hn
  rw [← hn] at c2 hl hpl hle HC
  obtain ⟨z, hz⟩ : ∃ z, z = L.getD pl 0 := ⟨_, rfl⟩
  rw [← hz] at cp HE
  clear h o2 hn hz hab
  have hpi : (pl : Int) < (n : Int) := by omega
  go_enter Try.func22, Try.ntmps22
  go_wp2
  go_loopw [6, 7] (fun v i wr => ∃ k : Nat, k ≤ n ∧ i = .int .i64 k ∧ ∃ ao1 m cp1 rb, v = .slice ao1 m cp1 ∧ Hid (Own wr (.slice ao1 m cp1) rb ((L.take k).eraseIdx pl)) ∧ Hid (∀ g, rb = some g → w.heap.size ≤ g) ∧ Hid (Fr (fun _ => False) w wr)) (fun _ i _ => n - (intOf i).toNat)
  case atStart => exact ⟨0, by omega, rfl, none, 0, 0, none, rfl, hide (Own.nil _), hide (fun g e => by cases e), hide (Fr.refl _ _)⟩
  case round =>
    obtain ⟨k, hk, rfl, ao1, m, cp1, rb, rfl, hO, hG, hF⟩ := hrel
    obtain ⟨c2r, f2r, hcr⟩ := unhide HC wr (unhide hF)
    by_cases hlt : k < n
    · have hki : (k : Int) < (n : Int) := by omega
      have ck := hcr k hlt
      have HL : Hid (k < L.length) := hide (by have := unhide HIl; omega)
      clear hcr
      by_cases hkp : k = pl
      · have HO2 : Hid (Own wr (.slice ao1 m cp1) rb ((L.take (k + 1)).eraseIdx pl)) := hide (by have := unhide hO; rw [← hkp] at this ⊢; rw [take_erase_same L k (unhide HL)]; exact this)
        clear hO
        subst hkp
        go_wp2
        go_roundw
        case rel => exact ⟨k + 1, by omega, by go_num, ao1, m, cp1, rb, rfl, HO2, hG, hF⟩
        case measure => simp [intOf]; omega
      · have hne : ((k : Int) != (pl : Int)) = true := by simp; omega
        have HEx : Hid ((L.take (k + 1)).eraseIdx pl = (L.take k).eraseIdx pl ++ [L.getD k 0]) := hide (take_erase_other L k pl (unhide HL) hkp)
        have HLe : Hid (((L.take k).eraseIdx pl).length < 1000000) := hide (by
          have h1 := List.length_eraseIdx_le (L.take k) pl
          rw [List.length_take] at h1
          have := unhide HIl
          omega)
        obtain ⟨x, hx⟩ : ∃ x, x = L.getD k 0 := ⟨_, rfl⟩
        rw [← hx] at ck HEx
        obtain ⟨X, hX⟩ : ∃ X, X = (L.take k).eraseIdx pl := ⟨_, rfl⟩
        rw [← hX] at hO HEx HLe
        clear hx hX hkp
        obtain ⟨w3, hw3⟩ : ∃ w3, w3 = wr.alloc (.cells #[.int .i64 x] 3) := ⟨_, rfl⟩
        have F3 : Fr (fun _ => False) wr w3 := by rw [hw3]; exact (Fr.refl _ wr).alloc _
        have HY : Hid (IntsAt w3 (some ⟨wr.heap.size, 0, none⟩) [x]) := hide fun j hj => ⟨wr.heap.size, 0, rfl, by rw [hw3]; simp, by
          obtain rfl : j = 0 := by simpa using hj
          rw [hw3]; simp⟩
        have HO3 : Hid (Own w3 (.slice ao1 m cp1) rb X) := hide ((unhide hO).fr F3 fun _ _ => id)
        have HF3 : Hid (∀ w4 rb', Grew w3 w4 rb rb' → Fr (fun _ => False) w w4 ∧ ∀ g, rb' = some g → w.heap.size ≤ g) := hide fun w4 rb' hg => ⟨((unhide hF).trans F3).up hg.fr fun b e => unhide hG b e, fun g e => by
          rcases hg.at_ with e' | e'
          · exact unhide hG g (by rw [← e', e])
          · rw [e'] at e; cases e; exact ((unhide hF).trans F3).size⟩
        clear F3
        go_wp2_with (at_builtin; rw [← hw3]; refine wpList_app rfl _ _ rfl (.slice ao1 m cp1) rb X rfl (unhide HO3) (some ⟨wr.heap.size, 0, none⟩) 1 1 [x] rfl rfl (unhide HY) (by have := unhide HLe; simp; omega) ?_; intro ao' c' rb' w4 ho hg; have HO4 : Hid (Own w4 (.slice ao' (X.length + 1) c') rb' (X ++ [x])) := hide ho; have HG4 := hide (unhide HF3 w4 rb' hg); clear ho hg)
        go_roundw
        case rel => exact ⟨k + 1, by omega, by go_num, ao', X.length + 1, c', rb', rfl, hide (by rw [unhide HEx]; exact unhide HO4), hide (unhide HG4).2, hide (unhide HG4).1⟩
        case measure => simp [intOf]; omega
    · have hke : k = n := by omega
      have HP : Hid (OutP w C S L pl (.returned (.int .i64 z)) (wr.setCell ⟨C.p, 2, none⟩ (.slice ao1 m cp1))) := hide (by
        have := unhide hO
        rw [hke, unhide HIl, List.take_length] at this
        exact unhide HE wr _ rb (unhide hF) this (unhide hG))
      subst hke
      clear hO hG hF hcr
      go_wp2
      go_ret
      exact unhide HP
end Go.Proofs.Ytidacjkpioenhaa
