/- The document's queue: Next, Yield; two lists that are the same. -/
import Derived.Test.YtidacjkpioenhaaR2
namespace Go.Proofs.Ytidacjkpioenhaa
open Go.RowKit
theorem RAt.cell2 {w : World} {C : Rb} {S L : List Int} (h : RAt w C S L) : ∃ ao cap, w.cell? ⟨C.p, 2, none⟩ = some (.slice ao L.length cap) := by
  obtain ⟨v, c2, o2⟩ := h.vl
  obtain ⟨ao, cap, rfl, hle, _⟩ := o2.form
  exact ⟨ao, cap, c2⟩
def NextRP (w : World) (C : Rb) (S L : List Int) (e : Ending) (w' : World) : Prop := e = .returned (.tuple #[.int .i64 (nxtV S L), .bool (nxtB L)]) ∧ ∃ C', MovedR w C C' ∧ RAt w' C' S.tail (nxtI S L) ∧ Fr C.own w w'
set_option maxHeartbeats 1000000 in
theorem Next_r (w : World) (C : Rb) (S L : List Int) (h : RAt w C S L) (hl : L.length ≤ 1000000) : Calls Try.prog 16 #[.pointer (some ⟨C.p, 0, none⟩)] w (NextRP w C S L) := by
  have HN := hide (Number_r w C S L h)
  have hnl := num_lt h.rg
  have HC : Hid (∀ w', RAt w' C S.tail L → ∃ ao cap, w'.cell? ⟨C.p, 2, none⟩ = some (.slice ao L.length cap)) := hide fun w' hq => hq.cell2
  by_cases h0 : L = []
  · subst h0
    have HP : Hid (∀ w', RAt w' C S.tail [] → Fr (· = C.p) w w' → NextRP w C S [] (.returned (.tuple #[.int .i64 0, .bool false])) w') := hide fun w' hq hF => ⟨rfl, C, MovedR.refl _ _, hq, hF.mono fun k e => .inl e⟩
    clear h hl
    go_enter Try.func16, Try.ntmps16
    go_wp2_with (go_at_call 20; refine (unhide HN).mono ?_; rintro e w' ⟨rfl, hq, hF⟩; have HP2 := hide (unhide HP w' hq hF); obtain ⟨ao, cap, c1⟩ := unhide HC w' hq; rw [List.length_nil] at c1; clear hq hF)
    go_ret2
    exact unhide HP2
  · have hpos : 0 < L.length := List.length_pos_iff.2 h0
    have hpl : numN S % L.length < L.length := Nat.mod_lt _ hpos
    have HT : Hid (∀ w', RAt w' C S.tail L → Fr (· = C.p) w w' → Calls Try.prog 22 #[.pointer (some ⟨C.p, 0, none⟩), .int .i64 ((numN S % L.length : Nat) : Int)] w' fun e w'' => e = .returned (.int .i64 (nxtV S L)) ∧ NextRP w C S L (.returned (.tuple #[.int .i64 (nxtV S L), .bool true])) w'') := hide fun w' hq hF =>
      (Out_r w' C S.tail L (numN S % L.length) hq hl hpl).mono fun e w'' ⟨he, C', hm, hq2, hF2⟩ => by
        have e1 : nxtV S L = L.getD (numN S % L.length) 0 := by unfold nxtV; rw [if_neg h0]
        have e2 : nxtB L = true := by unfold nxtB; cases L with | nil => exact absurd rfl h0 | cons _ _ => rfl
        refine ⟨by rw [he, e1], ?_, C', (MovedR.refl w C).trans hF.size hm, hq2, (hF.mono fun k e => .inl e).trans hF2⟩
        rw [e2]
    have hq : ((numN S : Nat) : Int).tmod (L.length : Int) = ((numN S % L.length : Nat) : Int) := by rw [Int.tmod_eq_emod_of_nonneg (by omega)]; rfl
    obtain ⟨pl, hpe⟩ : ∃ pl, pl = numN S % L.length := ⟨_, rfl⟩
    rw [← hpe] at HT hq hpl
    obtain ⟨n, hn⟩ : ∃ n, n = L.length := ⟨_, rfl⟩
    rw [← hn] at HC hl hpos hq hpl
    clear h h0 hn hpe
    have hn0 : ¬ (n : Int) = 0 := by omega
    have hn1 : ¬ n = 0 := by omega
    have hnb : ((n : Int) == 0) = false := by simpa using hn0
    have hwp : IntKind.i64.wrap (pl : Int) = (pl : Int) := by rw [Go.IntKind.wrap_i64]; omega
    generalize numN S = N at *
    go_enter Try.func16, Try.ntmps16
    go_wp2_with (first | (go_at_call 20; refine (unhide HN).mono ?_; rintro e w' ⟨rfl, hq', hF⟩; obtain ⟨ao, cap, c1⟩ := unhide HC w' hq'; have HT2 := hide (unhide HT w' hq' hF); clear hq' hF) | (go_at_call 22; refine (unhide HT2).mono ?_; rintro e w'' ⟨rfl, hP⟩; have HP2 := hide hP; clear hP))
    go_ret2
    exact unhide HP2
/-- One more in the document's queue, said by the cell. -/
theorem RAt.push {w w1 w2 : World} {C : Rb} {S L : List Int} {x : Int} (h : RAt w C S L) (F1 : Fr (fun _ => False) w w1) {v : Value} {lb : Option Nat} (ho : Own w2 v lb (L ++ [x])) (hg : Grew w1 w2 C.lb lb) :
    ∃ C', MovedR w C C' ∧ RAt (w2.setCell ⟨C.p, 2, none⟩ v) C' S (L ++ [x]) ∧ Fr C.own w (w2.setCell ⟨C.p, 2, none⟩ v) := by
  have hl : lb = C.lb ∨ lb = none ∨ ∃ g, lb = some g ∧ w.heap.size ≤ g := by
    rcases hg.at_ with e | e
    · exact .inl e
    · exact .inr (.inr ⟨_, e, F1.size⟩)
  have F2 : Fr (fun k => C.lb = some k) w w2 := (F1.mono fun _ x => x.elim).trans hg.fr
  refine ⟨⟨C.p, lb, C.za⟩, ⟨rfl, rfl, hl⟩, h.setL F2 (fun _ _ e => e) (fun b off e => h.lz b off e) ho hl, ?_⟩
  exact (F2.mono fun k e => .inr e).setCell (p := ⟨C.p, 2, none⟩) (.inl rfl) _
def YieldRP (w : World) (C : Rb) (S L : List Int) (now : Int) (e : Ending) (w' : World) : Prop := e = .returned (.int .i64 (yldV S L now)) ∧ ∃ C', MovedR w C C' ∧ RAt w' C' S.tail (yldI S L now) ∧ Fr C.own w w'
set_option maxRecDepth 100000 in
set_option maxHeartbeats 1000000 in
theorem Yield_r (w : World) (C : Rb) (S L : List Int) (now : Int) (h : RAt w C S L) (hl : L.length < 1000000) : Calls Try.prog 19 #[.pointer (some ⟨C.p, 0, none⟩), .int .i64 now] w (YieldRP w C S L now) := by
  have HN := hide (Number_r w C S L h)
  have hnl := num_lt h.rg
  have HC : Hid (∀ w', RAt w' C S.tail L → ∃ ao cap, w'.cell? ⟨C.p, 2, none⟩ = some (.slice ao L.length cap) ∧ w'.frozen? ⟨C.p, 2, none⟩ = false ∧ Own w' (.slice ao L.length cap) C.lb L ∧ C.lb ≠ some C.p ∧ C.p < w'.heap.size) := hide fun w' hq => by
    obtain ⟨v, c2, o2⟩ := hq.vl
    obtain ⟨ao, cap, rfl, hle, _⟩ := o2.form
    exact ⟨ao, cap, c2, hq.f2, o2, hq.pl, hq.plt⟩
  have HS : Hid (stays S L = true → ∀ w', RAt w' C S.tail L → Fr (· = C.p) w w' → YieldRP w C S L now (.returned (.int .i64 now)) w') := hide fun hs w' hq hF => by
    refine ⟨by unfold yldV; rw [if_pos hs], C, MovedR.refl _ _, by unfold yldI; rw [if_pos hs]; exact hq, hF.mono fun k e => .inl e⟩
  have HG : Hid (stays S L = false → ∀ w' w2 v lb, RAt w' C S.tail L → Fr (· = C.p) w w' → Own w2 v lb (L ++ [now]) → Grew (w'.alloc (.cells #[.int .i64 now] 3)) w2 C.lb lb → Calls Try.prog 22 #[.pointer (some ⟨C.p, 0, none⟩), .int .i64 ((numN S / 2 % (L.length + 1) : Nat) : Int)] (w2.setCell ⟨C.p, 2, none⟩ v) fun e w3 => e = .returned (.int .i64 (yldV S L now)) ∧ YieldRP w C S L now e w3) := hide fun hs w' w2 v lb hq hF ho hg => by
    obtain ⟨C1, hm, hq1, hF1⟩ := hq.push ((Fr.refl _ w').alloc _) ho hg
    have e1 : (L ++ [now]).length = L.length + 1 := by simp
    have ht := Out_r _ C1 S.tail (L ++ [now]) (numN S / 2 % (L.length + 1)) hq1 (by omega) (by rw [e1]; exact Nat.mod_lt _ (by omega))
    rw [hm.p] at ht
    refine ht.mono fun e w3 ⟨he2, C2, hm2, hq2, hF2⟩ => ?_
    have hF' : Fr C.own w w' := hF.mono fun k e => .inl e
    have e2 : yldV S L now = (L ++ [now]).getD (numN S / 2 % (L.length + 1)) 0 := by unfold yldV; rw [if_neg (by rw [hs]; decide)]
    have e3 : yldI S L now = (L ++ [now]).eraseIdx (numN S / 2 % (L.length + 1)) := by unfold yldI; rw [if_neg (by rw [hs]; decide)]
    have hm' : MovedR w C C1 := (MovedR.refl w C).trans hF.size hm
    exact ⟨by rw [he2, e2], by rw [he2, e2], C2, hm'.trans (hF'.trans hF1).size hm2, by rw [e3]; exact hq2, (hF'.trans hF1).twoR hm' hF2⟩
  have HE : Hid (stays S L = (decide (numN S % 2 = 0) || decide (L.length = 0))) := hide (by unfold stays; cases L <;> simp)
  have hqm : ((numN S / 2 : Nat) : Int).tmod ((L.length + 1 : Nat) : Int) = ((numN S / 2 % (L.length + 1) : Nat) : Int) := by rw [Int.tmod_eq_emod_of_nonneg (by omega)]; rfl
  have hpl : numN S / 2 % (L.length + 1) < L.length + 1 := Nat.mod_lt _ (by omega)
  clear h
  obtain ⟨pl, hpe⟩ : ∃ pl, pl = numN S / 2 % (L.length + 1) := ⟨_, rfl⟩
  rw [← hpe] at hqm hpl HG
  obtain ⟨n, hn⟩ : ∃ n, n = L.length := ⟨_, rfl⟩
  have HIl : Hid (n = L.length) := hide hn
  rw [← hn] at hqm hpl hl HC HE
  clear hpe hn
  generalize hN : numN S = N at *
  clear hN
  have hwh : IntKind.i64.wrap ((N / 2 : Nat) : Int) = ((N / 2 : Nat) : Int) := by rw [Go.IntKind.wrap_i64]; omega
  have hwp : IntKind.i64.wrap (pl : Int) = (pl : Int) := by rw [Go.IntKind.wrap_i64]; omega
  by_cases h2 : N % 2 = 0
  · have HS2 := hide (unhide HS (by rw [unhide HE]; simp [h2]))
    have ht : ((N : Nat) : Int).tmod 2 = 0 := by rw [Int.tmod_eq_emod_of_nonneg (by omega)]; omega
    clear HS HG HE
    go_enter Try.func19, Try.ntmps19
    go_wp2_with (go_at_call 20; refine (unhide HN).mono ?_; rintro e w' ⟨rfl, hq, hF⟩; obtain ⟨ao, cap, c1, _⟩ := unhide HC w' hq; have HP2 := hide (unhide HS2 w' hq hF); clear hq hF)
    go_ret
    exact unhide HP2
  · have ht : ((N : Nat) : Int).tmod 2 = 1 := by rw [Int.tmod_eq_emod_of_nonneg (by omega)]; omega
    by_cases h0 : n = 0
    · have HS2 := hide (unhide HS (by rw [unhide HE]; simp [h0]))
      subst h0
      clear HS HG HE
      go_enter Try.func19, Try.ntmps19
      go_wp2_with (go_at_call 20; refine (unhide HN).mono ?_; rintro e w' ⟨rfl, hq, hF⟩; obtain ⟨ao, cap, c1, _⟩ := unhide HC w' hq; have HP2 := hide (unhide HS2 w' hq hF); clear hq hF)
      go_ret
      exact unhide HP2
    · have HG2 := hide (unhide HG (by rw [unhide HE]; simp [h2, h0]))
      have hn0 : ¬ (n : Int) = 0 := by omega
      have hnb : ((n : Int) == 0) = false := by simpa using hn0
      have hn5 : ¬ (n : Int) + 1 = 0 := by omega
      have hn6 : ¬ n + 1 = 0 := by omega
      have htd : ((N : Nat) : Int).tdiv 2 = ((N / 2 : Nat) : Int) := by rw [Int.tdiv_eq_ediv_of_nonneg (by omega)]; rfl
      have hqm2 : ((N / 2 : Nat) : Int).tmod ((n : Int) + 1) = (pl : Int) := by rw [← hqm]; simp
      clear HS HG HE hqm
      generalize N / 2 = M at *
      go_enter Try.func19, Try.ntmps19
      go_wp2_with fail
      refine (unhide HN).mono ?_
      rintro e w' ⟨rfl, hq, hF⟩
      obtain ⟨ao, cap, c1, f1, o1, hpl1, hplt⟩ := unhide HC w' hq
      obtain ⟨w1, hw1⟩ : ∃ w1, w1 = w'.alloc (.cells #[.int .i64 now] 3) := ⟨_, rfl⟩
      have F1 : Fr (fun _ => False) w' w1 := by rw [hw1]; exact (Fr.refl _ w').alloc _
      have HO : Hid (Own w1 (.slice ao n cap) C.lb L) := hide (o1.fr F1 fun _ _ => id)
      have HY : Hid (IntsAt w1 (some ⟨w'.heap.size, 0, none⟩) [now]) := hide fun j hj => ⟨w'.heap.size, 0, rfl, by rw [hw1]; simp, by
        obtain rfl : j = 0 := by simpa using hj
        rw [hw1]; simp⟩
      have HE : Hid (∀ ao' c' ib' w2, Own w2 (.slice ao' (n + 1) c') ib' (L ++ [now]) → Grew w1 w2 C.lb ib' → w2.cell? ⟨C.p, 2, none⟩ = some (.slice ao n cap) ∧ w2.frozen? ⟨C.p, 2, none⟩ = false ∧ Calls Try.prog 22 #[.pointer (some ⟨C.p, 0, none⟩), .int .i64 (pl : Int)] (w2.setCell ⟨C.p, 2, none⟩ (.slice ao' (n + 1) c')) fun e w3 => e = .returned (.int .i64 (yldV S L now)) ∧ YieldRP w C S L now e w3) := hide fun ao' c' ib' w2 ho hg => by
        have hsz := F1.size
        exact ⟨hg.fr.cell (F1.cell c1 id) hpl1, hg.fr.free (by omega) (F1.free hplt f1 id) hpl1, unhide HG2 w' w2 _ ib' hq hF ho (by rw [← hw1]; exact hg)⟩
      clear hq hF o1 HG2 HC HN F1
      go_wp2_with (first | (at_builtin; rw [← hw1]; refine wpList_app rfl _ _ rfl (.slice ao n cap) C.lb L rfl (unhide HO) (some ⟨w'.heap.size, 0, none⟩) 1 1 [now] rfl rfl (unhide HY) (by have := unhide HIl; simp; omega) ?_; intro ao' c' ib' w2 ho hg; rw [← unhide HIl] at ho ⊢; obtain ⟨c12, f12, hP⟩ := unhide HE ao' c' ib' w2 ho hg; have HP := hide hP; clear hP ho hg) | (go_at_call 22; refine (unhide HP).mono ?_; rintro e w3 ⟨rfl, hP⟩; have HP3 := hide hP; clear hP))
      go_ret
      exact unhide HP3
set_option maxHeartbeats 1000000 in
theorem ints_any (w : World) (ao bo : Option Addr) (ca cb : Nat) (zs : List Int) (ha : IntsAt w ao zs) (hb : IntsAt w bo zs) (hl : zs.length ≤ 1000000) :
    Calls Try.prog 17 #[.slice ao zs.length ca, .slice bo zs.length cb] w fun e w' => e = .returned (.bool true) ∧ w = w' := by
  have HA := hide ha
  have HB := hide hb
  obtain ⟨n, hn⟩ : ∃ n, n = zs.length := ⟨_, rfl⟩
  have HIl : Hid (n = zs.length) := hide hn
  rw [← hn] at hl ⊢
  clear ha hb hn
  go_enter Try.func17, Try.ntmps17
  go_wp2
  go_loopw [14] (fun i wr => ∃ k : Nat, k ≤ n ∧ i = .int .i64 k ∧ w = wr) (fun i _ => n - (intOf i).toNat)
  case atStart => exact ⟨0, by omega, rfl, rfl⟩
  case round =>
    obtain ⟨k, hk, rfl, rfl⟩ := hrel
    by_cases hlt : k < n
    · have hkz : k < zs.length := by have := unhide HIl; omega
      obtain ⟨b, off, hab, hb1, cz⟩ := unhide HA k hkz
      obtain ⟨b2, off2, hab2, hb2, cz2⟩ := unhide HB k hkz
      subst hab hab2
      generalize zs.getD k 0 = z at *
      clear hkz
      go_wp2
      go_roundw
      case rel => exact ⟨k + 1, by omega, by go_num, trivial⟩
      case measure => simp [intOf]; omega
    · have e : k = n := by omega
      subst e
      go_wp2
      go_ret
      exact ⟨rfl, rfl⟩
end Go.Proofs.Ytidacjkpioenhaa
