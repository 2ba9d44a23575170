/- Clone, Len, List, New, Next, Yield. -/
import Derived.Test.YtidacjkpioenhaaM4
namespace Go.Proofs.Ytidacjkpioenhaa
open Go.RowKit
def CloneP (w : World) (zs : List Int) (e : Ending) (w' : World) : Prop := ∃ ao cp ib, e = .returned (.slice ao zs.length cp) ∧ Own w' (.slice ao zs.length cp) ib zs ∧ (∀ g, ib = some g → w.heap.size ≤ g) ∧ Fr (fun _ => False) w w'
theorem own_empty (w : World) : Own (w.alloc (.cells #[] 3)) (.slice (some ⟨w.heap.size, 0, none⟩) 0 0) (some w.heap.size) [] :=
  .inr ⟨w.heap.size, 0, 0, rfl, rfl, by simp, Nat.le_refl _, fun j hj => by omega, fun j hj => by simp at hj⟩
set_option maxHeartbeats 1000000 in
theorem Clone_q (w : World) (ao : Option Addr) (cp : Nat) (zs : List Int) (h : IntsAt w ao zs) (hl : zs.length ≤ 1000000) :
    Calls Try.prog 18 #[.slice ao zs.length cp] w (CloneP w zs) := by
  have q22 : ∀ (w : World) (a : Option Addr) (n c n' c' : Nat), (binOp .eql 22 (.slice a n c) (.slice none n' c')).run Try.prog w = .ok (.bool a.isNone) w := fun w a n c n' c' => Lib.run_eql_slice_nil w _ _ a n c n' c' Try.underlying22
  cases ao with
  | none =>
    have h0 : zs = [] := by
      cases zs with
      | nil => rfl
      | cons z zs => obtain ⟨_, _, h, _⟩ := h 0 (by simp); cases h
    subst h0
    have HP : Hid (CloneP w [] (.returned (.slice none 0 0)) w) := hide ⟨none, 0, none, rfl, Own.nil _, (fun g h => by cases h), Fr.refl _ _⟩
    clear h
    go_enter Try.func18, Try.ntmps18
    go_wp2
    go_ret
    exact unhide HP
  | some a =>
    obtain ⟨w1, hw1⟩ : ∃ w1, w1 = w.alloc (.cells #[] 3) := ⟨_, rfl⟩
    have F1 : Fr (fun _ => False) w w1 := by rw [hw1]; exact (Fr.refl _ w).alloc _
    have HO : Hid (Own w1 (.slice (some ⟨w.heap.size, 0, none⟩) 0 0) (some w.heap.size) []) := hide (by rw [hw1]; exact own_empty w)
    have HY := hide (h.quiet F1)
    have HL : Hid (zs.length ≤ 1000000) := hide hl
    have HE : Hid (∀ ao' c' ib' w2, Own w2 (.slice ao' (0 + zs.length) c') ib' ([] ++ zs) → Grew w1 w2 (some w.heap.size) ib' → CloneP w zs (.returned (.slice ao' zs.length c')) w2) := hide fun ao' c' ib' w2 ho hg => by
      rw [Nat.zero_add, List.nil_append] at ho
      refine ⟨ao', c', ib', rfl, ho, fun g e => ?_, F1.up hg.fr fun k e => ?_⟩
      · rcases hg.at_ with e' | e'
        · rw [e'] at e; cases e; exact Nat.le_refl _
        · rw [e'] at e; cases e; exact F1.size
      · cases e; exact Nat.le_refl _
    clear h F1 hl
    go_enter Try.func18, Try.ntmps18
    go_wp2_with (at_builtin; rw [← hw1]; refine wpList_app rfl _ _ rfl (.slice (some ⟨w.heap.size, 0, none⟩) 0 0) (some w.heap.size) [] rfl (unhide HO) (some a) zs.length cp zs rfl rfl (unhide HY) (by have := unhide HL; simp; omega) ?_; intro ao' c' ib' w2 ho hg; have HP := hide (unhide HE ao' c' ib' w2 ho hg); clear ho hg; rw [List.length_nil, Nat.zero_add])
    go_ret
    exact unhide HP
set_option maxHeartbeats 1000000 in
theorem Len_q (w : World) (B : Qb) (S I : List Int) (h : QAt w B S I) :
    Calls Try.prog 12 #[.pointer (some ⟨B.p, 0, none⟩)] w fun e w' => e = .returned (.int .i64 (I.length : Nat)) ∧ w = w' := by
  obtain ⟨v, c1, o1⟩ := h.vi
  obtain ⟨ao, cap, rfl, hle, _⟩ := o1.form
  clear h o1
  go_enter Try.func12, Try.ntmps12
  go_wp2
  go_ret
  exact ⟨rfl, rfl⟩
set_option maxHeartbeats 1000000 in
theorem List_q (w : World) (B : Qb) (S I : List Int) (h : QAt w B S I) (hl : I.length ≤ 1000000) : Calls Try.prog 13 #[.pointer (some ⟨B.p, 0, none⟩)] w (CloneP w I) := by
  obtain ⟨v, c1, o1⟩ := h.vi
  obtain ⟨ao, cap, rfl, hle, _⟩ := o1.form
  have HC := hide (Clone_q w ao cap I o1.ints hl)
  clear h o1 hl
  go_enter Try.func13, Try.ntmps13
  go_wp2_with (go_at_call 18; refine (unhide HC).mono ?_; rintro e w' ⟨ao', cp', ib', rfl, ho, hg, hF⟩; have HP : Hid (CloneP w I (.returned (.slice ao' I.length cp')) w') := hide ⟨ao', cp', ib', rfl, ho, hg, hF⟩; clear ho hg hF)
  go_ret
  exact unhide HP
def NewP (w : World) (S : List Int) (e : Ending) (w' : World) : Prop := ∃ B, e = .returned (.pointer (some ⟨B.p, 0, none⟩)) ∧ QAt w' B S [] ∧ (∀ k, B.all k → w.heap.size ≤ k) ∧ Fr (fun _ => False) w w'
set_option maxHeartbeats 1000000 in
theorem New_q (w : World) (ao : Option Addr) (cp : Nat) (zs : List Int) (h : IntsAt w ao zs) (hl : zs.length ≤ 1000000) (hr : ∀ z ∈ zs, rng z) :
    Calls Try.prog 8 #[.slice ao zs.length cp] w (NewP w zs) := by
  have HC := hide (Clone_q w ao cp zs h hl)
  have HE : Hid (∀ ao' cp' ib' w', Own w' (.slice ao' zs.length cp') ib' zs → (∀ g, ib' = some g → w.heap.size ≤ g) → Fr (fun _ => False) w w' → NewP w zs (.returned (.pointer (some ⟨w'.heap.size, 0, none⟩))) (w'.alloc (.cells #[.slice ao' zs.length cp', .slice none 0 0] 45))) := hide fun ao' cp' ib' w' ho hg hF => by
    have F : Fr (fun _ => False) w' (w'.alloc (.cells #[.slice ao' zs.length cp', .slice none 0 0] 45)) := (Fr.refl _ w').alloc _
    refine ⟨⟨w'.heap.size, ib', none⟩, rfl, ⟨⟨_, by simp, ho.fr F fun _ _ => id⟩, ⟨_, by simp, Own.nil _⟩, ?_, ?_, fun e => ?_, by simp, by simp, hr, hl⟩, fun k hk => ?_, hF.trans F⟩
    · unfold World.frozen?; simp only [heap_alloc_new]; simp
    · unfold World.frozen?; simp only [heap_alloc_new]; simp
    · have := ho.lt _ e; simp at this
    · have := hF.size
      rcases hk with e | e | e
      · simp at e; omega
      · simp at e
      · exact hg k e
  clear h hl hr
  go_enter Try.func8, Try.ntmps8
  go_wp2_with (go_at_call 18; refine (unhide HC).mono ?_; rintro e w' ⟨ao', cp', ib', rfl, ho, hg, hF⟩; have HP := hide (unhide HE ao' cp' ib' w' ho hg hF); clear ho hg hF)
  go_ret
  exact unhide HP
/-- Who runs next. -/
def nxtV (S I : List Int) : Int := if I = [] then 0 else I.getD (numN S % I.length) 0
def nxtI (S I : List Int) : List Int := I.eraseIdx (numN S % I.length)
def nxtB (I : List Int) : Bool := !I.isEmpty
def NextP (w : World) (B : Qb) (S I : List Int) (e : Ending) (w' : World) : Prop := e = .returned (.tuple #[.int .i64 (nxtV S I), .bool (nxtB I)]) ∧ QAt w' B S.tail (nxtI S I) ∧ Fr B.own w w'
set_option maxHeartbeats 1000000 in
theorem Next_q (w : World) (B : Qb) (S I : List Int) (h : QAt w B S I) (hl : I.length ≤ 1000000) : Calls Try.prog 14 #[.pointer (some ⟨B.p, 0, none⟩)] w (NextP w B S I) := by
  have HN := hide (Number_q w B S I h)
  have hnl := num_lt h.rg
  by_cases h0 : I = []
  · have HP : Hid (∀ w', QAt w' B S.tail I → Fr (· = B.p) w w' → NextP w B S I (.returned (.tuple #[.int .i64 0, .bool false])) w') := hide fun w' hq hF => by
      subst h0
      exact ⟨rfl, hq, hF.mono fun k e => .inl e⟩
    have HC : Hid (∀ w', QAt w' B S.tail I → ∃ ao cap, w'.cell? ⟨B.p, 1, none⟩ = some (.slice ao 0 cap)) := hide fun w' hq => by
      obtain ⟨v, c1, o1⟩ := hq.vi
      obtain ⟨ao, cap, rfl, hle, _⟩ := o1.form
      subst h0
      exact ⟨ao, cap, c1⟩
    clear h h0 hl
    go_enter Try.func14, Try.ntmps14
    go_wp2_with (go_at_call 15; refine (unhide HN).mono ?_; rintro e w' ⟨rfl, hq, hF⟩; obtain ⟨ao, cap, c1⟩ := unhide HC w' hq; have HP2 := hide (unhide HP w' hq hF); clear hq hF)
    go_ret2
    exact unhide HP2
  · have hpos : 0 < I.length := List.length_pos_iff.2 h0
    have HC : Hid (∀ w', QAt w' B S.tail I → ∃ ao cap, w'.cell? ⟨B.p, 1, none⟩ = some (.slice ao I.length cap)) := hide fun w' hq => by
      obtain ⟨v, c1, o1⟩ := hq.vi
      obtain ⟨ao, cap, rfl, hle, _⟩ := o1.form
      exact ⟨ao, cap, c1⟩
    have HT : Hid (∀ w', QAt w' B S.tail I → Fr (· = B.p) w w' → Calls Try.prog 21 #[.pointer (some ⟨B.p, 0, none⟩), .int .i64 (numN S : Nat)] w' fun e w'' => e = .returned (.int .i64 (nxtV S I)) ∧ NextP w B S I (.returned (.tuple #[.int .i64 (nxtV S I), .bool true])) w'') := hide fun w' hq hF =>
      (take_q w' B S.tail I (numN S) hq hl hpos hnl).mono fun e w'' ⟨he, hq2, hF2⟩ => by
        have e1 : nxtV S I = I.getD (numN S % I.length) 0 := by unfold nxtV; rw [if_neg h0]
        have e2 : nxtB I = true := by unfold nxtB; cases I with | nil => exact absurd rfl h0 | cons _ _ => rfl
        refine ⟨by rw [he, e1], ?_, hq2, (hF.mono fun k e => .inl e).trans hF2⟩
        rw [e2]
    obtain ⟨n, hn⟩ : ∃ n, n = I.length := ⟨_, rfl⟩
    rw [← hn] at HC hl hpos
    clear h h0 hn
    have hn0 : ¬ (n : Int) = 0 := by omega
    have hn1 : ¬ n = 0 := by omega
    have hnb : ((n : Int) == 0) = false := by simpa using hn0
    generalize numN S = N at *
    go_enter Try.func14, Try.ntmps14
    go_wp2_with (first | (go_at_call 15; refine (unhide HN).mono ?_; rintro e w' ⟨rfl, hq, hF⟩; obtain ⟨ao, cap, c1⟩ := unhide HC w' hq; have HT2 := hide (unhide HT w' hq hF); clear hq hF) | (go_at_call 21; refine (unhide HT2).mono ?_; rintro e w'' ⟨rfl, hP⟩; have HP2 := hide hP; clear hP))
    go_ret2
    exact unhide HP2
end Go.Proofs.Ytidacjkpioenhaa
