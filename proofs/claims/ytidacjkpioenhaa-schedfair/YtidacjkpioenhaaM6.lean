/- Yield; the document's example. -/
import Derived.Test.YtidacjkpioenhaaM5
namespace Go.Proofs.Ytidacjkpioenhaa
open Go.RowKit
/-- Whether nobody else gets a turn. -/
def stays (S I : List Int) : Bool := decide (numN S % 2 = 0) || I.isEmpty
def yldV (S I : List Int) (now : Int) : Int := if stays S I then now else (I ++ [now]).getD (numN S / 2 % (I.length + 1)) 0
def yldI (S I : List Int) (now : Int) : List Int := if stays S I then I else (I ++ [now]).eraseIdx (numN S / 2 % (I.length + 1))
def YieldP (w : World) (B : Qb) (S I : List Int) (now : Int) (e : Ending) (w' : World) : Prop := e = .returned (.int .i64 (yldV S I now)) ∧ ∃ B', Moved w B B' ∧ QAt w' B' S.tail (yldI S I now) ∧ Fr B.own w w'
set_option maxRecDepth 100000 in
set_option maxHeartbeats 1000000 in
theorem Yield_q (w : World) (B : Qb) (S I : List Int) (now : Int) (h : QAt w B S I) (hl : I.length < 1000000) : Calls Try.prog 11 #[.pointer (some ⟨B.p, 0, none⟩), .int .i64 now] w (YieldP w B S I now) := by
  have HN := hide (Number_q w B S I h)
  have hnl := num_lt h.rg
  have HC : Hid (∀ w', QAt w' B S.tail I → ∃ ao cap, w'.cell? ⟨B.p, 1, none⟩ = some (.slice ao I.length cap)) := hide fun w' hq => by
    obtain ⟨v, c1, o1⟩ := hq.vi
    obtain ⟨ao, cap, rfl, hle, _⟩ := o1.form
    exact ⟨ao, cap, c1⟩
  have HS : Hid (stays S I = true → ∀ w', QAt w' B S.tail I → Fr (· = B.p) w w' → YieldP w B S I now (.returned (.int .i64 now)) w') := hide fun hs w' hq hF => by
    refine ⟨by unfold yldV; rw [if_pos hs], B, Moved.refl _ _, by unfold yldI; rw [if_pos hs]; exact hq, hF.mono fun k e => .inl e⟩
  have HG : Hid (stays S I = false → ∀ w', QAt w' B S.tail I → Fr (· = B.p) w w' → Calls Try.prog 10 #[.pointer (some ⟨B.p, 0, none⟩), .int .i64 now] w' fun e w1 => e = .returned (.tuple #[]) ∧ Calls Try.prog 21 #[.pointer (some ⟨B.p, 0, none⟩), .int .i64 ((numN S / 2 : Nat) : Int)] w1 fun e w2 => e = .returned (.int .i64 (yldV S I now)) ∧ YieldP w B S I now e w2) := hide fun hs w' hq hF =>
    (Push_q w' B S.tail I now hq hl).mono fun e w1 ⟨he, B1, hm, hq1, hF1⟩ => ⟨he, by
      have ht := take_q w1 B1 S.tail (I ++ [now]) (numN S / 2) hq1 (by simp; omega) (by simp) (by omega)
      rw [hm.p] at ht
      refine ht.mono fun e w2 ⟨he2, hq2, hF2⟩ => ?_
      have hF' : Fr B.own w w' := hF.mono fun k e => .inl e
      have e1 : (I ++ [now]).length = I.length + 1 := by simp
      rw [e1] at he2 hq2
      have e2 : yldV S I now = (I ++ [now]).getD (numN S / 2 % (I.length + 1)) 0 := by unfold yldV; rw [if_neg (by rw [hs]; decide)]
      have e3 : yldI S I now = (I ++ [now]).eraseIdx (numN S / 2 % (I.length + 1)) := by unfold yldI; rw [if_neg (by rw [hs]; decide)]
      have hm' : Moved w B B1 := (Moved.refl w B).trans hF.size hm
      exact ⟨by rw [he2, e2], by rw [he2, e2], B1, hm', by rw [e3]; exact hq2, (hF'.trans hF1).two hm' hF2⟩⟩
  have HE : Hid (stays S I = (decide (numN S % 2 = 0) || decide (I.length = 0))) := hide (by unfold stays; cases I <;> simp)
  clear h
  generalize hN : numN S = N at *
  generalize hn : I.length = n at *
  clear hN hn
  have hwh : IntKind.i64.wrap ((N / 2 : Nat) : Int) = ((N / 2 : Nat) : Int) := by rw [Go.IntKind.wrap_i64]; omega
  by_cases h2 : N % 2 = 0
  · have HS2 := hide (unhide HS (by rw [unhide HE]; simp [h2]))
    have ht : ((N : Nat) : Int).tmod 2 = 0 := by rw [Int.tmod_eq_emod_of_nonneg (by omega)]; omega
    clear HS HG HE
    go_enter Try.func11, Try.ntmps11
    go_wp2_with (go_at_call 15; refine (unhide HN).mono ?_; rintro e w' ⟨rfl, hq, hF⟩; obtain ⟨ao, cap, c1⟩ := unhide HC w' hq; have HP2 := hide (unhide HS2 w' hq hF); clear hq hF)
    go_ret
    exact unhide HP2
  · have ht : ((N : Nat) : Int).tmod 2 = 1 := by rw [Int.tmod_eq_emod_of_nonneg (by omega)]; omega
    by_cases h0 : n = 0
    · have HS2 := hide (unhide HS (by rw [unhide HE]; simp [h0]))
      subst h0
      clear HS HG HE
      go_enter Try.func11, Try.ntmps11
      go_wp2_with (go_at_call 15; refine (unhide HN).mono ?_; rintro e w' ⟨rfl, hq, hF⟩; obtain ⟨ao, cap, c1⟩ := unhide HC w' hq; have HP2 := hide (unhide HS2 w' hq hF); clear hq hF)
      go_ret
      exact unhide HP2
    · have HG2 := hide (unhide HG (by rw [unhide HE]; simp [h2, h0]))
      have hn0 : ¬ (n : Int) = 0 := by omega
      have hnb : ((n : Int) == 0) = false := by simpa using hn0
      have htd : ((N : Nat) : Int).tdiv 2 = ((N / 2 : Nat) : Int) := by rw [Int.tdiv_eq_ediv_of_nonneg (by omega)]; rfl
      clear HS HG HE
      generalize N / 2 = M at *
      go_enter Try.func11, Try.ntmps11
      go_wp2_with (first | (go_at_call 15; refine (unhide HN).mono ?_; rintro e w' ⟨rfl, hq, hF⟩; obtain ⟨ao, cap, c1⟩ := unhide HC w' hq; have HP2 := hide (unhide HG2 w' hq hF); clear hq hF) | (go_at_call 10; refine (unhide HP2).mono ?_; rintro e w1 ⟨rfl, hT⟩; have HT := hide hT; clear hT) | (go_at_call 21; refine (unhide HT).mono ?_; rintro e w2 ⟨rfl, hP⟩; have HP3 := hide hP; clear hP))
      go_ret
      exact unhide HP3
/-- A queue of one's own, since the world w0. -/
def Run (w0 w : World) (p : Nat) (S I : List Int) : Prop := ∃ B : Qb, B.p = p ∧ QAt w B S I ∧ (∀ k, B.all k → w0.heap.size ≤ k) ∧ Fr (fun _ => False) w0 w
theorem all_of_own {B : Qb} {k : Nat} (h : B.own k) : B.all k := by
  rcases h with h | h
  · exact .inl h
  · exact .inr (.inl h)
theorem Run.step {w0 w w' : World} {B B' : Qb} {S I : List Int} (hb : ∀ k, B.all k → w0.heap.size ≤ k) (hf : Fr (fun _ => False) w0 w) (hm : Moved w B B') (hq : QAt w' B' S I) (hF : Fr B.own w w') : Run w0 w' B.p S I :=
  ⟨B', hm.p, hq, fun k hk => by
    rcases hm.all k hk with h | h
    · exact hb k h
    · have := hf.size; omega, hf.up hF fun k hk => hb k (all_of_own hk)⟩
theorem Run.new {w0 w w' : World} {S : List Int} {e : Ending} (hf : Fr (fun _ => False) w0 w) (h : NewP w S e w') : ∃ p, e = .returned (.pointer (some ⟨p, 0, none⟩)) ∧ Run w0 w' p S [] := by
  obtain ⟨B, he, hq, hb, hF⟩ := h
  exact ⟨B.p, he, B, rfl, hq, fun k hk => by have := hb k hk; have := hf.size; omega, hf.trans hF⟩
theorem Run.push {w0 w : World} {p : Nat} {S I : List Int} (h : Run w0 w p S I) (x : Int) (hl : I.length < 1000000) : Calls Try.prog 10 #[.pointer (some ⟨p, 0, none⟩), .int .i64 x] w fun e w' => e = .returned (.tuple #[]) ∧ Run w0 w' p S (I ++ [x]) := by
  obtain ⟨B, rfl, hq, hb, hf⟩ := h
  exact (Push_q w B S I x hq hl).mono fun e w' ⟨he, B', hm, hq', hF⟩ => ⟨he, Run.step hb hf hm hq' hF⟩
theorem Run.yield {w0 w : World} {p : Nat} {S I : List Int} (h : Run w0 w p S I) (x : Int) (hl : I.length < 1000000) : Calls Try.prog 11 #[.pointer (some ⟨p, 0, none⟩), .int .i64 x] w fun e w' => e = .returned (.int .i64 (yldV S I x)) ∧ Run w0 w' p S.tail (yldI S I x) := by
  obtain ⟨B, rfl, hq, hb, hf⟩ := h
  exact (Yield_q w B S I x hq hl).mono fun e w' ⟨he, B', hm, hq', hF⟩ => ⟨he, Run.step hb hf hm hq' hF⟩
theorem Run.next {w0 w : World} {p : Nat} {S I : List Int} (h : Run w0 w p S I) (hl : I.length ≤ 1000000) : Calls Try.prog 14 #[.pointer (some ⟨p, 0, none⟩)] w fun e w' => e = .returned (.tuple #[.int .i64 (nxtV S I), .bool (nxtB I)]) ∧ Run w0 w' p S.tail (nxtI S I) := by
  obtain ⟨B, rfl, hq, hb, hf⟩ := h
  exact (Next_q w B S I hq hl).mono fun e w' ⟨he, hq', hF⟩ => ⟨he, Run.step hb hf (Moved.refl _ _) hq' hF⟩
theorem Run.number {w0 w : World} {p : Nat} {S I : List Int} (h : Run w0 w p S I) : Calls Try.prog 15 #[.pointer (some ⟨p, 0, none⟩)] w fun e w' => e = .returned (.int .i64 (numN S : Nat)) ∧ Run w0 w' p S.tail I := by
  obtain ⟨B, rfl, hq, hb, hf⟩ := h
  exact (Number_q w B S I hq).mono fun e w' ⟨he, hq', hF⟩ => ⟨he, Run.step hb hf (Moved.refl _ _) hq' (hF.mono fun k e => .inl e)⟩
theorem Run.len {w0 w : World} {p : Nat} {S I : List Int} (h : Run w0 w p S I) : Calls Try.prog 12 #[.pointer (some ⟨p, 0, none⟩)] w fun e w' => e = .returned (.int .i64 (I.length : Nat)) ∧ w = w' := by
  obtain ⟨B, rfl, hq, hb, hf⟩ := h
  exact Len_q w B S I hq
theorem Run.list {w0 w : World} {p : Nat} {S I : List Int} (h : Run w0 w p S I) (hl : I.length ≤ 1000000) : Calls Try.prog 13 #[.pointer (some ⟨p, 0, none⟩)] w fun e w' => CloneP w I e w' ∧ Run w0 w' p S I := by
  obtain ⟨B, rfl, hq, hb, hf⟩ := h
  exact (List_q w B S I hq hl).mono fun e w' hc => ⟨hc, by
    obtain ⟨_, _, _, _, _, _, hF⟩ := hc
    exact ⟨B, rfl, hq.quiet hF, hb, hf.trans hF⟩⟩
set_option maxRecDepth 100000 in
set_option maxHeartbeats 1000000 in
theorem anchor_any (w : World) : Calls Try.prog 7 #[] w fun e w' => e = .returned (.bool true) ∧ Fr (fun _ => False) w w' := by
  have HN : Hid (∀ w1, w1 = w.alloc (.cells #[.int .i64 3, .int .i64 1] 3) → Calls Try.prog 8 #[.slice (some ⟨w.heap.size, 0, none⟩) 2 2] w1 fun e w2 => ∃ p, e = .returned (.pointer (some ⟨p, 0, none⟩)) ∧ Run w w2 p [3, 1] []) := hide fun w1 hw => (New_q w1 (some ⟨w.heap.size, 0, none⟩) 2 [3, 1] (fun j hj => ⟨w.heap.size, 0, rfl, by rw [hw]; simp, by
    rw [hw]
    match j, hj with
    | 0, _ => simp
    | 1, _ => simp⟩) (by decide) (by intro z hz; unfold rng; simp at hz; omega)).mono fun e w2 h => Run.new (by rw [hw]; exact (Fr.refl _ w).alloc _) h
  obtain ⟨w1, hw1⟩ : ∃ w1, w1 = w.alloc (.cells #[.int .i64 3, .int .i64 1] 3) := ⟨_, rfl⟩
  have HP1 : Hid (∀ p w', Run w w' p [3, 1] [] → Calls Try.prog 10 #[.pointer (some ⟨p, 0, none⟩), .int .i64 7] w' fun e w'' => e = .returned (.tuple #[]) ∧ Run w w'' p [3, 1] [7]) := hide fun p w' h => h.push 7 (by decide)
  have HP2 : Hid (∀ p w', Run w w' p [3, 1] [7] → Calls Try.prog 10 #[.pointer (some ⟨p, 0, none⟩), .int .i64 8] w' fun e w'' => e = .returned (.tuple #[]) ∧ Run w w'' p [3, 1] [7, 8]) := hide fun p w' h => h.push 8 (by decide)
  have HP3 : Hid (∀ p w', Run w w' p [3, 1] [7, 8] → Calls Try.prog 11 #[.pointer (some ⟨p, 0, none⟩), .int .i64 9] w' fun e w'' => e = .returned (.int .i64 8) ∧ Run w w'' p [1] [7, 9]) := hide fun p w' h => h.yield 9 (by decide)
  have HP4 : Hid (∀ p w', Run w w' p [1] [7, 9] → Calls Try.prog 14 #[.pointer (some ⟨p, 0, none⟩)] w' fun e w'' => e = .returned (.tuple #[.int .i64 9, .bool true]) ∧ Run w w'' p [] [7]) := hide fun p w' h => h.next (by decide)
  have HP5 : Hid (∀ p w', Run w w' p [] [7] → Calls Try.prog 14 #[.pointer (some ⟨p, 0, none⟩)] w' fun e w'' => e = .returned (.tuple #[.int .i64 7, .bool true]) ∧ Run w w'' p [] []) := hide fun p w' h => h.next (by decide)
  have HP6 : Hid (∀ p w', Run w w' p [] [] → Calls Try.prog 14 #[.pointer (some ⟨p, 0, none⟩)] w' fun e w'' => e = .returned (.tuple #[.int .i64 0, .bool false]) ∧ Run w w'' p [] []) := hide fun p w' h => h.next (by decide)
  go_enter Try.func7, Try.ntmps7
  go_wp2_with fail
  rw [← hw1]
  refine (unhide HN _ hw1).mono ?_
  rintro e w2 ⟨p, rfl, h2⟩
  have H2 := hide h2
  clear h2 hw1 HN
  go_wp2_with fail
  refine (unhide HP1 p _ (unhide H2)).mono ?_
  rintro e w3 ⟨rfl, h3⟩
  have H3 := hide h3
  clear h3 H2 HP1
  go_wp2_with fail
  refine (unhide HP2 p _ (unhide H3)).mono ?_
  rintro e w4 ⟨rfl, h4⟩
  have H4 := hide h4
  clear h4 H3 HP2
  go_wp2_with fail
  refine (unhide HP3 p _ (unhide H4)).mono ?_
  rintro e w5 ⟨rfl, h5⟩
  have H5 := hide h5
  clear h5 H4 HP3
  go_wp2_with fail
  refine (unhide HP4 p _ (unhide H5)).mono ?_
  rintro e w6 ⟨rfl, h6⟩
  have H6 := hide h6
  clear h6 H5 HP4
  go_wp2_with fail
  refine (unhide HP5 p _ (unhide H6)).mono ?_
  rintro e w7 ⟨rfl, h7⟩
  have H7 := hide h7
  clear h7 H6 HP5
  go_wp2_with fail
  refine (unhide HP6 p _ (unhide H7)).mono ?_
  rintro e w8 ⟨rfl, h8⟩
  have H8 := hide h8
  clear h8 H7 HP6
  go_wp2
  go_ret
  refine ⟨rfl, ?_⟩
  obtain ⟨_, _, _, _, hF⟩ := unhide H8
  exact hF
end Go.Proofs.Ytidacjkpioenhaa
