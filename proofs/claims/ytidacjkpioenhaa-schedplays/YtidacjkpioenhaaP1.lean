/- One step of a play, on both queues. -/
import Derived.Test.YtidacjkpioenhaaL2
import Derived.Deep.RegionHeld2
namespace Go.Proofs.Ytidacjkpioenhaa
open Go.RowKit
/-- The two queues are told the same: what the last row of a step does. -/
theorem fin_any {w0 w : World} {p r : Nat} {S I : List Int} (h : Duo w0 w p r S I S I) (hl : I.length ≤ 1000000) : ∃ ao5 cap5, w.cell? ⟨r, 2, none⟩ = some (.slice ao5 I.length cap5) ∧
    (Calls Try.prog 12 #[.pointer (some ⟨p, 0, none⟩)] w.drew fun e w' => e = .returned (.int .i64 (I.length : Nat)) ∧ w.drew = w') ∧
    (Calls Try.prog 13 #[.pointer (some ⟨p, 0, none⟩)] w.drew fun e w4 => ∃ ao4 cp4, e = .returned (.slice ao4 I.length cp4) ∧ w4.cell? ⟨r, 2, none⟩ = some (.slice ao5 I.length cap5) ∧ Calls Try.prog 17 #[.slice ao4 I.length cp4, .slice ao5 I.length cap5] w4 fun e w' => e = .returned (.bool true) ∧ w'.cell? ⟨r, 2, none⟩ = some (.slice ao5 I.length cap5) ∧ Duo w0 w' p r S I S I) := by
  obtain ⟨ao5, cap5, lb5, c5, _, o5, _⟩ := h.cell
  have hd := h.quiet ((Fr.refl _ w).drew)
  refine ⟨ao5, cap5, c5, hd.len, (hd.list hl).mono fun e w4 ⟨ao4, cp4, ib4, he, ho, _, hF0⟩ => ?_⟩
  have hF := ((Fr.refl (fun _ => False) w).drew).trans hF0
  exact ⟨ao4, cp4, he, hF.cell c5 id, (ints_any w4 ao4 ao5 cp4 cap5 I ho.ints (o5.ints.quiet hF) hl).mono fun e w' ⟨he, hw⟩ => ⟨he, by
    subst hw
    exact ⟨hF.cell c5 id, hd.quiet hF0⟩⟩⟩
theorem yld_len (S I : List Int) (x : Int) : (yldI S I x).length ≤ I.length + 1 := by
  unfold yldI
  split
  · omega
  · have := List.length_eraseIdx_le (I ++ [x]) (numN S / 2 % (I.length + 1))
    simpa using this
theorem nxt_le (S I : List Int) : (nxtI S I).length ≤ I.length := List.length_eraseIdx_le _ _
def StepP (w0 : World) (p r : Nat) (I : List Int) (e : Ending) (w' : World) : Prop := e = .returned (.bool true) ∧ ∃ S' I', I'.length ≤ I.length + 1 ∧ Duo w0 w' p r S' I' S' I'
/-- A block that was made behind the two queues stays. -/
theorem Duo.pushB {w0 w w1 : World} {p r : Nat} {S I T L : List Int} (h : Duo w0 w p r S I T L) (x : Int) (hl : I.length < 1000000) (F : Fr (fun _ => False) w w1) (b : Nat) (hb0 : w.heap.size ≤ b) (hb1 : b < w1.heap.size) : Calls Try.prog 10 #[.pointer (some ⟨p, 0, none⟩), .int .i64 x] w1 fun e w' => e = .returned (.tuple #[]) ∧ Duo w0 w' p r S (I ++ [x]) T L ∧ w'.heap[b]? = w1.heap[b]? ∧ ∀ w2, Fr (fun _ => False) w' w2 → w2.heap[b]? = w1.heap[b]? := by
  obtain ⟨B, C, rfl, rfl, hq, hr, hb, hc, hz, hs, hf⟩ := h
  exact (Push_q w1 B S I x (hq.quiet F) hl).mono fun e w' ⟨he, B', hm, hq', hF⟩ => by
    have e1 := hF.block b hb1 fun hk => by have := hq.lt b (all_of_own hk); omega
    exact ⟨he, Duo.stepQ (hr.quiet F) hb hc hz hs (hf.trans F) hm hq' hF, e1, fun w2 h2 => (h2.block b (Nat.lt_of_lt_of_le hb1 hF.size) id).trans e1⟩
theorem Duo.yieldB {w0 w w1 : World} {p r : Nat} {S I T L : List Int} (h : Duo w0 w p r S I T L) (x : Int) (hl : I.length < 1000000) (hl2 : L.length < 1000000) (F : Fr (fun _ => False) w w1) (b : Nat) (hb0 : w.heap.size ≤ b) (hb1 : b < w1.heap.size) : Calls Try.prog 11 #[.pointer (some ⟨p, 0, none⟩), .int .i64 x] w1 fun e w' => e = .returned (.int .i64 (yldV S I x)) ∧ w'.heap[b]? = w1.heap[b]? ∧
    Calls Try.prog 19 #[.pointer (some ⟨r, 0, none⟩), .int .i64 x] w' fun e w'' => e = .returned (.int .i64 (yldV T L x)) ∧ w''.heap[b]? = w1.heap[b]? ∧ Duo w0 w'' p r S.tail (yldI S I x) T.tail (yldI T L x) := by
  obtain ⟨B, C, rfl, rfl, hq, hr, hb, hc, hz, hs, hf⟩ := h
  exact (Yield_q w1 B S I x (hq.quiet F) hl).mono fun e w' ⟨he, B', hm, hq', hF⟩ => by
    have e1 := hF.block b hb1 fun hk => by have := hq.lt b (all_of_own hk); omega
    refine ⟨he, e1, ?_⟩
    have hd := Duo.stepQ (hr.quiet F) hb hc hz hs (hf.trans F) hm hq' hF
    obtain ⟨B1, C1, hp1, hp2, hq1, hr1, hb1', hc1, hz1, hs1, hf1⟩ := hd
    have hrC : RAt w' C T L := (hr.quiet F).fr hF fun j hj hk => by
      rcases hj with e | e | ⟨off, e⟩
      · exact hs j (all_of_own hk) (.inl e)
      · exact hs j (all_of_own hk) (.inr e)
      · have h1 := hz j off e
        have h2 := hb j (all_of_own hk)
        omega
    have hd2 : ∀ C' w'', MovedR w' C C' → RAt w'' C' T.tail (yldI T L x) → Fr C.own w' w'' → Duo w0 w'' B.p C.p S.tail (yldI S I x) T.tail (yldI T L x) := fun C' w'' hm' hr' hF' => by
      have hsz := (hf.trans F).size
      have := Duo.stepR (w0 := w0) hq' (fun k hk => by
        rcases hm.all k hk with h | h
        · exact hb k h
        · omega) hc hz (fun k hk hc' => by
        rcases hm.all k hk with h | h
        · exact hs k h hc'
        · have := hr.lt k (allR_of_own hc'); have := F.size; omega) hf1 hm' hr' hF'
      rw [hm.p] at this
      exact this
    refine (Yield_r w' C T L x hrC hl2).mono fun e w'' ⟨he2, C', hm', hr', hF'⟩ => ⟨he2, ?_, hd2 C' w'' hm' hr' hF'⟩
    exact (hF'.block b (Nat.lt_of_lt_of_le hb1 hF.size) fun hk => by have := hr.lt b (allR_of_own hk); omega).trans e1
theorem cell_blk {w w' : World} {b i : Nat} {u : Value} (h : w'.heap[b]? = w.heap[b]?) (hc : w.cell? ⟨b, i, none⟩ = some u) : w'.cell? ⟨b, i, none⟩ = some u := (World.cell?_of_block (w := w) (a := ⟨b, i, none⟩) h).trans hc
set_option maxRecDepth 100000 in
set_option maxHeartbeats 2000000 in
theorem step_none (w0 w : World) (p r : Nat) (S I : List Int) (kd x : Int) (h : Duo w0 w p r S I S I) (hl : I.length ≤ 2000) (h1 : kd ≠ 1) (h2 : kd ≠ 2) (h3 : kd ≠ 3) (h4 : kd ≠ 4) : Calls Try.prog 9 #[.pointer (some ⟨p, 0, none⟩), .pointer (some ⟨r, 0, none⟩), .agg #[.int .i64 kd, .int .i64 x]] w (StepP w0 p r I) := by
  obtain ⟨w1, hw1⟩ : ∃ w1, w1 = w.alloc (.cells #[.int .i64 kd, .int .i64 x] 31) := ⟨_, rfl⟩
  have F1 : Fr (fun _ => False) w w1 := by rw [hw1]; exact (Fr.refl _ w).alloc _
  have HD := hide (h.quiet F1)
  have ck : w1.cell? ⟨w.heap.size, 0, none⟩ = some (.int .i64 kd) := by rw [hw1]; simp
  have cx : w1.cell? ⟨w.heap.size, 1, none⟩ = some (.int .i64 x) := by rw [hw1]; simp
  have HI : Hid (I.length ≤ 2000) := hide hl
  clear h F1 hl
  have d1 : (kd == 1) = false := by simpa using h1
  have d2 : (kd == 2) = false := by simpa using h2
  have d3 : (kd == 3) = false := by simpa using h3
  have d4 : (kd == 4) = false := by simpa using h4
  clear h1 h2 h3 h4
  go_enter Try.func9, Try.ntmps9
  go_wp2
  rw [← hw1]
  clear hw1
  have HFn := hide (fin_any (unhide HD) (by have := unhide HI; omega))
  obtain ⟨ao5, cap5, c5, hc12, hc13⟩ := unhide HFn
  have HC12 := hide hc12
  have HC13 := hide hc13
  clear HFn hc12 hc13
  obtain ⟨ln, hln⟩ : ∃ ln, ln = I.length := ⟨_, rfl⟩
  rw [← hln] at c5 HC12 HC13
  clear hln
  go_region_held2 (fun W => W.cell? ⟨r, 2, none⟩ = some (.slice ao5 ln cap5)) (go_keep) (first | (go_at_call 12; refine (unhide HC12).mono ?_; rintro e w20 ⟨rfl, rfl⟩) | (go_at_call 13; refine (unhide HC13).mono ?_; rintro e w21 ⟨ao4, cp4, rfl, c54, hC⟩; have HC := hide hC; clear hC) | (go_at_call 17; refine (unhide HC).mono ?_; rintro e w22 ⟨rfl, c55, hB⟩; have HB := hide hB; clear hB))
  go_wp2
  go_ret
  exact ⟨rfl, S, I, by have := unhide HI; omega, unhide HB⟩
set_option maxRecDepth 100000 in
set_option maxHeartbeats 2000000 in
theorem step_push (w0 w : World) (p r : Nat) (S I : List Int) (x : Int) (h : Duo w0 w p r S I S I) (hl : I.length ≤ 2000) : Calls Try.prog 9 #[.pointer (some ⟨p, 0, none⟩), .pointer (some ⟨r, 0, none⟩), .agg #[.int .i64 1, .int .i64 x]] w (StepP w0 p r I) := by
  obtain ⟨w1, hw1⟩ : ∃ w1, w1 = w.alloc (.cells #[.int .i64 1, .int .i64 x] 31) := ⟨_, rfl⟩
  have F1 : Fr (fun _ => False) w w1 := by rw [hw1]; exact (Fr.refl _ w).alloc _
  have HD := hide (h.quiet F1)
  have ck : w1.cell? ⟨w.heap.size, 0, none⟩ = some (.int .i64 1) := by rw [hw1]; simp
  have cx : w1.cell? ⟨w.heap.size, 1, none⟩ = some (.int .i64 x) := by rw [hw1]; simp
  have HI : Hid (I.length ≤ 2000) := hide hl
  have hsz1 : w.heap.size < w1.heap.size := by rw [hw1]; simp
  have HPu : Hid (Calls Try.prog 10 #[.pointer (some ⟨p, 0, none⟩), .int .i64 x] w1 fun e w2 => e = .returned (.tuple #[]) ∧ w2.cell? ⟨w.heap.size, 1, none⟩ = some (.int .i64 x) ∧ Duo w0 w2 p r S (I ++ [x]) S I) := hide ((h.pushB x (by omega) F1 w.heap.size (Nat.le_refl _) hsz1).mono fun e w2 ⟨he, hd, hb, _⟩ => ⟨he, cell_blk hb cx, hd⟩)
  have HLx : Hid (I.length < 2001) := hide (by omega)
  have HLz : Hid ((I ++ [x]).length ≤ 2001) := hide (by simp; omega)
  have HLe : Hid ((I ++ [x]).length ≤ I.length + 1) := hide (by simp)
  clear h F1 hl HD
  obtain ⟨n, hn⟩ : ∃ n, n = I.length := ⟨_, rfl⟩
  have HIl : Hid (I.length = n) := hide hn.symm
  clear hn
  go_enter Try.func9, Try.ntmps9
  go_wp2_with fail
  rw [← hw1]
  refine (unhide HPu).mono ?_
  rintro e w2 ⟨rfl, cx2, hD2⟩
  obtain ⟨ao4, cap4, lb4, c4, f4, o4, hE4⟩ := hD2.cell
  obtain ⟨w5, hw5⟩ : ∃ w5, w5 = (w2.alloc (.cells #[.int .i64 x] 3)).drew := ⟨_, rfl⟩
  have HX5 : Hid (Own w5 (.slice ao4 I.length cap4) lb4 I ∧ IntsAt w5 (some ⟨w2.heap.size, 0, none⟩) [x] ∧ I.length + [x].length ≤ 1000000 ∧ Fr (fun _ => False) w2 w5) := hide (by
    obtain ⟨F5, hy5⟩ := one_at w2 x _ rfl
    have F : Fr (fun _ => False) w2 w5 := by rw [hw5]; exact F5.drew
    replace hy5 : IntsAt w5 (some ⟨w2.heap.size, 0, none⟩) [x] := by rw [hw5]; exact hy5
    exact ⟨o4.fr F (fun _ _ => id), hy5, by have := unhide HLx; simp; omega, F⟩)
  have c4a : (w2.alloc (.cells #[.int .i64 x] 3)).cell? ⟨r, 2, none⟩ = some (.slice ao4 I.length cap4) := ((Fr.refl (fun _ => False) w2).alloc _).cell c4 id
  rw [unhide HIl] at c4 hE4 HX5 c4a
  have HE4 := hide hE4
  clear hD2 hE4 o4 HPu hw1
  go_wp2
  go_region_law (first | (refine step_app rfl (.tmp 23) (.tmp 26) rfl (.slice ao4 n cap4) lb4 I rfl (by rw [← hw5]; exact (unhide HX5).1) (some ⟨w2.heap.size, 0, none⟩) 1 1 [x] rfl rfl (by rw [← hw5]; exact (unhide HX5).2.1) (by have := (unhide HX5).2.2.1; rw [unhide HIl]; exact this) ?_; intro ao5 c5 lb5 w6 ho hg; rw [← hw5] at hg; rw [unhide HIl] at ho ⊢; obtain ⟨c6, f6, hD6⟩ := unhide HE4 w5 w6 ao5 c5 lb5 x (unhide HX5).2.2.2 ho hg; have HD6 := hide hD6; clear hD6 ho hg) | (go_simp; done))
  all_goals
    go_wp2
    have HFn := hide (fin_any (unhide HD6) (by have := unhide HLz; omega))
    obtain ⟨ao5, cap5, c5, hc12, hc13⟩ := unhide HFn
    have HC12 := hide hc12
    have HC13 := hide hc13
    clear HFn hc12 hc13
    obtain ⟨ln, hln⟩ : ∃ ln, ln = (I ++ [x]).length := ⟨_, rfl⟩
    rw [← hln] at c5 HC12 HC13
    clear hln
    go_region_held2 (fun W => W.cell? ⟨r, 2, none⟩ = some (.slice ao5 ln cap5)) (go_keep) (first | (go_at_call 12; refine (unhide HC12).mono ?_; rintro e w20 ⟨rfl, rfl⟩) | (go_at_call 13; refine (unhide HC13).mono ?_; rintro e w21 ⟨ao4, cp4, rfl, c54, hC⟩; have HC := hide hC; clear hC) | (go_at_call 17; refine (unhide HC).mono ?_; rintro e w22 ⟨rfl, c55, hB⟩; have HB := hide hB; clear hB))
    go_wp2
    go_ret
    exact ⟨rfl, S, (I ++ [x]), unhide HLe, unhide HB⟩

set_option maxRecDepth 100000 in
set_option maxHeartbeats 2000000 in
theorem step_next (w0 w : World) (p r : Nat) (S I : List Int) (x : Int) (h : Duo w0 w p r S I S I) (hl : I.length ≤ 2000) : Calls Try.prog 9 #[.pointer (some ⟨p, 0, none⟩), .pointer (some ⟨r, 0, none⟩), .agg #[.int .i64 2, .int .i64 x]] w (StepP w0 p r I) := by
  obtain ⟨w1, hw1⟩ : ∃ w1, w1 = w.alloc (.cells #[.int .i64 2, .int .i64 x] 31) := ⟨_, rfl⟩
  have F1 : Fr (fun _ => False) w w1 := by rw [hw1]; exact (Fr.refl _ w).alloc _
  have HD := hide (h.quiet F1)
  have ck : w1.cell? ⟨w.heap.size, 0, none⟩ = some (.int .i64 2) := by rw [hw1]; simp
  have cx : w1.cell? ⟨w.heap.size, 1, none⟩ = some (.int .i64 x) := by rw [hw1]; simp
  have HI : Hid (I.length ≤ 2000) := hide hl
  have HC : Hid (Calls Try.prog 14 #[.pointer (some ⟨p, 0, none⟩)] w1 fun e w6 => e = .returned (.tuple #[.int .i64 (nxtV S I), .bool (nxtB I)]) ∧ Calls Try.prog 16 #[.pointer (some ⟨r, 0, none⟩)] w6 fun e w7 => e = .returned (.tuple #[.int .i64 (nxtV S I), .bool (nxtB I)]) ∧ Duo w0 w7 p r S.tail (nxtI S I) S.tail (nxtI S I)) := hide (((unhide HD).next (by omega)).mono fun e w6 ⟨he, h6⟩ => ⟨he, h6.nextR (by omega)⟩)
  have HLe : Hid ((nxtI S I).length ≤ I.length + 1) := hide (by have := nxt_le S I; omega)
  have HLn : Hid ((nxtI S I).length ≤ 2001) := hide (by have := nxt_le S I; omega)
  clear h F1 hl HD
  generalize nxtV S I = v at *
  generalize nxtI S I = X at *
  generalize nxtB I = bb at *
  go_enter Try.func9, Try.ntmps9
  go_wp2_with fail
  rw [← hw1]
  refine (unhide HC).mono ?_
  rintro e w6 ⟨rfl, hC2⟩
  have HC2 := hide hC2
  clear hC2 HC hw1
  go_wp2_with fail
  refine (unhide HC2).mono ?_
  rintro e w7 ⟨rfl, hD7⟩
  have HD7 := hide hD7
  clear hD7 HC2
  go_wp2
  have HFn := hide (fin_any (unhide HD7) (by have := unhide HLn; omega))
  obtain ⟨ao5, cap5, c5, hc12, hc13⟩ := unhide HFn
  have HC12 := hide hc12
  have HC13 := hide hc13
  clear HFn hc12 hc13
  obtain ⟨ln, hln⟩ : ∃ ln, ln = X.length := ⟨_, rfl⟩
  rw [← hln] at c5 HC12 HC13
  clear hln
  go_region_held2 (fun W => W.cell? ⟨r, 2, none⟩ = some (.slice ao5 ln cap5)) (go_keep) (first | (go_at_call 12; refine (unhide HC12).mono ?_; rintro e w20 ⟨rfl, rfl⟩) | (go_at_call 13; refine (unhide HC13).mono ?_; rintro e w21 ⟨ao4, cp4, rfl, c54, hC⟩; have HC := hide hC; clear hC) | (go_at_call 17; refine (unhide HC).mono ?_; rintro e w22 ⟨rfl, c55, hB⟩; have HB := hide hB; clear hB))
  go_wp2
  go_ret
  exact ⟨rfl, S.tail, X, unhide HLe, unhide HB⟩
set_option maxRecDepth 100000 in
set_option maxHeartbeats 2000000 in
theorem step_number (w0 w : World) (p r : Nat) (S I : List Int) (x : Int) (h : Duo w0 w p r S I S I) (hl : I.length ≤ 2000) : Calls Try.prog 9 #[.pointer (some ⟨p, 0, none⟩), .pointer (some ⟨r, 0, none⟩), .agg #[.int .i64 4, .int .i64 x]] w (StepP w0 p r I) := by
  obtain ⟨w1, hw1⟩ : ∃ w1, w1 = w.alloc (.cells #[.int .i64 4, .int .i64 x] 31) := ⟨_, rfl⟩
  have F1 : Fr (fun _ => False) w w1 := by rw [hw1]; exact (Fr.refl _ w).alloc _
  have HD := hide (h.quiet F1)
  have ck : w1.cell? ⟨w.heap.size, 0, none⟩ = some (.int .i64 4) := by rw [hw1]; simp
  have cx : w1.cell? ⟨w.heap.size, 1, none⟩ = some (.int .i64 x) := by rw [hw1]; simp
  have HI : Hid (I.length ≤ 2000) := hide hl
  have HC : Hid (Calls Try.prog 15 #[.pointer (some ⟨p, 0, none⟩)] w1 fun e w6 => e = .returned (.int .i64 (numN S : Nat)) ∧ Calls Try.prog 20 #[.pointer (some ⟨r, 0, none⟩)] w6 fun e w7 => e = .returned (.int .i64 (numN S : Nat)) ∧ Duo w0 w7 p r S.tail I S.tail I) := hide ((unhide HD).number.mono fun e w6 ⟨he, h6⟩ => ⟨he, h6.numberR⟩)
  clear h F1 hl HD
  generalize numN S = N at *
  go_enter Try.func9, Try.ntmps9
  go_wp2_with fail
  rw [← hw1]
  refine (unhide HC).mono ?_
  rintro e w6 ⟨rfl, hC2⟩
  have HC2 := hide hC2
  clear hC2 HC hw1
  go_wp2_with fail
  refine (unhide HC2).mono ?_
  rintro e w7 ⟨rfl, hD7⟩
  have HD7 := hide hD7
  clear hD7 HC2
  go_wp2
  have HFn := hide (fin_any (unhide HD7) (by have := unhide HI; omega))
  obtain ⟨ao5, cap5, c5, hc12, hc13⟩ := unhide HFn
  have HC12 := hide hc12
  have HC13 := hide hc13
  clear HFn hc12 hc13
  obtain ⟨ln, hln⟩ : ∃ ln, ln = I.length := ⟨_, rfl⟩
  rw [← hln] at c5 HC12 HC13
  clear hln
  go_region_held2 (fun W => W.cell? ⟨r, 2, none⟩ = some (.slice ao5 ln cap5)) (go_keep) (first | (go_at_call 12; refine (unhide HC12).mono ?_; rintro e w20 ⟨rfl, rfl⟩) | (go_at_call 13; refine (unhide HC13).mono ?_; rintro e w21 ⟨ao4, cp4, rfl, c54, hC⟩; have HC := hide hC; clear hC) | (go_at_call 17; refine (unhide HC).mono ?_; rintro e w22 ⟨rfl, c55, hB⟩; have HB := hide hB; clear hB))
  go_wp2
  go_ret
  exact ⟨rfl, S.tail, I, by have := unhide HI; omega, unhide HB⟩
set_option maxRecDepth 100000 in
set_option maxHeartbeats 2000000 in
theorem step_yield (w0 w : World) (p r : Nat) (S I : List Int) (x : Int) (h : Duo w0 w p r S I S I) (hl : I.length ≤ 2000) : Calls Try.prog 9 #[.pointer (some ⟨p, 0, none⟩), .pointer (some ⟨r, 0, none⟩), .agg #[.int .i64 3, .int .i64 x]] w (StepP w0 p r I) := by
  obtain ⟨w1, hw1⟩ : ∃ w1, w1 = w.alloc (.cells #[.int .i64 3, .int .i64 x] 31) := ⟨_, rfl⟩
  have F1 : Fr (fun _ => False) w w1 := by rw [hw1]; exact (Fr.refl _ w).alloc _
  have HD := hide (h.quiet F1)
  have ck : w1.cell? ⟨w.heap.size, 0, none⟩ = some (.int .i64 3) := by rw [hw1]; simp
  have cx : w1.cell? ⟨w.heap.size, 1, none⟩ = some (.int .i64 x) := by rw [hw1]; simp
  have HI : Hid (I.length ≤ 2000) := hide hl
  have hsz1 : w.heap.size < w1.heap.size := by rw [hw1]; simp
  obtain ⟨wd, hwd⟩ : ∃ wd, wd = w1.drew := ⟨_, rfl⟩
  have Fd : Fr (fun _ => False) w1 wd := by rw [hwd]; exact (Fr.refl _ w1).drew
  have HC : Hid (Calls Try.prog 11 #[.pointer (some ⟨p, 0, none⟩), .int .i64 x] wd fun e w6 => e = .returned (.int .i64 (yldV S I x)) ∧ w6.cell? ⟨w.heap.size, 1, none⟩ = some (.int .i64 x) ∧ Calls Try.prog 19 #[.pointer (some ⟨r, 0, none⟩), .int .i64 x] w6 fun e w7 => e = .returned (.int .i64 (yldV S I x)) ∧ w7.cell? ⟨w.heap.size, 1, none⟩ = some (.int .i64 x) ∧ Duo w0 w7 p r S.tail (yldI S I x) S.tail (yldI S I x)) := hide ((h.yieldB x (by omega) (by omega) (F1.trans Fd) w.heap.size (Nat.le_refl _) (by have := Fd.size; omega)).mono fun e w6 ⟨he, hb6, h6⟩ => ⟨he, cell_blk hb6 (Fd.cell cx id), h6.mono fun e w7 ⟨he7, hb7, h7⟩ => ⟨he7, cell_blk hb7 (Fd.cell cx id), h7⟩⟩)
  have HLe : Hid ((yldI S I x).length ≤ I.length + 1) := hide (yld_len S I x)
  have HLn : Hid ((yldI S I x).length ≤ 2001) := hide (by have := yld_len S I x; omega)
  clear h F1 hl HD Fd
  generalize yldV S I x = v at *
  generalize yldI S I x = X at *
  go_enter Try.func9, Try.ntmps9
  go_wp2
  rw [← hw1]
  clear hw1
  go_region_held2 (fun W => W.cell? ⟨w.heap.size, 1, none⟩ = some (.int .i64 x)) (go_keep) (first | (go_at_call 11; rw [← hwd]; refine (unhide HC).mono ?_; rintro e w6 ⟨rfl, cx6, hC2⟩; have HC2 := hide hC2; clear hC2) | (go_at_call 19; refine (unhide HC2).mono ?_; rintro e w7 ⟨rfl, cx7, hD7⟩; have HD7 := hide hD7; clear hD7))
  go_wp2
  have HFn := hide (fin_any (unhide HD7) (by have := unhide HLn; omega))
  obtain ⟨ao5, cap5, c5, hc12, hc13⟩ := unhide HFn
  have HC12 := hide hc12
  have HC13 := hide hc13
  clear HFn hc12 hc13
  obtain ⟨ln, hln⟩ : ∃ ln, ln = X.length := ⟨_, rfl⟩
  rw [← hln] at c5 HC12 HC13
  clear hln
  go_region_held2 (fun W => W.cell? ⟨r, 2, none⟩ = some (.slice ao5 ln cap5)) (go_keep) (first | (go_at_call 12; refine (unhide HC12).mono ?_; rintro e w20 ⟨rfl, rfl⟩) | (go_at_call 13; refine (unhide HC13).mono ?_; rintro e w21 ⟨ao4, cp4, rfl, c54, hC⟩; have HC := hide hC; clear hC) | (go_at_call 17; refine (unhide HC).mono ?_; rintro e w22 ⟨rfl, c55, hB⟩; have HB := hide hB; clear hB))
  go_wp2
  go_ret
  exact ⟨rfl, S.tail, X, unhide HLe, unhide HB⟩
theorem step_any (w0 w : World) (p r : Nat) (S I : List Int) (kd x : Int) (h : Duo w0 w p r S I S I) (hl : I.length ≤ 2000) : Calls Try.prog 9 #[.pointer (some ⟨p, 0, none⟩), .pointer (some ⟨r, 0, none⟩), .agg #[.int .i64 kd, .int .i64 x]] w (StepP w0 p r I) := by
  by_cases h1 : kd = 1
  · subst h1; exact step_push w0 w p r S I x h hl
  · by_cases h2 : kd = 2
    · subst h2; exact step_next w0 w p r S I x h hl
    · by_cases h3 : kd = 3
      · subst h3; exact step_yield w0 w p r S I x h hl
      · by_cases h4 : kd = 4
        · subst h4; exact step_number w0 w p r S I x h hl
        · exact step_none w0 w p r S I kd x h hl h1 h2 h3 h4
end Go.Proofs.Ytidacjkpioenhaa
