/- SweepDeep, walked. -/
import Derived.Test.YtinmaogbfcmagaaDoorDp0
import Derived.Test.YtinmaogbfcmagaaDoorAc1
namespace Go.Proofs.YtinmaogbfcmagaaDoor
open Go.RowKit Go.Proofs.YtinmaogbfcmagaaDoor.Hp
structure DpS (w0 w : World) (B : HB) (cut : Int) (k : Nat) (wd : Nat → Int) : Prop where
  at_ : At w B 512 (hrOf (dA k) wd)
  ws : DpW cut k wd
  vars : Vars w
  far : Fr (fun _ => False) w0 w
  mem : ∀ j, B.mem j → w0.heap.size ≤ j ∧ 2 ≤ j
theorem DpS.quiet {w0 w w' : World} {B : HB} {cut : Int} {k : Nat} {wd : Nat → Int} (h : DpS w0 w B cut k wd) (q : Fr (fun _ => False) w w') : DpS w0 w' B cut k wd :=
  ⟨h.at_.quiet q, h.ws, h.vars.fr q id id, h.far.trans q, h.mem⟩
theorem hdr_deep : hdr 2 1 0 = 4294967297 := by decide
theorem deep_reached {w0 w : World} {B : HB} {cut : Int} {n : Nat} {wd : Nat → Int} (h : DpS w0 w B cut n wd) (h1 : 1 ≤ n) (hn : n ≤ 3000) (hc : 0 ≤ cut) (g : Nat) (hg : w.cell? ⟨g, 0, none⟩ = some (.int .i64 (dAt (n - 1) : Int))) :
    Calls Tryd.prog 17 #[.pointer (some ⟨B.p, 0, none⟩), .slice (some ⟨g, 0, none⟩) 1 1] w fun e w' => (∃ ao cp, e = .returned (.slice ao (n - dLo n cut) cp)) ∧ Fr (fun _ => False) w w' := by
  have hgl := World.block_lt_of_cell? w ⟨g, 0, none⟩ hg
  refine (Reached_any w B 512 (dA n) wd (some ⟨g, 0, none⟩) 1 [(dAt (n - 1) : Int)] h.at_ (d_inv hn) (by simp) (by intro z hz; simp at hz; subst hz; unfold dAt; omega) (fun j hj => ?_)).mono ?_
  · obtain rfl : j = 0 := by simp at hj; omega
    exact ⟨g, 0, rfl, hgl, hg⟩
  · rintro e w' ⟨ys, hy1, hy2, ao, cp, rfl, hO, hF⟩
    have : ys = dL (dLo n cut) n := sorted_eq _ _ hy1 (dL_sorted _ _) fun x => by
      rw [hy2 x, d_reach h1 hn hc h.ws, dL_mem]
      constructor
      · rintro ⟨j, a, b, c⟩; exact ⟨j, a, b, by omega⟩
      · rintro ⟨j, a, b, c⟩; exact ⟨j, a, b, by omega⟩
    exact ⟨⟨ao, cp, by rw [this]; simp [dL]⟩, hF⟩
theorem deep_collect {w0 w : World} {B : HB} {cut : Int} {n : Nat} {wd : Nat → Int} (h : DpS w0 w B cut n wd) (h1 : 1 ≤ n) (hn : n ≤ 3000) (hc : 0 ≤ cut) (g : Nat) (hg : w.cell? ⟨g, 0, none⟩ = some (.int .i64 (dAt (n - 1) : Int))) :
    Calls Tryd.prog 18 #[.pointer (some ⟨B.p, 0, none⟩), .slice (some ⟨g, 0, none⟩) 1 1] w fun e w' => e = .returned (.int .i64 ((dLo n cut : Nat) : Int)) ∧ Fr (fun _ => False) w0 w' := by
  have hgl := World.block_lt_of_cell? w ⟨g, 0, none⟩ hg
  have hbl : (blkL (dA n) 512).length ≤ 100000 := by rw [d_blk hn]; simp [dL]; omega
  refine (Collect_any w B 512 (dA n) wd (some ⟨g, 0, none⟩) 1 [(dAt (n - 1) : Int)] h.at_ (d_inv hn) h.vars (fun k hk => (h.mem k hk).2) hbl (by simp) (by intro z hz; simp at hz; subst hz; unfold dAt; omega) (fun j hj => ?_)).mono ?_
  · obtain rfl : j = 0 := by simp at hj; omega
    exact ⟨g, 0, rfl, hgl, hg⟩
  · rintro e w' ⟨rb, A', hrb, rfl, _, _, _, hV, hF⟩
    refine ⟨?_, h.far.up hF (fun k hk => (h.mem k hk).1)⟩
    rw [d_blk hn, d_not (lo := dLo n cut) n fun j hj => ?_]
    · have : dLo n cut < n := by unfold dLo; split <;> omega
      rw [Nat.min_eq_left (by omega)]
    · rw [hrb, d_reach h1 hn hc h.ws]
      constructor
      · rintro ⟨i, a, b, c⟩
        have : i = j := by unfold dAt at c; omega
        omega
      · intro hl; exact ⟨j, hl, hj, rfl⟩
theorem deep_out (n cut : Int) (w : World) (hV : Vars w) (h : n < 1 ∨ 3000 < n ∨ cut < 0) : Calls Tryd.prog 7 #[.int .i64 n, .int .i64 cut] w fun e w' => e = .returned (.bool true) ∧ Below w.heap.size w w' := by
  have HA := hide (anchor_any w hV)
  clear hV
  go_enter Tryd.func7, Tryd.ntmps7
  go_wp2_with fail
  refine (unhide HA).mono ?_
  rintro e w1 ⟨rfl, hF, _⟩
  have HB := hide (hF.below (Nat.le_refl _) (fun k (x : False) => x.elim))
  clear hF
  have hb : ((decide (n < 1) || decide (3000 < n)) || decide (cut < 0)) = true := by
    rcases h with h | h | h <;> simp [h]
  go_wp2
  all_goals first | (go_ret; exact ⟨rfl, unhide HB⟩) | (exfalso; omega)
set_option maxRecDepth 100000 in
set_option maxHeartbeats 600000 in
theorem deep_in (N : Nat) (cut : Int) (w : World) (hV : Vars w) (h1 : 1 ≤ N) (hn : N ≤ 3000) (hc : 0 ≤ cut) (hc2 : cut < 9223372036854775808) : Calls Tryd.prog 7 #[.int .i64 N, .int .i64 cut] w fun e w' => e = .returned (.bool true) ∧ Below w.heap.size w w' := by
  have HA := hide (anchor_any w hV)
  have h2s := hV.size
  clear hV
  go_enter Tryd.func7, Tryd.ntmps7
  go_wp2_with fail
  refine (unhide HA).mono ?_
  rintro e w1 ⟨rfl, hF1, hV1⟩
  have HN : Hid (Calls Tryd.prog 23 #[.int .i64 32768] w1 fun e w' => NewP 32768 w1 e w') := hide (New_any 32768 w1 (by decide) (by decide))
  have HX := hide (And.intro hF1 hV1)
  clear hF1 hV1 HA
  go_wp2_with fail
  refine (unhide HN).mono ?_
  rintro e w2 ⟨B, rfl, hlo, hF2, hA2⟩
  have HS : Hid (DpS w w2 B cut 0 (fun _ => 0)) := hide (by
    obtain ⟨x1, x2⟩ := unhide HX
    have hs := x1.size
    refine ⟨?_, ⟨fun j hj => by omega, fun j hj => by omega⟩, x2.fr hF2 id id, x1.trans hF2, fun j hj => by have := hlo j hj; omega⟩
    unfold dA
    rw [fill_empty]
    exact hA2)
  clear hlo hF2 hA2 HN HX
  unfold HB.ptr
  go_wp2
  go_loopw [6, 7] (fun v i wr => ∃ k : Nat, k ≤ N ∧ i = .int .i64 k ∧ v = .int .i64 (dPrev k) ∧ ∃ wd, Hid (DpS w wr B cut k wd)) (fun _ i _ => N - (intOf i).toNat)
  case atStart => exact ⟨0, by omega, rfl, rfl, _, HS⟩
  case round =>
    obtain ⟨k, hk, rfl, rfl, wd, hS⟩ := hrel
    have hpv : 0 ≤ dPrev k ∧ dPrev k < 10000 := by unfold dPrev dAt; split <;> omega
    by_cases hlt : k < N
    · have h0 : ∀ j, B.mem j → 2 ≤ j := fun j hj => ((unhide hS).mem j hj).2
      have HC1 : Hid (Calls Tryd.prog 22 #[.pointer (some ⟨B.p, 0, none⟩), .int .i64 2] wr fun e w' => e = .returned (.tuple #[.int .i64 ((dAt k : Nat) : Int), .bool true]) ∧ Fr B.mem wr w' ∧ Vars w' ∧ Inv 512 (dA (k + 1)) ∧ At w' B 512 (hrOf (dA (k + 1)) (clearW wd (dAt k) (roomOfM 2)))) := hide (Alloc_to B 512 (dA k) wd 2 wr (unhide hS).at_ (d_inv (by omega)) (unhide hS).vars h0 (by decide) (by decide) (d_goes (by omega)))
      have H0 := hide h0
      clear h0
      go_wp2_with fail
      refine (unhide HC1).mono ?_
      rintro e w3 ⟨rfl, hF3, hV3, hI3, hA3⟩
      have hrm : roomN (dA (k + 1)) (dAt k) = 2 := (d_room (by omega)).1 k (by omega)
      have HSt : Hid (Calls Tryd.prog 24 #[.pointer (some ⟨B.p, 0, none⟩), .int .i64 ((dAt k : Nat) : Int), .int .i64 0, .int .i64 4294967297] w3 fun e w' => e = .returned (.bool true) ∧ Fr B.mem w3 w' ∧ At w' B 512 (hrOf (dA (k + 1)) (upd (clearW wd (dAt k) (roomOfM 2)) (dAt k + 0) 4294967297))) := hide (Store_in B 512 (dA (k + 1)) _ (dAt k) 2 0 4294967297 w3 hA3 hI3 hrm (by decide))
      have HH : Hid (∀ w', Calls Tryd.prog 9 #[.int .i64 2, .int .i64 1, .int .i64 0] w' fun e w'' => e = .returned (.int .i64 4294967297) ∧ w'' = w') := hide fun w' => by
        have := Header_any 2 1 0 w'
        rw [hdr_deep] at this
        exact this
      have HX3 : Hid (Fr (fun _ => False) w w3 ∧ Vars w3 ∧ Inv 512 (dA (k + 1)) ∧ DpW cut k (clearW wd (dAt k) (roomOfM 2)) ∧ roomN (dA (k + 1)) (dAt k) = 2) := hide ⟨(unhide hS).far.up hF3 (fun j hj => ((unhide hS).mem j hj).1), hV3, hI3, (unhide hS).ws.alloc, hrm⟩
      have hat : ((dAt k : Nat) : Int) < 100000 := by unfold dAt; omega
      clear hF3 hV3 hI3 hA3 HC1 hrm
      generalize clearW wd (dAt k) (roomOfM 2) = wd2 at *
      have HSt2 : Hid (∀ w4, At w4 B 512 (hrOf (dA (k + 1)) (upd wd2 (dAt k + 0) 4294967297)) → Calls Tryd.prog 24 #[.pointer (some ⟨B.p, 0, none⟩), .int .i64 ((dAt k : Nat) : Int), .int .i64 1, .int .i64 (dLink cut k)] w4 fun e w' => e = .returned (.bool true) ∧ Fr B.mem w4 w' ∧ At w' B 512 (hrOf (dA (k + 1)) (upd (upd wd2 (dAt k + 0) 4294967297) (dAt k + 1) (dLink cut k)))) := hide fun w4 h4 => Store_in B 512 (dA (k + 1)) _ (dAt k) 2 1 (dLink cut k) w4 h4 (unhide HX3).2.2.1 (unhide HX3).2.2.2.2 (by decide)
      have HE : Hid (∀ w4 w5, Fr B.mem w3 w4 → Fr B.mem w4 w5 → At w5 B 512 (hrOf (dA (k + 1)) (upd (upd wd2 (dAt k + 0) 4294967297) (dAt k + 1) (dLink cut k))) → DpS w w5 B cut (k + 1) (upd (upd wd2 (dAt k + 0) 4294967297) (dAt k + 1) (dLink cut k))) := hide fun w4 w5 q1 q2 h5 => by
        obtain ⟨y1, y2, y3, y4, y5⟩ := unhide HX3
        have q := q1.trans q2
        have n0 : ∀ j, j < 2 → ¬ B.mem j := fun j hj hm => by have := unhide H0 j hm; omega
        exact ⟨h5, y4.put, y2.fr q (n0 0 (by omega)) (n0 1 (by omega)), y1.up q (fun j hj => ((unhide hS).mem j hj).1), (unhide hS).mem⟩
      have HPv : Hid (dPrev (k + 1) = (dAt k : Int)) := hide (by unfold dPrev; rw [if_neg (by omega)]; rfl)
      by_cases hkc : (k : Int) = cut
      · have hlk : dLink cut k = dPrev k + 1 := by unfold dLink; rw [if_pos hkc]
        rw [hlk] at HSt2 HE
        have hkb : ((k : Int) != cut) = false := by simp [hkc]
        clear hlk hkc
        go_wp2_with (first | (go_at_call 9; refine (unhide HH _).mono ?_; rintro e w' ⟨rfl, rfl⟩) | (go_at_call 24; refine (unhide HSt2 _ (unhide HA4)).mono ?_; rintro e w5 ⟨rfl, hF5, hA5⟩; have HD5 := hide (unhide HE _ _ (unhide HF4) hF5 hA5); clear hF5 hA5) | (go_at_call 24; refine (unhide HSt).mono ?_; rintro e w4 ⟨rfl, hF4, hA4⟩; have HF4 := hide hF4; have HA4 := hide hA4; clear hF4 hA4 HSt))
        try go_wp2
        go_roundw
        case rel => exact ⟨k + 1, by omega, by go_num, by rw [unhide HPv], _, HD5⟩
        case measure => simp [intOf]; omega
      · have hlk : dLink cut k = dPrev k := by unfold dLink; rw [if_neg hkc]
        rw [hlk] at HSt2 HE
        have hkb : ((k : Int) != cut) = true := by simpa using hkc
        clear hlk hkc
        go_wp2_with (first | (go_at_call 9; refine (unhide HH _).mono ?_; rintro e w' ⟨rfl, rfl⟩) | (go_at_call 24; refine (unhide HSt2 _ (unhide HA4)).mono ?_; rintro e w5 ⟨rfl, hF5, hA5⟩; have HD5 := hide (unhide HE _ _ (unhide HF4) hF5 hA5); clear hF5 hA5) | (go_at_call 24; refine (unhide HSt).mono ?_; rintro e w4 ⟨rfl, hF4, hA4⟩; have HF4 := hide hF4; have HA4 := hide hA4; clear hF4 hA4 HSt))
        try go_wp2
        go_roundw
        case rel => exact ⟨k + 1, by omega, by go_num, by rw [unhide HPv], _, HD5⟩
        case measure => simp [intOf]; omega
    · have e : k = N := by omega
      subst e
      have hpe : dPrev k = (dAt (k - 1) : Int) := by unfold dPrev; rw [if_neg (by omega)]
      have hlo : dLo k cut < k := by unfold dLo; split <;> omega
      have HRe : Hid (∀ w' g, Fr (fun _ => False) wr w' → w'.cell? ⟨g, 0, none⟩ = some (.int .i64 (dPrev k)) → Calls Tryd.prog 17 #[.pointer (some ⟨B.p, 0, none⟩), .slice (some ⟨g, 0, none⟩) 1 1] w' fun e w'' => (∃ ao cp, e = .returned (.slice ao (k - dLo k cut) cp)) ∧ Fr (fun _ => False) w' w'') := hide fun w' g q hg => deep_reached ((unhide hS).quiet q) h1 hn hc g (by rw [← hpe]; exact hg)
      have HCo : Hid (∀ w' g, Fr (fun _ => False) wr w' → w'.cell? ⟨g, 0, none⟩ = some (.int .i64 (dPrev k)) → Calls Tryd.prog 18 #[.pointer (some ⟨B.p, 0, none⟩), .slice (some ⟨g, 0, none⟩) 1 1] w' fun e w'' => e = .returned (.int .i64 ((dLo k cut : Nat) : Int)) ∧ Fr (fun _ => False) w w'') := hide fun w' g q hg => deep_collect ((unhide hS).quiet q) h1 hn hc g (by rw [← hpe]; exact hg)
      clear hpe
      by_cases hcn : cut < k
      · have hle : (dLo k cut : Int) = cut := by unfold dLo; rw [if_pos hcn]; omega
        have hsub : ((k - dLo k cut : Nat) : Int) = (k : Int) - cut := by omega
        have hsub2 : (k : Int) - ((k : Int) - cut) = cut := by omega
        generalize dLo k cut = lo at *
        go_wp2_with (first | (go_at_call 17; refine (unhide HRe _ _ ((Fr.refl _ wr).alloc _) (by simp)).mono ?_; rintro e w6 ⟨⟨ao, cp, rfl⟩, hF6⟩; have HF6 := hide (((Fr.refl (fun _ => False) wr).alloc (.cells #[.int .i64 (dPrev k)] 3)).trans hF6); clear hF6) | (go_at_call 18; refine (unhide HCo _ _ ((unhide HF6).alloc _) (by simp)).mono ?_; rintro e w7 ⟨rfl, hF7⟩; have HB := hide (hF7.below (Nat.le_refl _) (fun k (x : False) => x.elim)); clear hF7))
        go_ret
        exact ⟨rfl, unhide HB⟩
      · have hle : (dLo k cut : Int) = 0 := by unfold dLo; rw [if_neg hcn]; rfl
        have hsub : ((k - dLo k cut : Nat) : Int) = (k : Int) := by omega
        have hsub2 : (k : Int) - (k : Int) = 0 := by omega
        generalize dLo k cut = lo at *
        go_wp2_with (first | (go_at_call 17; refine (unhide HRe _ _ ((Fr.refl _ wr).alloc _) (by simp)).mono ?_; rintro e w6 ⟨⟨ao, cp, rfl⟩, hF6⟩; have HF6 := hide (((Fr.refl (fun _ => False) wr).alloc (.cells #[.int .i64 (dPrev k)] 3)).trans hF6); clear hF6) | (go_at_call 18; refine (unhide HCo _ _ ((unhide HF6).alloc _) (by simp)).mono ?_; rintro e w7 ⟨rfl, hF7⟩; have HB := hide (hF7.below (Nat.le_refl _) (fun k (x : False) => x.elim)); clear hF7))
        go_ret
        exact ⟨rfl, unhide HB⟩
theorem wf_lt {n : Int} (h : (Lit.int .i64 n).wf = true) : -9223372036854775808 ≤ n ∧ n < 9223372036854775808 := by
  simp [Lit.wf, IntKind.min, IntKind.max, IntKind.signed, IntKind.bits] at h
  omega
theorem deep_w (n cut : Int) (w : World) (hV : Vars w) (_h1 : (Lit.int .i64 n).wf = true) (h2 : (Lit.int .i64 cut).wf = true) : Calls Tryd.prog 7 #[.int .i64 n, .int .i64 cut] w fun e w' => e = .returned (.bool true) ∧ Below w.heap.size w w' := by
  by_cases h : n < 1 ∨ 3000 < n ∨ cut < 0
  · exact deep_out n cut w hV h
  · obtain ⟨N, rfl⟩ := Int.eq_ofNat_of_zero_le (show 0 ≤ n by omega)
    exact deep_in N cut w hV (by omega) (by omega) (by omega) (wf_lt h2).2
end Go.Proofs.YtinmaogbfcmagaaDoor
