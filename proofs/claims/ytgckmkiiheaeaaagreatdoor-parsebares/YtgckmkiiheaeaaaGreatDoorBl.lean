/- The law ParseBares, walked. -/
import Derived.Test.YtgckmkiiheaeaaaGreatDoorBy
import Derived.Test.YtgckmkiiheaeaaaGreatDoorQe
set_option linter.unusedVariables false
set_option linter.unusedSimpArgs false
namespace Go.Proofs.YtgckmkiiheaeaaaGreatDoor
open Go.RowKit Go.Proofs.YtgckmkiiheaeaaaGreatDoor.Lx

theorem blk7 {w : World} {k t : Nat} {v0 v1 v2 v3 v4 v5 v6 : Value} (h : w.heap[k]? = some (.cells #[v0, v1, v2, v3, v4, v5, v6] t)) : w.cell? ⟨k, 0, none⟩ = some v0 ∧ w.cell? ⟨k, 1, none⟩ = some v1 ∧ w.cell? ⟨k, 2, none⟩ = some v2 ∧ w.cell? ⟨k, 3, none⟩ = some v3 ∧ w.cell? ⟨k, 4, none⟩ = some v4 ∧ w.cell? ⟨k, 5, none⟩ = some v5 ∧ w.cell? ⟨k, 6, none⟩ = some v6 :=
  ⟨blk_cell h 0, blk_cell h 1, blk_cell h 2, blk_cell h 3, blk_cell h 4, blk_cell h 5, blk_cell h 6⟩
theorem keepB {w w' : World} {k : Nat} {o : Obj} (h : w.heap[k]? = some o) (hb : Below w.heap.size w w') : w'.heap[k]? = some o := (hb.block _ (blk_lt h)).trans h
theorem keepN {w w2 : World} {o : Obj} (h : Below (w.alloc o).heap.size (w.alloc o) w2) : w2.heap[w.heap.size]? = some o := keepB (heap_alloc_new' _ _ rfl) h
theorem bareT_again : ∀ (n : Nat) (t : Tr), bareT n (bareT n t) = bareT n t := by
  intro n
  induction n with
  | zero => intro t; rfl
  | succ n ih =>
    intro t
    cases t with
    | mk kd tx nm ps ty rf kids =>
      simp only [bareT, List.map_map]
      congr 1
      exact List.map_congr_left fun t _ => ih t
theorem bares_again (n : Nat) (kids : List Tr) : (kids.map (bareT n)).map (bareT n) = kids.map (bareT n) := by
  rw [List.map_map]
  exact List.map_congr_left fun t _ => bareT_again n t
set_option maxRecDepth 100000 in
set_option maxHeartbeats 2000000 in
theorem bares_w (n : Nat) (kd : Int) (tx : ByteArray) (nm ps : Int) (ty : ByteArray) (rf : Int) (kids : List Tr) (a : Option Addr) (cp : Nat) (w : World) (hv : Vars w) (hk : KidsT (Old w) w n kids a) (hcp : kids.length ≤ cp) :
    Calls Tryz.prog 3 #[.agg #[.int .i64 kd, .string tx, .int .i64 nm, .int .i64 ps, .string ty, .int .i64 rf, .slice a kids.length cp]] w fun e w' => e = .returned (.bool true) ∧ Below w.heap.size w w' := by
  have HA := hide fun o => anchor_any (w.alloc o) (hv.below (by have := hv.lt; omega) (ba w o))
  have HK := hide hk
  clear hv hk
  go_enter Tryz.func3, Tryz.ntmps3
  go_wp2_with (first
    | (go_at_call 7; refine (unhide HA _).mono ?_; rintro e w1 ⟨rfl, hb1⟩; obtain ⟨x0, x1, x2, x3, x4, x5, x6⟩ := blk7 (keepN hb1); have HL1 := hide (keepN hb1); have HB1 := hide (bt2 (ba _ _) hb1); clear hb1)
    | (go_at_call 8; refine (great_w n kd tx nm ps ty rf kids a cp _ _ _ ((unhide HK).next (unhide HB1)) hcp).mono ?_; rintro e w2 ⟨⟨r, rfl⟩, hb2⟩; clear x0 x1 x2 x3 x4 x5 x6; obtain ⟨x0, x1, x2, x3, x4, x5, x6⟩ := blk7 (keepB (unhide HL1) hb2); have HL2 := hide (keepB (unhide HL1) hb2); have HB2 := hide (bt2 (unhide HB1) hb2); have zw2 : w.heap.size < w2.heap.size := (blk_lt (unhide HL2)); clear hb2)
    | (go_at_call 9; refine (copy_w n kd tx nm ps ty rf kids a cp _ ((unhide HK).next (unhide HB2)) hcp).mono ?_; rintro e w3 ⟨⟨a3, cp3, rfl, hcp3, hk3⟩, hb3⟩; clear x0 x1 x2 x3 x4 x5 x6; obtain ⟨x0, x1, x2, x3, x4, x5, x6⟩ := blk7 (keepB (unhide HL2) hb3); have HL3 := hide (keepB (unhide HL2) hb3); have HB3 := hide (bt2 (unhide HB2) hb3); have HK3 := hide hk3; have zw3 : w.heap.size < w3.heap.size := (blk_lt (unhide HL3)); clear hb3 hk3)
    | (go_at_call 10; refine (bare_w n kd tx nm ps ty rf kids a cp _ ((unhide HK).next (ba2 (unhide HB3) _)) hcp).mono ?_; rintro e w5 ⟨⟨a5, cp5, rfl, hcp5, hk5⟩, hb5⟩; clear x0 x1 x2 x3 x4 x5 x6; have HL5 := hide (keepB (blk_alloc (unhide HL3) _) hb5); have HM5 := hide (keepN hb5); have HB5 := hide (bt2 (ba2 (unhide HB3) _) hb5); have HK5 := hide hk5; have HW5 := hide hb5; have zw5 : w.heap.size < w5.heap.size := (blk_lt (unhide HL5)); have zm5 : w3.heap.size < w5.heap.size := (blk_lt (unhide HM5)); clear hb5 hk5))
  · go_ret
    exact ⟨rfl, unhide HB2⟩
  · have P1 := blk_alloc (unhide HL5) (.cells #[.int .i64 kd, .string tx, .int .i64 nm, .int .i64 0, .string ⟨#[]⟩, .int .i64 0, .slice a5 kids.length cp5] 24)
    have P3 := blk_alloc (unhide HM5) (.cells #[.int .i64 kd, .string tx, .int .i64 nm, .int .i64 0, .string ⟨#[]⟩, .int .i64 0, .slice a5 kids.length cp5] 24)
    have P5 := heap_alloc_new' w5 (.cells #[.int .i64 kd, .string tx, .int .i64 nm, .int .i64 0, .string ⟨#[]⟩, .int .i64 0, .slice a5 kids.length cp5] 24) rfl
    have Q := ba2 (unhide HB5) (.cells #[.int .i64 kd, .string tx, .int .i64 nm, .int .i64 0, .string ⟨#[]⟩, .int .i64 0, .slice a5 kids.length cp5] 24)
    have K1 := (unhide HK).next Q
    have K3 := (unhide HK3).old (fun k hk => hk.2) (ba2 (bt2 (ba _ _) (unhide HW5)) (.cells #[.int .i64 kd, .string tx, .int .i64 nm, .int .i64 0, .string ⟨#[]⟩, .int .i64 0, .slice a5 kids.length cp5] 24))
    have K5 := (unhide HK5).old (fun k hk => hk.2) (ba w5 (.cells #[.int .i64 kd, .string tx, .int .i64 nm, .int .i64 0, .string ⟨#[]⟩, .int .i64 0, .slice a5 kids.length cp5] 24))
    clear HL5 HM5 HB5 HK3 HK5 HW5 HL3 HB3 HL2 HB2 HL1 HB1 HA
    generalize w5.alloc (.cells #[.int .i64 kd, .string tx, .int .i64 nm, .int .i64 0, .string ⟨#[]⟩, .int .i64 0, .slice a5 kids.length cp5] 24) = W6 at P1 P3 P5 Q K1 K3 K5 ⊢
    generalize w5.heap.size = B5 at P5 zw5 zm5 ⊢
    generalize w3.heap.size = B3 at P3 zw3 zm5 ⊢
    obtain ⟨KB, hKB⟩ : ∃ KB, KB = kids.map (bareT n) := ⟨_, rfl⟩
    have hKL : KB.length = kids.length := by rw [hKB, List.length_map]
    rw [← hKB] at K5
    have HC : Hid (∀ W, Below W6.heap.size W6 W → W.cell? ⟨w.heap.size, 0, none⟩ = some (.int .i64 kd) ∧ W.cell? ⟨w.heap.size, 1, none⟩ = some (.string tx) ∧ W.cell? ⟨w.heap.size, 2, none⟩ = some (.int .i64 nm) ∧ W.cell? ⟨w.heap.size, 3, none⟩ = some (.int .i64 ps) ∧ W.cell? ⟨w.heap.size, 4, none⟩ = some (.string ty) ∧ W.cell? ⟨w.heap.size, 5, none⟩ = some (.int .i64 rf) ∧ W.cell? ⟨w.heap.size, 6, none⟩ = some (.slice a kids.length cp) ∧ W.cell? ⟨B3, 0, none⟩ = some (.int .i64 kd) ∧ W.cell? ⟨B3, 1, none⟩ = some (.string tx) ∧ W.cell? ⟨B3, 2, none⟩ = some (.int .i64 nm) ∧ W.cell? ⟨B3, 3, none⟩ = some (.int .i64 ps) ∧ W.cell? ⟨B3, 4, none⟩ = some (.string ty) ∧ W.cell? ⟨B3, 5, none⟩ = some (.int .i64 rf) ∧ W.cell? ⟨B3, 6, none⟩ = some (.slice a3 kids.length cp3) ∧ W.cell? ⟨B5, 0, none⟩ = some (.int .i64 kd) ∧ W.cell? ⟨B5, 1, none⟩ = some (.string tx) ∧ W.cell? ⟨B5, 2, none⟩ = some (.int .i64 nm) ∧ W.cell? ⟨B5, 3, none⟩ = some (.int .i64 0) ∧ W.cell? ⟨B5, 4, none⟩ = some (.string ⟨#[]⟩) ∧ W.cell? ⟨B5, 5, none⟩ = some (.int .i64 0) ∧ W.cell? ⟨B5, 6, none⟩ = some (.slice a5 kids.length cp5)) := by
      intro W hW
      obtain ⟨p0, p1, p2, p3, p4, p5, p6⟩ := blk7 (keepB P1 hW)
      obtain ⟨q0, q1, q2, q3, q4, q5, q6⟩ := blk7 (keepB P3 hW)
      obtain ⟨r0, r1, r2, r3, r4, r5, r6⟩ := blk7 (keepB P5 hW)
      exact ⟨p0, p1, p2, p3, p4, p5, p6, q0, q1, q2, q3, q4, q5, q6, r0, r1, r2, r3, r4, r5, r6⟩
    have H12 : Hid (∀ W, Below W6.heap.size W6 W → Calls Tryz.prog 12 #[.agg #[.int .i64 kd, .string tx, .int .i64 nm, .int .i64 ps, .string ty, .int .i64 rf, .slice a kids.length cp]] W fun e w' => ∃ a7 cp7, e = .returned (.agg #[.int .i64 kd, .string tx, .int .i64 nm, .int .i64 0, .string ⟨#[]⟩, .int .i64 0, .slice a7 kids.length cp7]) ∧ kids.length ≤ cp7 ∧ KidsT (Old w') w' n KB a7 ∧ Below W6.heap.size W6 w') := by
      intro W hW
      refine (rbare_w n kd tx nm ps ty rf kids a cp W (K1.next hW) hcp).mono ?_
      rintro e w' ⟨⟨a7, cp7, h1, h2, h3⟩, h4⟩
      rw [← hKB] at h3
      exact ⟨a7, cp7, h1, h2, h3.same fun k hk => ⟨hk.2, rfl⟩, hW.trans (h4.mono hW.size)⟩
    have H10 : Hid (∀ W, Below W6.heap.size W6 W → Calls Tryz.prog 10 #[.agg #[.int .i64 kd, .string tx, .int .i64 nm, .int .i64 0, .string ⟨#[]⟩, .int .i64 0, .slice a5 kids.length cp5]] W fun e w' => ∃ a9 cp9, e = .returned (.agg #[.int .i64 kd, .string tx, .int .i64 nm, .int .i64 0, .string ⟨#[]⟩, .int .i64 0, .slice a9 kids.length cp9]) ∧ kids.length ≤ cp9 ∧ KidsT (Old w') w' n KB a9 ∧ Below W6.heap.size W6 w') := by
      intro W hW
      have h0 := bare_w n kd tx nm 0 ⟨#[]⟩ 0 KB a5 cp5 W (K5.next hW) (by omega)
      rw [hKL] at h0
      refine h0.mono ?_
      rintro e w' ⟨⟨a9, cp9, h1, h2, h3⟩, h4⟩
      rw [show KB.map (bareT n) = KB by rw [hKB]; exact bares_again n kids] at h3
      exact ⟨a9, cp9, h1, h2, h3.same fun k hk => ⟨hk.2, rfl⟩, hW.trans (h4.mono hW.size)⟩
    have H11 : Hid (∀ W x cx, Below W6.heap.size W6 W → KidsT (Old W) W n KB x → kids.length ≤ cx → Calls Tryz.prog 11 #[.agg #[.int .i64 kd, .string tx, .int .i64 nm, .int .i64 0, .string ⟨#[]⟩, .int .i64 0, .slice a5 kids.length cp5], .agg #[.int .i64 kd, .string tx, .int .i64 nm, .int .i64 0, .string ⟨#[]⟩, .int .i64 0, .slice x kids.length cx]] W fun e w' => e = .returned (.bool true) ∧ Below W6.heap.size W6 w') := by
      intro W x cx hW hK hc
      have h0 := same_w n kd tx nm 0 ⟨#[]⟩ 0 KB a5 x cp5 cx W (K5.next hW) hK (by omega) (by omega)
      rw [hKL] at h0
      refine h0.mono ?_
      rintro e w' ⟨h1, h2⟩
      exact ⟨h1, hW.trans (h2.mono hW.size)⟩
    have H11b : Hid (∀ W, Below W6.heap.size W6 W → Calls Tryz.prog 11 #[.agg #[.int .i64 kd, .string tx, .int .i64 nm, .int .i64 ps, .string ty, .int .i64 rf, .slice a kids.length cp], .agg #[.int .i64 kd, .string tx, .int .i64 nm, .int .i64 ps, .string ty, .int .i64 rf, .slice a3 kids.length cp3]] W fun e w' => e = .returned (.bool true) ∧ Below W6.heap.size W6 w') := by
      intro W hW
      refine (same_w n kd tx nm ps ty rf kids a a3 cp cp3 W (K1.next hW) (K3.next hW) hcp hcp3).mono ?_
      rintro e w' ⟨h1, h2⟩
      exact ⟨h1, hW.trans (h2.mono hW.size)⟩
    have H11c : Hid (∀ W x cx, Below W6.heap.size W6 W → KidsT (Old W) W n KB x → kids.length ≤ cx → Calls Tryz.prog 11 #[.agg #[.int .i64 kd, .string tx, .int .i64 nm, .int .i64 0, .string ⟨#[]⟩, .int .i64 0, .slice x kids.length cx], .agg #[.int .i64 kd, .string tx, .int .i64 nm, .int .i64 0, .string ⟨#[]⟩, .int .i64 0, .slice a5 kids.length cp5]] W fun e w' => e = .returned (.bool true) ∧ Below W6.heap.size W6 w') := by
      intro W x cx hW hK hc
      have h0 := same_w n kd tx nm 0 ⟨#[]⟩ 0 KB x a5 cx cp5 W hK (K5.next hW) (by omega) (by omega)
      rw [hKL] at h0
      refine h0.mono ?_
      rintro e w' ⟨h1, h2⟩
      exact ⟨h1, hW.trans (h2.mono hW.size)⟩
    have HQ := hide Q
    obtain ⟨f0, f1, f2, f3, f4, f5, f6, f7, f8, f9, f10, f11, f12, f13, f14, f15, f16, f17, f18, f19, f20⟩ := unhide HC W6 (Below.refl _ _)
    clear K1 K3 K5 P1 P3 P5 Q hKB hKL
    go_region_held2 (fun W => W.cell? ⟨w.heap.size, 0, none⟩ = some (.int .i64 kd) ∧ W.cell? ⟨w.heap.size, 1, none⟩ = some (.string tx) ∧ W.cell? ⟨w.heap.size, 2, none⟩ = some (.int .i64 nm) ∧ W.cell? ⟨w.heap.size, 3, none⟩ = some (.int .i64 ps) ∧ W.cell? ⟨w.heap.size, 4, none⟩ = some (.string ty) ∧ W.cell? ⟨w.heap.size, 5, none⟩ = some (.int .i64 rf) ∧ W.cell? ⟨w.heap.size, 6, none⟩ = some (.slice a kids.length cp) ∧ W.cell? ⟨B3, 0, none⟩ = some (.int .i64 kd) ∧ W.cell? ⟨B3, 1, none⟩ = some (.string tx) ∧ W.cell? ⟨B3, 2, none⟩ = some (.int .i64 nm) ∧ W.cell? ⟨B3, 3, none⟩ = some (.int .i64 ps) ∧ W.cell? ⟨B3, 4, none⟩ = some (.string ty) ∧ W.cell? ⟨B3, 5, none⟩ = some (.int .i64 rf) ∧ W.cell? ⟨B3, 6, none⟩ = some (.slice a3 kids.length cp3) ∧ W.cell? ⟨B5, 0, none⟩ = some (.int .i64 kd) ∧ W.cell? ⟨B5, 1, none⟩ = some (.string tx) ∧ W.cell? ⟨B5, 2, none⟩ = some (.int .i64 nm) ∧ W.cell? ⟨B5, 3, none⟩ = some (.int .i64 0) ∧ W.cell? ⟨B5, 4, none⟩ = some (.string ⟨#[]⟩) ∧ W.cell? ⟨B5, 5, none⟩ = some (.int .i64 0) ∧ W.cell? ⟨B5, 6, none⟩ = some (.slice a5 kids.length cp5)) (go_keep) (first
      | (go_at_call 11; refine (unhide H11c _ a9 cp9 (Below.trans (unhide HB9) (by (repeat' (first | exact Below.refl _ _ | refine Below.drew ?_)))) ((unhide HK9).next (by (repeat' (first | exact Below.refl _ _ | refine Below.drew ?_)))) hcp9).mono ?_; rintro e w10 ⟨rfl, hb10⟩; have HB10 := hide hb10; clear hb10; obtain ⟨j0, j1, j2, j3, j4, j5, j6, j7, j8, j9, j10, j11, j12, j13, j14, j15, j16, j17, j18, j19, j20⟩ := unhide HC _ (unhide HB10))
      | (go_at_call 11; refine (unhide H11b _ (Below.trans (unhide HB8) (by (repeat' (first | exact Below.refl _ _ | refine Below.drew ?_))))).mono ?_; rintro e w8b ⟨rfl, hb8b⟩; have HB8b := hide hb8b; clear hb8b; obtain ⟨i0, i1, i2, i3, i4, i5, i6, i7, i8, i9, i10, i11, i12, i13, i14, i15, i16, i17, i18, i19, i20⟩ := unhide HC _ (unhide HB8b))
      | (go_at_call 11; refine (unhide H11 _ a7 cp7 (Below.trans (unhide HB7) (by (repeat' (first | exact Below.refl _ _ | refine Below.drew ?_)))) ((unhide HK7).next (by (repeat' (first | exact Below.refl _ _ | refine Below.drew ?_)))) hcp7).mono ?_; rintro e w8 ⟨rfl, hb8⟩; have HB8 := hide hb8; clear hb8; obtain ⟨h0, h1, h2, h3, h4, h5, h6, h7, h8, h9, h10, h11, h12, h13, h14, h15, h16, h17, h18, h19, h20⟩ := unhide HC _ (unhide HB8))
      | (go_at_call 12; refine (unhide H12 _ (by (repeat' (first | exact Below.refl _ _ | refine Below.drew ?_)))).mono ?_; rintro e w7 ⟨a7, cp7, rfl, hcp7, hk7, hb7⟩; have HB7 := hide hb7; have HK7 := hide hk7; clear hb7 hk7; obtain ⟨g0, g1, g2, g3, g4, g5, g6, g7, g8, g9, g10, g11, g12, g13, g14, g15, g16, g17, g18, g19, g20⟩ := unhide HC _ (unhide HB7))
      | (go_at_call 10; refine (unhide H10 _ (Below.trans (unhide HB8b) (by (repeat' (first | exact Below.refl _ _ | refine Below.drew ?_))))).mono ?_; rintro e w9 ⟨a9, cp9, rfl, hcp9, hk9, hb9⟩; have HB9 := hide hb9; have HK9 := hide hk9; clear hb9 hk9; obtain ⟨k0, k1, k2, k3, k4, k5, k6, k7, k8, k9, k10, k11, k12, k13, k14, k15, k16, k17, k18, k19, k20⟩ := unhide HC _ (unhide HB9)))
    go_wp2
    go_ret
    exact ⟨rfl, bt2 (unhide HQ) (unhide HB10)⟩
end Go.Proofs.YtgckmkiiheaeaaaGreatDoor
