/- The answer by definition: what a block's words lead to. -/
import Derived.Test.YtjblmincldaklaaDoorFi0
namespace Go.Proofs.YtjblmincldaklaaDoor
open Go.RowKit Go.Proofs.YtjblmincldaklaaDoor.Hp
set_option maxHeartbeats 1000000 in
theorem in_any (w : World) (pb base N : Nat) (L : List Rb) (lv : Value) (A : Nat → Kd) (x : Int) (h : RefAt w pb base N L lv) (m : Match A L) (hI : Inv N A) (hx : -9223372036854775808 ≤ x ∧ x < 9223372036854775808) :
    Calls Tryd.prog 65 #[.pointer (some ⟨pb, 0, none⟩), .int .i64 x] w fun e w' => e = .returned (.bool (refB A x)) ∧ w' = w := by
  have HC := hide (Find_any pb base N L lv x w h)
  by_cases h0 : x = 0
  · subst h0
    have HY : Hid (refB A 0 = false) := hide (by
      cases hb : refB A 0 with
      | false => rfl
      | true => obtain ⟨y, e, _, h64, _⟩ := ref_nat hI hb; omega)
    clear h m hI hx HC
    go_enter Tryd.func65, Tryd.ntmps65
    go_wp2
    go_ret
    exact ⟨ret_bool (unhide HY).symm, rfl⟩
  · have d0 : (x == 0) = false := by simpa using h0
    by_cases h2 : x % 2 = 0
    · have ht : x.tmod 2 = 0 := Int.tmod_eq_zero_of_dvd (Int.dvd_of_emod_eq_zero h2)
      obtain ⟨fi, hfi⟩ : ∃ fi, fi = findI L x 0 := ⟨_, rfl⟩
      have HY : Hid (refB A x = decide (0 ≤ fi)) := hide (by
        cases hb : refB A x with
        | true =>
          obtain ⟨y, rfl, hr, _⟩ := ref_nat hI hb
          have := find_room m y hr
          rw [hfi, decide_eq_true this]
        | false =>
          have : findI L x 0 = -1 := by
            by_cases hn : 0 ≤ x
            · obtain ⟨y, rfl⟩ := Int.eq_ofNat_of_zero_le hn
              refine find_noroom m y ?_
              have := mt ref_cast.2 (by rw [hb]; decide : ¬ refB A (y : Int) = true)
              omega
            · exact findI_none L 0 fun b _ e => by omega
          rw [hfi, this]; rfl)
      rw [← hfi] at HC
      clear h m hI hfi h2
      go_enter Tryd.func65, Tryd.ntmps65
      go_wp2_with (go_at_call 39; refine (unhide HC).mono ?_; rintro e w' ⟨rfl, rfl⟩)
      go_ret
      exact ⟨ret_bool (by rw [unhide HY]; simp [h0]), rfl⟩
    · have ht : ¬ x.tmod 2 = 0 := fun e => h2 (Int.emod_eq_zero_of_dvd (Int.dvd_of_tmod_eq_zero e))
      have htb : (x.tmod 2 == 0) = false := by simpa using ht
      have htr : -1 ≤ x.tmod 2 ∧ x.tmod 2 ≤ 1 := by
        have h1 := Int.tmod_lt_of_pos x (show (0 : Int) < 2 by decide)
        have h2 := Int.lt_tmod_of_pos x (show (0 : Int) < 2 by decide)
        omega
      have hw : IntKind.i64.wrap (x.tmod 2) = x.tmod 2 := by rw [Go.IntKind.wrap_i64]; omega
      have HY : Hid (refB A x = false) := hide (by
        cases hb : refB A x with
        | false => rfl
        | true => obtain ⟨y, e, _, _, _, he⟩ := ref_nat hI hb; omega)
      clear h m hI HC
      go_enter Tryd.func65, Tryd.ntmps65
      go_wp2
      go_ret
      exact ⟨ret_bool (unhide HY).symm, rfl⟩
/-- What the first k words lead to. -/
def rkTo (A : Nat → Kd) (kd sz ms : Int) (f : Nat → Int) : Nat → List Int
  | 0 => []
  | k + 1 => rkTo A kd sz ms f k ++ (if mayB kd sz ms k && refB A (f k) then [f k] else [])
theorem rkTo_len (A : Nat → Kd) (kd sz ms : Int) (f : Nat → Int) : ∀ k, (rkTo A kd sz ms f k).length ≤ k
  | 0 => Nat.le_refl _
  | k + 1 => by
    have := rkTo_len A kd sz ms f k
    unfold rkTo
    split <;> simp <;> omega
set_option maxRecDepth 100000 in
set_option maxHeartbeats 1000000 in
theorem ChildrenR_any (w : World) (pb base N : Nat) (L : List Rb) (lv : Value) (A : Nat → Kd) (at_ kd sz ms : Int) (wa : Option Addr) (wn wc : Nat) (f : Nat → Int) (h : RefAt w pb base N L lv) (m : Match A L) (hI : Inv N A) (hm : kd = 4 → 0 ≤ ms ∧ ms ≤ 65535) (hwn : wn ≤ 100000)
    (hf : ∀ j, j < wn → -9223372036854775808 ≤ f j ∧ f j < 9223372036854775808) (hc : ∀ j, j < wn → ∃ b off, wa = some ⟨b, off, none⟩ ∧ b < w.heap.size ∧ w.cell? ⟨b, off + j, none⟩ = some (.int .i64 (f j))) :
    Calls Tryd.prog 54 #[.pointer (some ⟨pb, 0, none⟩), .agg #[.int .i64 at_, .int .i64 kd, .int .i64 sz, .int .i64 ms, .slice wa wn wc]] w fun e w' => KidsP w (rkTo A kd sz ms f wn) e w' := by
  obtain ⟨i0, hi, hi0, hi1, hi2⟩ := info_parts Tryd.info3
  obtain ⟨w1, hw1⟩ : ∃ w1, w1 = w.alloc (.cells #[.int .i64 at_, .int .i64 kd, .int .i64 sz, .int .i64 ms, .slice wa wn wc] 62) := ⟨_, rfl⟩
  obtain ⟨bx, hbx⟩ : ∃ bx, bx = w.heap.size := ⟨_, rfl⟩
  obtain ⟨base1, hb1⟩ : ∃ b, b = w1.heap.size := ⟨_, rfl⟩
  have hsz : base1 = bx + 1 := by rw [hb1, hw1, hbx]; simp
  have HW1 : Hid (Fr (fun _ => False) w w1) := hide (by rw [hw1]; exact (Fr.refl _ w).alloc _)
  have HBx : Hid (∀ W, Fr (fun j => base1 ≤ j) w1 W → W.cell? ⟨bx, 0, none⟩ = some (.int .i64 at_) ∧ W.cell? ⟨bx, 1, none⟩ = some (.int .i64 kd) ∧ W.cell? ⟨bx, 2, none⟩ = some (.int .i64 sz) ∧ W.cell? ⟨bx, 3, none⟩ = some (.int .i64 ms) ∧ W.cell? ⟨bx, 4, none⟩ = some (.slice wa wn wc)) := hide fun W q => by
    have e := fun i => World.cell?_of_block (w := w1) (a := ⟨bx, i, none⟩) (q.block bx (by omega) (by omega))
    rw [e 0, e 1, e 2, e 3, e 4, hw1, hbx]
    simp
  have HFw : Hid (∀ W, Fr (fun j => base1 ≤ j) w1 W → Fr (fun _ => False) w W) := hide fun W q => (unhide HW1).up q (fun j hj => by omega)
  have HRef : Hid (∀ W, Fr (fun _ => False) w W → RefAt W pb base N L lv) := hide fun W q => h.quiet q
  have HWd : Hid (∀ W, Fr (fun _ => False) w W → ∀ j, j < wn → ∃ b off, wa = some ⟨b, off, none⟩ ∧ b < W.heap.size ∧ W.cell? ⟨b, off + j, none⟩ = some (.int .i64 (f j))) := hide fun W q j hj => by
    obtain ⟨b, off, e1, e2, e3⟩ := hc j hj
    exact ⟨b, off, e1, Nat.lt_of_lt_of_le e2 q.size, cell_far q e2 e3⟩
  have HMt := hide m
  have HI := hide hI
  have HHf := hide hf
  have HMs := hide hm
  have HBs : Hid (w.heap.size ≤ base1) := hide (by omega)
  clear h m hI hf hc hm
  go_enter Tryd.func54, Tryd.ntmps54
  go_wp2
  rw [← hw1, ← hbx]
  have HW0 := hide hw1
  have HB0 := hide hbx
  have HB1 := hide hb1
  clear hw1 hbx hb1
  go_loopw [5, 6] (fun v i wr => ∃ k : Nat, k ≤ wn ∧ i = .int .i64 k ∧ ∃ ao c cp, v = .slice ao c cp ∧ c ≤ k ∧ Hid (c = (rkTo A kd sz ms f k).length) ∧ Hid (wr.ownsRow base1 3 1 (.slice ao c cp) c ((rkTo A kd sz ms f k).map (Value.int .i64))) ∧ Hid (Fr (fun j => base1 ≤ j) w1 wr)) (fun _ i _ => wn - (intOf i).toNat)
  case atStart => exact ⟨0, by omega, rfl, none, 0, 0, rfl, by omega, hide rfl, hide (World.ownsRow_nil _ _ _ _), hide (Fr.refl _ _)⟩
  case round =>
    obtain ⟨k, hk, rfl, ao, c, cp, rfl, hck, hcl, hO, hF⟩ := hrel
    obtain ⟨c0, c1, c2, c3, c4⟩ := unhide HBx wr (unhide hF)
    have hbw : bx < wr.heap.size := World.block_lt_of_cell? wr ⟨bx, 0, none⟩ c0
    by_cases hlt : k < wn
    · obtain ⟨b, off, hab, hb1, cw⟩ := unhide HWd wr (unhide HFw wr (unhide hF)) k hlt
      subst hab
      have hfr := unhide HHf k hlt
      have HMy : Hid (Calls Tryd.prog 64 #[.agg #[.int .i64 at_, .int .i64 kd, .int .i64 sz, .int .i64 ms, .slice (some ⟨b, off, none⟩) wn wc], .int .i64 k] wr fun e w' => e = .returned (.bool (mayB kd sz ms k)) ∧ Fr (fun _ => False) wr w') := hide (may_any at_ kd sz ms _ wn wc k wr (by omega) (unhide HMs))
      have HIn : Hid (∀ W, Fr (fun _ => False) wr W → Calls Tryd.prog 65 #[.pointer (some ⟨pb, 0, none⟩), .int .i64 (f k)] W fun e w' => e = .returned (.bool (refB A (f k))) ∧ W = w') := hide fun W q => (in_any W pb base N L lv A (f k) (unhide HRef W ((unhide HFw wr (unhide hF)).trans q)) (unhide HMt) (unhide HI) hfr).mono fun _ _ h => ⟨h.1, h.2.symm⟩
      have HNx : Hid (rkTo A kd sz ms f (k + 1) = rkTo A kd sz ms f k ++ (if mayB kd sz ms k && refB A (f k) then [f k] else [])) := hide rfl
      obtain ⟨x, hx⟩ : ∃ x, x = f k := ⟨_, rfl⟩
      rw [← hx] at cw hfr HIn HNx
      generalize mayB kd sz ms k = mb at *
      generalize refB A x = rb at *
      clear hx
      cases mb with
      | false =>
        have HN2 : Hid (rkTo A kd sz ms f (k + 1) = rkTo A kd sz ms f k) := hide (by rw [unhide HNx]; simp)
        clear HNx
        go_wp2_with (go_at_call 64; refine (unhide HMy).mono ?_; rintro e w2 ⟨rfl, hF2⟩)
        refine ⟨⟨k + 1, by omega, by go_num, ao, c, cp, rfl, by omega, hide (by rw [unhide HN2]; exact unhide hcl), hide (by rw [unhide HN2]; exact own_fr (unhide hO) hF2 (fun j hj => hj.elim)), hide ((unhide hF).trans (hF2.mono fun _ x => x.elim))⟩, by simp [intOf]; omega⟩
      | true =>
        cases rb with
        | false =>
          have HN2 : Hid (rkTo A kd sz ms f (k + 1) = rkTo A kd sz ms f k) := hide (by rw [unhide HNx]; simp)
          clear HNx
          go_wp2_with (first | (go_at_call 64; refine (unhide HMy).mono ?_; rintro e w2 ⟨rfl, hF2⟩; have HF2 := hide hF2; have c42 := cell_far hF2 hbw c4; have cw2 := cell_far hF2 hb1 cw; have hbw2 := Nat.lt_of_lt_of_le hbw hF2.size; have hb2 := Nat.lt_of_lt_of_le hb1 hF2.size; clear hF2) | (go_at_call 65; refine (unhide HIn _ (unhide HF2)).mono ?_; rintro e w' ⟨rfl, rfl⟩))
          refine ⟨⟨k + 1, by omega, by go_num, ao, c, cp, rfl, by omega, hide (by rw [unhide HN2]; exact unhide hcl), hide (by rw [unhide HN2]; exact own_fr (unhide hO) (unhide HF2) (fun j hj => hj.elim)), hide ((unhide hF).trans ((unhide HF2).mono fun _ x => x.elim))⟩, by simp [intOf]; omega⟩
        | true =>
          have HN2 : Hid (rkTo A kd sz ms f (k + 1) = rkTo A kd sz ms f k ++ [x]) := hide (by rw [unhide HNx]; simp)
          have hbl : base1 ≤ wr.heap.size := by have := (unhide hF).size; have := unhide HB1; omega
          clear HNx
          go_wp2_with (first | (go_at_call 64; refine (unhide HMy).mono ?_; rintro e w2 ⟨rfl, hF2⟩; have HF2 := hide hF2; have c42 := cell_far hF2 hbw c4; have cw2 := cell_far hF2 hb1 cw; have hbw2 := Nat.lt_of_lt_of_le hbw hF2.size; have hb2 := Nat.lt_of_lt_of_le hb1 hF2.size; clear hF2) | (go_at_call 65; refine (unhide HIn _ (unhide HF2)).mono ?_; rintro e w' ⟨rfl, rfl⟩) | (at_builtin; refine wpList_append_own _ rfl _ _ 31 rfl base1 3 i0 (.int .i64 0) 1 8 Tryd.underlying31 hi hi0 hi1 hi2 rfl (by decide) (.slice ao c cp) c ((rkTo A kd sz ms f k).map (Value.int .i64)) rfl ((own_fr (unhide hO) (unhide HF2) (fun j hj => hj.elim)).alloc _) ⟨w2.heap.size, 0, none⟩ 1 1 [.int .i64 x] rfl rfl (cell_one_new _ _ _) (ints_oneCell .i64 [x]) (by unfold maxLen; omega) (by omega) (by have := (unhide HF2).size; simp; omega) ?_; intro v' w6 hown6 hgrow6 hnil6; obtain ⟨ao6, cp6, hv6, _⟩ := own_form hown6; subst hv6))
          refine ⟨⟨k + 1, by omega, by go_num, ao6, c + 1, cp6, rfl, by omega, hide (by rw [unhide HN2, List.length_append, ← unhide hcl]; rfl), hide (by rw [unhide HN2, List.map_append]; exact hown6), hide ((unhide hF).trans ((((unhide HF2).mono fun _ x => x.elim).alloc _).trans ((Fr.grown hgrow6).mono fun j e => ((unhide hO).lt j e.symm).1)))⟩, by simp [intOf]; omega⟩
    · have e : k = wn := by omega
      subst e
      have HK : Hid (KidsP w (rkTo A kd sz ms f k) (.returned (.slice ao c cp)) wr) := hide (by
        have hO' := own_low (unhide HBs) (unhide hO)
        have e := unhide hcl
        rw [e] at hO'
        rw [e]
        exact ⟨ao, cp, rfl, hO', unhide HFw wr (unhide hF)⟩)
      clear hO hF hcl
      go_wp2
      go_ret
      exact unhide HK
end Go.Proofs.YtjblmincldaklaaDoor
