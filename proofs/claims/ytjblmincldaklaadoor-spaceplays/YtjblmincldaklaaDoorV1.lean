/- same, walked. -/
import Derived.Test.YtjblmincldaklaaDoorV0
namespace Go.Proofs.YtjblmincldaklaaDoor
open Go.RowKit Go.Proofs.YtjblmincldaklaaDoor.Hp
/-- A block of the list in memory. -/
def XB (W : World) (b : Nat) (at_ : Nat) (kd : Int) (n : Nat) (ms : Int) (gw r1 : Nat) : Prop := W.cell? ⟨b, 0, none⟩ = some (.int .i64 (at_ : Int)) ∧ W.cell? ⟨b, 1, none⟩ = some (.int .i64 kd) ∧ W.cell? ⟨b, 2, none⟩ = some (.int .i64 (n : Int)) ∧ W.cell? ⟨b, 3, none⟩ = some (.int .i64 ms) ∧ W.cell? ⟨b, 4, none⟩ = some (.slice (some ⟨gw, 0, none⟩) r1 r1)
theorem XB.new (w : World) (at_ : Nat) (kd : Int) (n : Nat) (ms : Int) (gw r1 : Nat) : XB (w.alloc (.cells #[.int .i64 (at_ : Int), .int .i64 kd, .int .i64 (n : Int), .int .i64 ms, .slice (some ⟨gw, 0, none⟩) r1 r1] 62)) w.heap.size at_ kd n ms gw r1 := by
  unfold XB
  refine ⟨?_, ?_, ?_, ?_, ?_⟩ <;> (rw [World.cell?_alloc_at _ _ _ _ rfl]; rfl)
theorem XB.fr {W W' : World} {b at_ : Nat} {kd : Int} {n : Nat} {ms : Int} {gw r1 : Nat} (h : XB W b at_ kd n ms gw r1) (k : Fr (fun _ => False) W W') : XB W' b at_ kd n ms gw r1 := by
  have hl := World.block_lt_of_cell? W ⟨b, 0, none⟩ h.1
  have e := k.block b hl id
  have f : ∀ i u, W.cell? ⟨b, i, none⟩ = some u → W'.cell? ⟨b, i, none⟩ = some u := fun i u hu => (World.cell?_of_block (w := W) (a := ⟨b, i, none⟩) e).trans hu
  exact ⟨f _ _ h.1, f _ _ h.2.1, f _ _ h.2.2.1, f _ _ h.2.2.2.1, f _ _ h.2.2.2.2⟩
set_option maxRecDepth 100000 in
set_option maxHeartbeats 8000000 in
theorem same_any {w0 w : World} {B : HB} {p pt pb base N c : Nat} (h : DuoP w0 w B p pt pb base N c) (hN1 : 2 ≤ N) (hN : N ≤ 16) (hc : c ≤ 1000) :
    Calls Tryd.prog 11 #[.pointer (some ⟨p, 0, none⟩), .pointer (some ⟨pt, 0, none⟩)] w fun e w' => e = .returned (.bool true) ∧ Fr (fun _ => False) w w' := by
  obtain ⟨A, wd, hv, held, cnt, L, lv, T, tv, al, av, dv, h1, h2, h3, h4, h5, h6, h7, h8⟩ := h
  have hI := h1.lw.sp.inv
  obtain ⟨cs, hcs⟩ : ∃ cs, cs = cntN (fun s => frK (A s)) N := ⟨_, rfl⟩
  have hcsl : cs ≤ 16 := by rw [hcs]; have := cntN_le (fun s => frK (A s)) N; omega
  obtain ⟨len, hlen⟩ : ∃ len, len = T.length := ⟨_, rfl⟩
  have hln : len ≤ 1000 := by omega
  have HT : Hid (Calls Tryd.prog 18 #[.pointer (some ⟨p, 0, none⟩)] w fun e w' => e = .returned (.tuple #[.int .i64 (len : Int), .int .i64 (cnt : Int), .int .i64 (cs : Int)]) ∧ Fr (fun _ => False) w w') := hide (by
    refine (Told_any h1.lw.sp).mono ?_
    rintro e w' ⟨rfl, hF⟩
    have hp : cntN (fun s => frK (A s)) (64 * setM N) = cs := by
      obtain ⟨d, hd⟩ : ∃ d, 64 * setM N = N + d := ⟨64 * setM N - N, by unfold setM; omega⟩
      rw [hd, hcs]
      exact cnt_past (fun s hs => by rw [hI.past s hs]; rfl) d
    rw [h2.len hI, hp, hlen]
    exact ⟨rfl, hF⟩)
  have HSp : Hid (∀ W, Fr (fun _ => False) w W → Calls Tryd.prog 25 #[.pointer (some ⟨pb, 0, none⟩)] W fun e w' => e = .returned (.int .i64 (cs : Int)) ∧ Fr (fun _ => False) w w') := hide fun W hF => by
    refine (RefSpans_any pb base N L lv A W (h1.tw.quiet hF).ref hI h2.mt (by omega) (by omega)).mono ?_
    rintro e w' ⟨rfl, hF2⟩
    exact ⟨by rw [hcs], hF.trans hF2⟩
  obtain ⟨ao, cp, hf, hg⟩ := own_form h1.tw.tl
  have HC : Hid (∀ W, Fr (fun _ => False) w W → W.cell? ⟨pt, 0, none⟩ = some (.pointer (some ⟨pb, 0, none⟩)) ∧ W.cell? ⟨pt, 1, none⟩ = some (.slice ao len cp) ∧ W.cell? ⟨pt, 4, none⟩ = some (.int .i64 (cnt : Int))) := hide fun W hF => by
    have ht := h1.tw.quiet hF
    exact ⟨ht.c0, by rw [ht.c1.1, hf, hlen], ht.c4.1⟩
  have HCe : Hid (∀ t, t < len → ∃ (g gw r1 n at_ : Nat) (kd ms : Int) (f : Nat → Int), ao = some ⟨g, 0, none⟩ ∧ n ≤ r1 ∧ n ≤ 20000 ∧ (∀ W, Fr (fun _ => False) w W → (W.cell? ⟨g, t * 5, none⟩ = some (.int .i64 (at_ : Int)) ∧ W.cell? ⟨g, t * 5 + 1, none⟩ = some (.int .i64 kd) ∧ W.cell? ⟨g, t * 5 + 2, none⟩ = some (.int .i64 (n : Int)) ∧ W.cell? ⟨g, t * 5 + 3, none⟩ = some (.int .i64 ms) ∧ W.cell? ⟨g, t * 5 + 4, none⟩ = some (.slice (some ⟨gw, 0, none⟩) r1 r1)) ∧ (∀ q, q < r1 → W.cell? ⟨gw, q, none⟩ = some (.int .i64 (f q))) ∧ Calls Tryd.prog 19 #[.pointer (some ⟨p, 0, none⟩), .int .i64 (at_ : Int)] W (fun e w' => e = .returned (.tuple #[.int .i64 kd, .int .i64 (n : Int), .int .i64 ms]) ∧ Fr (fun _ => False) W w') ∧ Calls Tryd.prog 16 #[.pointer (some ⟨p, 0, none⟩), .int .i64 (at_ : Int), .int .i64 (-1)] W (fun e w' => e = .returned (.int .i64 0) ∧ Fr (fun _ => False) W w') ∧ Calls Tryd.prog 16 #[.pointer (some ⟨p, 0, none⟩), .int .i64 (at_ : Int), .int .i64 (n : Int)] W (fun e w' => e = .returned (.int .i64 0) ∧ Fr (fun _ => False) W w') ∧ ∀ q : Nat, q < n → Calls Tryd.prog 16 #[.pointer (some ⟨p, 0, none⟩), .int .i64 (at_ : Int), .int .i64 (q : Int)] W (fun e w' => e = .returned (.int .i64 (f q)) ∧ Fr (fun _ => False) W w'))) := hide fun t ht => by
    obtain ⟨b, hb⟩ : ∃ b, T[t]? = some b := ⟨T[t]'(by omega), by simp⟩
    have hbm := List.mem_of_getElem? hb
    obtain ⟨g, rfl⟩ := hg (by omega)
    obtain ⟨b1, b2, b3, b4⟩ := h2.bl b hbm
    have hR := b2
    unfold Right at hR
    obtain ⟨n, hn⟩ : ∃ n : Nat, b.sz = n := ⟨b.sz.toNat, by omega⟩
    obtain ⟨k1, k2, k3⟩ := h2.head hbm
    obtain ⟨g1, g2, g3⟩ := h2.get hbm
    refine ⟨g, b.gw, b.room - 1, n, b.at_, b.kd, b.ms, fun q => wd (b.at_ + (q + 1)), rfl, by omega, by omega, fun W hF => ?_⟩
    have hs := h1.lw.sp.quiet hF
    have htw := h1.tw.quiet hF
    have hrow := htw.tl
    rw [hf] at hrow
    have hcell := (own_row5 hrow).2 t b hb
    rw [hn] at hcell k2 g2 g3
    refine ⟨hcell, fun q hq => ((htw.ws b hbm).2.1 q hq).1, ?_, ?_, ?_, fun q hq => ?_⟩
    · refine (Head_any hs _).mono ?_
      rintro e w' ⟨rfl, hF2⟩
      exact ⟨by rw [k1, k2, k3], hF2⟩
    · refine (Get_any hs _ _).mono ?_
      rintro e w' ⟨rfl, hF2⟩
      exact ⟨by rw [g1], hF2⟩
    · refine (Get_any hs _ _).mono ?_
      rintro e w' ⟨rfl, hF2⟩
      exact ⟨by rw [g2], hF2⟩
    · refine (Get_any hs _ _).mono ?_
      rintro e w' ⟨rfl, hF2⟩
      exact ⟨by rw [g3 q (by omega)], hF2⟩
  clear h1 h2 h3 h4 h5 h6 h7 h8 hI hcs hlen hf hg
  go_enter Tryd.func11, Tryd.ntmps11
  go_wp2_with (first | (go_at_call 25; refine (unhide HSp _ (unhide HF1)).mono ?_; rintro e w2 ⟨rfl, hF2⟩; obtain ⟨e0, e1, e4⟩ := unhide HC _ hF2; have HF2 := hide hF2; clear hF2) | (go_at_call 18; refine (unhide HT).mono ?_; rintro e w1 ⟨rfl, hF1⟩; obtain ⟨d0, d1, d4⟩ := unhide HC _ hF1; have HF1 := hide hF1; clear hF1))
  go_loopg [49] len (fun gh i wr => ∃ t : Nat, t ≤ len ∧ Hid (gh = len - t) ∧ i = .int .i64 t ∧ Hid (Fr (fun _ => False) w wr))
  case atStart => exact ⟨0, by omega, hide (by omega), rfl, HF2⟩
  case round =>
    obtain ⟨t, ht, hgt, rfl, hF⟩ := hrel
    by_cases hlt : t < len
    · obtain ⟨g, gw, r1, n, at_, kd, ms, f, rfl, hnr, hn2, hW⟩ := unhide HCe t hlt
      obtain ⟨⟨k0, k1, k2, k3, k4⟩, -⟩ := hW _ (unhide hF)
      have HW := hide hW
      clear hW
      have hXB : XB (wr.alloc (.cells #[.int .i64 (at_ : Int), .int .i64 kd, .int .i64 (n : Int), .int .i64 ms, .slice (some ⟨gw, 0, none⟩) r1 r1] 62)) wr.heap.size at_ kd n ms gw r1 := XB.new _ _ _ _ _ _ _
      have hF0 : Fr (fun _ => False) w (wr.alloc (.cells #[.int .i64 (at_ : Int), .int .i64 kd, .int .i64 (n : Int), .int .i64 ms, .slice (some ⟨gw, 0, none⟩) r1 r1] 62)) := (unhide hF).alloc _
      have HX0 := hide hXB
      have HH : Hid (Calls Tryd.prog 19 #[.pointer (some ⟨p, 0, none⟩), .int .i64 (at_ : Int)] (wr.alloc (.cells #[.int .i64 (at_ : Int), .int .i64 kd, .int .i64 (n : Int), .int .i64 ms, .slice (some ⟨gw, 0, none⟩) r1 r1] 62)) fun e w' => e = .returned (.tuple #[.int .i64 kd, .int .i64 (n : Int), .int .i64 ms]) ∧ Fr (fun _ => False) w w' ∧ XB w' wr.heap.size at_ kd n ms gw r1) := hide (by
        refine ((unhide HW _ hF0).2.2.1).mono ?_
        rintro e w' ⟨rfl, hF1⟩
        exact ⟨rfl, hF0.trans hF1, hXB.fr hF1⟩)
      have HG1 : Hid (∀ W, Fr (fun _ => False) w W → XB W wr.heap.size at_ kd n ms gw r1 → Calls Tryd.prog 16 #[.pointer (some ⟨p, 0, none⟩), .int .i64 (at_ : Int), .int .i64 (-1)] W fun e w' => e = .returned (.int .i64 0) ∧ Fr (fun _ => False) w w' ∧ XB w' wr.heap.size at_ kd n ms gw r1) := hide fun W hW hX => by
        refine ((unhide HW _ hW).2.2.2.1).mono ?_
        rintro e w' ⟨rfl, hF1⟩
        exact ⟨rfl, hW.trans hF1, hX.fr hF1⟩
      have HG2 : Hid (∀ W, Fr (fun _ => False) w W → XB W wr.heap.size at_ kd n ms gw r1 → Calls Tryd.prog 16 #[.pointer (some ⟨p, 0, none⟩), .int .i64 (at_ : Int), .int .i64 (n : Int)] W fun e w' => e = .returned (.int .i64 0) ∧ Fr (fun _ => False) w w' ∧ XB w' wr.heap.size at_ kd n ms gw r1) := hide fun W hW hX => by
        refine ((unhide HW _ hW).2.2.2.2.1).mono ?_
        rintro e w' ⟨rfl, hF1⟩
        exact ⟨rfl, hW.trans hF1, hX.fr hF1⟩
      have HG3 : Hid (∀ W q, Fr (fun _ => False) w W → XB W wr.heap.size at_ kd n ms gw r1 → q < n → Calls Tryd.prog 16 #[.pointer (some ⟨p, 0, none⟩), .int .i64 (at_ : Int), .int .i64 (q : Int)] W fun e w' => e = .returned (.int .i64 (f q)) ∧ Fr (fun _ => False) w w' ∧ XB w' wr.heap.size at_ kd n ms gw r1) := hide fun W q hW hX hq => by
        refine ((unhide HW _ hW).2.2.2.2.2 q hq).mono ?_
        rintro e w' ⟨rfl, hF1⟩
        exact ⟨rfl, hW.trans hF1, hX.fr hF1⟩
      have HWq : Hid (∀ W, Fr (fun _ => False) w W → ∀ q, q < r1 → W.cell? ⟨gw, q, none⟩ = some (.int .i64 (f q))) := hide fun W hW => (unhide HW _ hW).2.1
      clear hXB hF0 HW HX0
      go_wp2_with (first | (go_at_call 16; refine (unhide HG2 _ (unhide HF4) (unhide HX4)).mono ?_; rintro e w5 ⟨rfl, hF5, hX5⟩; have HF5 := hide hF5; have HX5 := hide hX5; obtain ⟨z0, z1, z2, z3, z4⟩ := hX5; clear hF5) | (go_at_call 16; refine (unhide HG1 _ (unhide HF3) (unhide HX3)).mono ?_; rintro e w4 ⟨rfl, hF4, hX4⟩; have HF4 := hide hF4; have HX4 := hide hX4; obtain ⟨y0, y1, y2, y3, y4⟩ := hX4; clear hF4) | (go_at_call 19; refine (unhide HH).mono ?_; rintro e w3 ⟨rfl, hF3, hX3⟩; have HX3 := hide hX3; obtain ⟨x0, x1, x2, x3, x4⟩ := hX3; have HF3 := hide hF3; clear hF3))
      obtain ⟨xb, hxb⟩ : ∃ xb, xb = wr.heap.size := ⟨_, rfl⟩
      rw [← hxb] at HX5 HG3 ⊢
      clear x0 x1 x2 x3 x4 y0 y1 y2 y3 y4 z0 z1 z2 z3 z4 HX3 HX4 HF3 HF4 HG1 HG2 HH hxb k0 k1 k2 k3 k4 hF
      obtain ⟨wm, rfl⟩ : ∃ wm, wm = wr := ⟨_, rfl⟩
      go_loopg [13] n (fun gh i wr => ∃ q : Nat, q ≤ n ∧ Hid (gh = n - q) ∧ i = .int .i64 q ∧ Hid (Fr (fun _ => False) w wr) ∧ Hid (XB wr xb at_ kd n ms gw r1))
      case atStart => exact ⟨0, by omega, hide (by omega), rfl, HF5, HX5⟩
      case round =>
        obtain ⟨q, hq, hgq, rfl, hFq, hXq⟩ := hrel
        have hX := unhide hXq
        obtain ⟨x0, x1, x2, x3, x4⟩ := hX
        by_cases hql : q < n
        · have hqr : q < r1 := by omega
          have kq := unhide HWq _ (unhide hFq) q hqr
          have HG : Hid (∀ W, Fr (fun _ => False) wr W → Calls Tryd.prog 16 #[.pointer (some ⟨p, 0, none⟩), .int .i64 (at_ : Int), .int .i64 (q : Int)] W fun e w' => e = .returned (.int .i64 (f q)) ∧ Fr (fun _ => False) w w' ∧ XB w' xb at_ kd n ms gw r1) := hide fun W hW => unhide HG3 W q ((unhide hFq).trans hW) ((unhide hXq).fr hW) hql
          clear HG3
          go_wp2
          go_region_law (first | (go_simp; go_at_call 16; refine (unhide HG _ (by first | exact Fr.refl _ _ | exact (Fr.refl _ _).drew)).mono ?_; rintro e w6 ⟨rfl, hF6, hX6⟩; have HX6 := hide hX6; have HF6 := hide hF6; obtain ⟨y0, y1, y2, y3, y4⟩ := hX6; have jq := unhide HWq _ hF6 q hqr; clear hF6))
          all_goals go_wp2
          all_goals go_roundg (n - (q + 1))
          all_goals first
            | exact ⟨q + 1, by omega, hide rfl, by go_num, HF6, HX6⟩
            | (have := unhide hgq; omega)
        · obtain rfl : q = n := by omega
          go_wp2
          go_roundg (len - (t + 1))
          all_goals first
            | exact ⟨t + 1, by omega, hide rfl, by go_num, hFq⟩
            | (have := unhide hgt; omega)
    · obtain rfl : t = len := by omega
      go_wp2
      go_ret
      exact ⟨rfl, unhide hF⟩
end Go.Proofs.YtjblmincldaklaaDoor
