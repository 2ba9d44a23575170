/- Put, Cut. -/
import Derived.Test.YtkclpbbpcicpiaaDoorL4
namespace Go.Proofs.YtkclpbbpcicpiaaDoor
open Go.RowKit Go.Proofs.YtkclpbbpcicpiaaDoor.Hp
variable {w0 w w' w1 w2 : World} {B : HB} {n p : Nat} {A A' A1 A2 : Nat → Kd} {wd wd' wd1 wd2 : Nat → Int} {hv hv1 hv2 : Value} {held : List Int} {cnt cnt' : Nat} {a b lo N c k : Nat} {f : Nat → Int} {z : Int}
set_option maxRecDepth 100000 in
set_option maxHeartbeats 4000000 in
theorem Put_out (h : Sp w B n p A wd hv held cnt) (hs : SlOf A wd z b lo N c) (i v : Int) (hi : i < 0 ∨ (N : Int) ≤ i) :
    Calls Tryd.prog 22 #[.pointer (some ⟨p, 0, none⟩), .int .i64 z, .int .i64 i, .int .i64 v] w fun e w' => e = .returned (.bool false) ∧ Fr (fun _ => False) w w' := by
  have HO := hide (open_to h hs)
  have HH : Hid (∀ W, Calls Tryd.prog 33 #[.agg #[.int .i64 b, .int .i64 lo, .int .i64 N, .int .i64 c], .int .i64 i] W fun e w' => e = .returned (.bool false) ∧ Fr (fun _ => False) W w') := hide fun W => by
    have := shas2_any b lo N c i W
    rw [show (decide (0 ≤ i) && decide (i < (N : Int))) = false by simp; omega] at this
    exact this
  clear h hs hi
  go_enter Tryd.func22, Tryd.ntmps22
  go_wp2_with fail
  refine (unhide HO).mono ?_
  rintro e w1 ⟨rfl, hF1⟩
  have HF1 := hide (hF1.alloc (slO b lo N c))
  clear hF1 HO
  go_wp2_with fail
  refine (unhide HH _).mono ?_
  rintro e w2 ⟨rfl, hF2⟩
  have HF2 := hide ((unhide HF1).trans hF2)
  clear hF2 HH
  go_wp2
  go_ret
  exact ⟨rfl, unhide HF2⟩
set_option maxRecDepth 100000 in
set_option maxHeartbeats 4000000 in
theorem Put_in (h : Sp w B n p A wd hv held cnt) (hs : SlOf A wd z b lo N c) {C i : Nat} (v : Int) (ha : ArAt A wd b k C f) (hi : i < N) (hl : lo + N ≤ C) :
    Calls Tryd.prog 22 #[.pointer (some ⟨p, 0, none⟩), .int .i64 z, .int .i64 i, .int .i64 v] w fun e w' => e = .returned (.bool true) ∧ Sp w' B n p A (upd wd (b + (1 + (lo + i))) v) hv held cnt ∧ To B p w hv w' hv := by
  have HO := hide (open_to h hs)
  have HH : Hid (∀ W, Calls Tryd.prog 33 #[.agg #[.int .i64 b, .int .i64 lo, .int .i64 N, .int .i64 c], .int .i64 i] W fun e w' => e = .returned (.bool true) ∧ Fr (fun _ => False) W w') := hide fun W => by
    have := shas2_any b lo N c i W
    rw [show (decide (0 ≤ (i : Int)) && decide ((i : Int) < (N : Int))) = true by simp; omega] at this
    exact this
  have HG : Hid (∀ W, Fr (fun _ => False) w W → Calls Tryd.prog 10 #[.pointer (some ⟨p, 0, none⟩), .int .i64 b, .int .i64 ((lo : Int) + i), .int .i64 v] W fun e w' => e = .returned (.bool true) ∧ Sp w' B n p A (upd wd (b + (1 + (lo + i))) v) hv held cnt ∧ To B p w hv w' hv) := hide fun W hF =>
    (SetS (h.quiet hF) ((lo : Int) + i) v (lo + i) (by omega) ha.room (by rw [ha.sz]; omega)).mono fun _ _ x => ⟨x.1, x.2.1, (To.quiet hF).trans x.2.2⟩
  have hC := ha.le
  have hb1 : (lo : Int) + i < 9223372036854775808 := by omega
  clear h hs ha
  go_enter Tryd.func22, Tryd.ntmps22
  go_wp2_with fail
  refine (unhide HO).mono ?_
  rintro e w1 ⟨rfl, hF1⟩
  have HF1 := hide (hF1.alloc (slO b lo N c))
  have HC1 := hide (SlC.new w1 b lo N c)
  clear hF1 HO
  go_wp2_with fail
  refine (unhide HH _).mono ?_
  rintro e w2 ⟨rfl, hF2⟩
  have HF2 := hide ((unhide HF1).trans hF2)
  have cc := ((unhide HC1).quiet hF2).cells
  clear hF2 HH HC1
  generalize w1.heap.size = M at *
  go_wp2_with fail
  refine (unhide HG _ (unhide HF2)).mono ?_
  rintro e w3 ⟨rfl, hs3, ht3⟩
  have HS3 := hide hs3
  have HT3 := hide ht3
  clear hs3 ht3 HG
  go_wp2
  go_ret
  exact ⟨rfl, unhide HS3, unhide HT3⟩
theorem ArAt.put (h : ArAt A wd b k c f) (i : Nat) (v : Int) : ArAt A (upd wd (b + (1 + i)) v) b k c (fun j => if j = i then v else f j) := by
  refine ⟨h.room, h.big, h.kin, h.le, by rw [upd_ne _ _ (by omega)]; exact h.hd, fun j hj => ?_⟩
  by_cases e : j = i
  · rw [if_pos e, e, show b + 1 + i = b + (1 + i) by omega, upd_same]
  · rw [if_neg e, upd_ne _ _ (by omega)]; exact h.it j hj
theorem ArAt.put_olds (h : ArAt A wd b k c f) (hI : Inv n A) {i : Nat} (hi : i < c) (v : Int) : Olds (· = b) A wd A (upd wd (b + (1 + i)) v) := by
  have := h.big
  exact Olds.put hI h.room rfl fun x hx => upd_ne _ _ (by omega)
set_option maxRecDepth 100000 in
set_option maxHeartbeats 4000000 in
theorem Cut_no (h : Sp w B n p A wd hv held cnt) (hs : SlOf A wd z b lo N c) (l u : Int) (hlu : ¬ (0 ≤ l ∧ l ≤ u ∧ u ≤ c)) :
    Calls Tryd.prog 21 #[.pointer (some ⟨p, 0, none⟩), .int .i64 z, .int .i64 l, .int .i64 u] w fun e w' => e = .returned (.tuple #[.int .i64 0, .bool false]) ∧ Fr (fun _ => False) w w' := by
  have HO := hide (open_to h hs)
  clear h hs
  rcases (show l < 0 ∨ (0 ≤ l ∧ u < l) ∨ (0 ≤ l ∧ l ≤ u ∧ (c : Int) < u) by omega) with h1 | ⟨h1, h2⟩ | ⟨h1, h2, h3⟩
  all_goals
    clear hlu
    go_enter Tryd.func21, Tryd.ntmps21
    go_wp2_with fail
    refine (unhide HO).mono ?_
    rintro e w1 ⟨rfl, hF1⟩
    have HF1 := hide (hF1.alloc (slO b lo N c))
    clear hF1 HO
    go_wp2
    go_ret2
    exact ⟨rfl, unhide HF1⟩
/-- A slice of the same array. -/
structure One (n : Nat) (A : Nat → Kd) (wd : Nat → Int) (A2 : Nat → Kd) (wd2 : Nat → Int) (a b lo N c : Nat) : Prop where
  go : Goes n A 5 a A2
  sl : SlAt A2 wd2 a b lo N c
  olds : Olds (fun _ => False) A wd A2 wd2
theorem block_to (h : Sp w B n p A wd hv held cnt) (hc : cnt < 90000) (hl : held.length < 900) (b lo N c : Nat) (hb : b < 100000) (hp : ¬ NoPlace n A 5) (x1 x2 x3 : Int) (e1 : x1 = lo) (e2 : x2 = N) (e3 : x3 = c) :
    Calls Tryd.prog 39 #[.pointer (some ⟨p, 0, none⟩), .agg #[.int .i64 b, .int .i64 x1, .int .i64 x2, .int .i64 x3]] w fun e w' => ∃ (a : Nat) (A2 : Nat → Kd) (wd2 : Nat → Int) (hv' : Value), e = .returned (.tuple #[.int .i64 (a : Int), .bool true]) ∧ One n A wd A2 wd2 a b lo N c ∧ Sp w' B n p A2 wd2 hv' held cnt ∧ To B p w hv w' hv' := by
  subst e1 e2 e3
  have hR2 : Right 4 4 1 := by unfold Right; omega
  have e2 : 1 + (4 : Int).toNat = 5 := rfl
  refine (block_any h (by omega) hl b lo N c (by omega)).mono ?_
  rintro e w' (⟨a, A2, wd2, cnt2, hv', rfl, h2, _, hs, ht⟩ | ⟨A2, wd2, cnt2, hv', rfl, h2, _, hs, ht⟩)
  · obtain ⟨a', ea, g2, rfl, rfl⟩ := mks_to h2 hR2 (by rw [e2]; exact hp)
    obtain rfl : a = a' := by have := (tup_inj ea).1; omega
    rw [e2] at g2 hs
    exact ⟨a, A2, _, hv', rfl, ⟨g2, sl_new h.inv g2 _ b lo N c, sl_olds _ h.inv hs.inv g2 wd b lo N c⟩, hs, ht⟩
  · obtain ⟨a', ea, _⟩ := mks_to h2 hR2 (by rw [e2]; exact hp)
    cases (tup_inj ea).2
set_option maxRecDepth 100000 in
set_option maxHeartbeats 4000000 in
theorem Cut_to (h : Sp w B n p A wd hv held cnt) (hc : cnt < 90000) (hl : held.length < 900) (hs : SlAt A wd a b lo N c) (hb : b < 100000) (hlo : lo ≤ 16384) (hcc : c ≤ 16384) {l u : Nat} (h1 : l ≤ u) (h2 : u ≤ c) (hp : ¬ NoPlace n A 5) :
    Calls Tryd.prog 21 #[.pointer (some ⟨p, 0, none⟩), .int .i64 a, .int .i64 l, .int .i64 u] w fun e w' => ∃ (x : Nat) (A2 : Nat → Kd) (wd2 : Nat → Int) (hv' : Value), e = .returned (.tuple #[.int .i64 (x : Int), .bool true]) ∧ One n A wd A2 wd2 x b (lo + l) (u - l) (c - l) ∧ Sp w' B n p A2 wd2 hv' held cnt ∧ To B p w hv w' hv' := by
  have HO := hide (open_to h (.inr ⟨a, rfl, hs⟩))
  have ha0 : a ≠ 0 := fun e => by have := (room_in h.inv hs.room).1; omega
  have haz : ¬ (a : Int) = 0 := by omega
  have HB : Hid (∀ W, Fr (fun _ => False) w W → Calls Tryd.prog 39 #[.pointer (some ⟨p, 0, none⟩), .agg #[.int .i64 b, .int .i64 ((lo : Int) + l), .int .i64 ((u : Int) - l), .int .i64 ((c : Int) - l)]] W fun e w' => ∃ (x : Nat) (A2 : Nat → Kd) (wd2 : Nat → Int) (hv' : Value), e = .returned (.tuple #[.int .i64 (x : Int), .bool true]) ∧ One n A wd A2 wd2 x b (lo + l) (u - l) (c - l) ∧ Sp w' B n p A2 wd2 hv' held cnt ∧ To B p w hv w' hv') := hide fun W hF => by
    refine (block_to (h.quiet hF) hc hl b (lo + l) (u - l) (c - l) hb hp _ _ _ (by omega) (by omega) (by omega)).mono ?_
    rintro e w' ⟨x, A2, wd2, hv', rfl, ho, hs, ht⟩
    exact ⟨x, A2, wd2, hv', rfl, ho, hs, (To.quiet hF).trans ht⟩
  clear h hs
  go_enter Tryd.func21, Tryd.ntmps21
  go_wp2_with fail
  refine (unhide HO).mono ?_
  rintro e w1 ⟨rfl, hF1⟩
  have HF1 := hide (hF1.alloc (slO b lo N c))
  clear hF1 HO
  go_wp2_with fail
  refine (unhide HB _ (unhide HF1)).mono ?_
  rintro e w2 ⟨x, A2, wd2, hv', rfl, hE⟩
  have HE := hide hE
  clear hE
  go_wp2
  go_ret2
  exact ⟨x, A2, wd2, hv', rfl, unhide HE⟩
end Go.Proofs.YtkclpbbpcicpiaaDoor
