/- The calls in a law's own space; the document's example. -/
import Derived.Test.YtogjblikljggbaaDoorM5
namespace Go.Proofs.YtogjblikljggbaaDoor
open Go.RowKit Go.Proofs.YtogjblikljggbaaDoor.Hp
variable {w0 w w' w1 w2 : World} {B : HB} {n p : Nat} {A A' : Nat → Kd} {wd wd' : Nat → Int} {hv hv1 hv2 : Value} {held : List Int} {cnt : Nat} {a P b cl : Nat} {r : Bool} {l : List Int}
theorem ChAt.of (h : ChAt A wd a P r cl b l) : ChOf A wd a b l.length P := .inr ⟨a, r, cl, l, rfl, rfl, h⟩
theorem l_new (h : Lw w0 w B n p A wd hv held cnt) (hc : cnt < 90000) (P : Nat) (hP : P ≤ 1024) (r : Bool) (hp : ¬ NoPlace n A (5 + P)) :
    Calls Tryd.prog 10 #[.pointer (some ⟨p, 0, none⟩), .int .i64 P, .bool r] w fun e w' => ∃ (a : Nat) (A' : Nat → Kd) (wd' : Nat → Int), e = .returned (.tuple #[.int .i64 (a : Int), .bool true]) ∧ NewC n A wd P r a A' wd' ∧ Lw w0 w' B n p A' wd' hv held cnt := by
  refine (New_ok h.sp hc P hP r hp).mono ?_
  rintro e w' ⟨a, A', wd', rfl, hn, hs, ht⟩
  exact ⟨a, A', wd', rfl, hn, h.step hs ht⟩
theorem l_push (h : Lw w0 w B n p A wd hv held cnt) (hc : ChAt A wd a P r cl b l) (hl : l.length < P) (v : Int) :
    Calls Tryd.prog 11 #[.pointer (some ⟨p, 0, none⟩), .int .i64 a, .int .i64 v] w fun e w' => e = .returned (.bool true) ∧ ∃ wd', ChAt A wd' a P r cl b (l ++ [v]) ∧ Olds (· = a) A wd A wd' ∧ Lw w0 w' B n p A wd' hv held cnt := by
  refine (Push_yes h.sp hc hl v).mono ?_
  rintro e w' ⟨rfl, ht, hs⟩
  exact ⟨rfl, _, hc.push hl v, hc.push_olds h.sp.inv hl v, h.step hs ht⟩
theorem l_push_no (h : Lw w0 w B n p A wd hv held cnt) (hc : ChAt A wd a P r cl b l) (hl : l.length = P) (v : Int) :
    Calls Tryd.prog 11 #[.pointer (some ⟨p, 0, none⟩), .int .i64 a, .int .i64 v] w fun e w' => e = .returned (.bool false) ∧ Lw w0 w' B n p A wd hv held cnt := by
  have ho := hc.of
  rw [hl] at ho
  exact (Push_no h.sp ho v).mono fun _ _ x => ⟨x.1, h.quiet x.2⟩
theorem l_shift {x : Int} (h : Lw w0 w B n p A wd hv held cnt) (hc : ChAt A wd a P r cl b (x :: l)) :
    Calls Tryd.prog 12 #[.pointer (some ⟨p, 0, none⟩), .int .i64 a] w fun e w' => e = .returned (.tuple #[.int .i64 x, .bool true]) ∧ ∃ wd', ChAt A wd' a P r cl ((b + 1) % P) l ∧ Olds (· = a) A wd A wd' ∧ Lw w0 w' B n p A wd' hv held cnt := by
  refine (Shift_yes h.sp hc).mono ?_
  rintro e w' ⟨rfl, ht, hs⟩
  exact ⟨rfl, _, hc.shift, hc.shift_olds h.sp.inv, h.step hs ht⟩
theorem l_shift_no (h : Lw w0 w B n p A wd hv held cnt) (hc : ChAt A wd a P r cl b []) :
    Calls Tryd.prog 12 #[.pointer (some ⟨p, 0, none⟩), .int .i64 a] w fun e w' => e = .returned (.tuple #[.int .i64 0, .bool false]) ∧ Lw w0 w' B n p A wd hv held cnt :=
  (Shift_no h.sp hc.of).mono fun _ _ x => ⟨x.1, h.quiet x.2⟩
theorem l_count (h : Lw w0 w B n p A wd hv held cnt) (hc : ChAt A wd a P r cl b l) :
    Calls Tryd.prog 14 #[.pointer (some ⟨p, 0, none⟩), .int .i64 a] w fun e w' => e = .returned (.tuple #[.int .i64 l.length, .int .i64 P]) ∧ Lw w0 w' B n p A wd hv held cnt :=
  (Count_of h.sp hc.of).mono fun _ _ x => ⟨x.1, h.quiet x.2⟩
theorem l_closed (h : Lw w0 w B n p A wd hv held cnt) (hc : ChAt A wd a P r cl b l) :
    Calls Tryd.prog 16 #[.pointer (some ⟨p, 0, none⟩), .int .i64 a] w fun e w' => e = .returned (.bool ((cl : Int) == 1)) ∧ Lw w0 w' B n p A wd hv held cnt :=
  (Closed_any h.sp hc.get.1).mono fun _ _ x => ⟨x.1, h.quiet x.2⟩
theorem l_close (h : Lw w0 w B n p A wd hv held cnt) (hc : ChAt A wd a P r 0 b l) :
    Calls Tryd.prog 13 #[.pointer (some ⟨p, 0, none⟩), .int .i64 a] w fun e w' => e = .returned (.bool true) ∧ ∃ wd', ChAt A wd' a P r 1 b l ∧ Olds (· = a) A wd A wd' ∧ Lw w0 w' B n p A wd' hv held cnt := by
  refine (Close_yes h.sp hc).mono ?_
  rintro e w' ⟨rfl, ht, hs⟩
  exact ⟨rfl, _, hc.close, hc.close_olds h.sp.inv, h.step hs ht⟩
theorem l_close_no (h : Lw w0 w B n p A wd hv held cnt) (hc : ChAt A wd a P r 1 b l) :
    Calls Tryd.prog 13 #[.pointer (some ⟨p, 0, none⟩), .int .i64 a] w fun e w' => e = .returned (.bool false) ∧ Lw w0 w' B n p A wd hv held cnt :=
  (Close_no h.sp hc).mono fun _ _ x => ⟨x.1, h.quiet x.2⟩
theorem l_items (h : Lw w0 w B n p A wd hv held cnt) (hc : ChAt A wd a P r cl b l) :
    Calls Tryd.prog 15 #[.pointer (some ⟨p, 0, none⟩), .int .i64 a] w fun e w' => ∃ M, e = .returned (.slice (some ⟨M, 0, none⟩) l.length l.length) ∧ w.heap.size ≤ M ∧ M < w'.heap.size ∧ Row w' M l.length (fun j => .int .i64 (l.getD j 0)) ∧ Lw w0 w' B n p A wd hv held cnt ∧ Fr (fun _ => False) w w' := by
  refine (Items_ch h.sp hc).mono ?_
  rintro e w' ⟨M, rfl, h1, h2, h3, h4⟩
  exact ⟨M, rfl, h1, h2, h3, h.quiet h4, h4⟩
set_option maxRecDepth 100000 in
set_option maxHeartbeats 4000000 in
theorem anchor_any (w : World) (hV : Vars w) : Calls Tryd.prog 8 #[] w fun e w' => e = .returned (.bool true) ∧ Fr (fun _ => False) w w' ∧ Vars w' := by
  have HN := hide (SNew_any 1024 w (by omega) (by omega) hV)
  clear hV
  go_enter Tryd.func8, Tryd.ntmps8
  go_wp2_with fail
  refine (unhide HN).mono ?_
  rintro e w1 ⟨B, p, rfl, hL⟩
  have HC := hide (l_new hL (by omega) 2 (by omega) false ((Suf.start 16).place (d := 1) (by omega) (by omega) (by omega)))
  clear hL HN
  go_wp2_with fail
  refine (unhide HC).mono ?_
  rintro e w2 ⟨a, A2, wd2, rfl, hn2, hL2⟩
  have HP := hide (l_push hL2 hn2.ch (by simp) 5)
  clear hn2 hL2 HC
  go_wp2_with fail
  refine (unhide HP).mono ?_
  rintro e w3 ⟨rfl, wd3, hc3, _, hL3⟩
  have HP := hide (l_push hL3 hc3 (by simp) 6)
  clear hc3 hL3
  go_wp2_with fail
  refine (unhide HP).mono ?_
  rintro e w4 ⟨rfl, wd4, hc4, _, hL4⟩
  have HP := hide (l_push_no hL4 hc4 (by simp) 7)
  have HC4 := hide hc4
  clear hc4 hL4
  go_wp2_with fail
  refine (unhide HP).mono ?_
  rintro e w5 ⟨rfl, hL5⟩
  have HS := hide (l_shift hL5 (x := 5) (l := [6]) (unhide HC4))
  clear hL5 HC4
  go_wp2_with fail
  refine (unhide HS).mono ?_
  rintro e w6 ⟨rfl, wd6, hc6, _, hL6⟩
  have HP := hide (l_push hL6 hc6 (by simp) 7)
  clear hc6 hL6 HS
  go_wp2_with fail
  refine (unhide HP).mono ?_
  rintro e w7 ⟨rfl, wd7, hc7, _, hL7⟩
  have HI := hide (l_items hL7 hc7)
  clear hc7 hL7 HP
  go_wp2_with fail
  refine (unhide HI).mono ?_
  rintro e w8 ⟨M, rfl, _, _, _, hL8, _⟩
  have HE := hide (And.intro hL8.far hL8.sp.vars)
  clear hL8 HI
  go_wp2
  go_ret
  exact ⟨rfl, unhide HE⟩
end Go.Proofs.YtogjblikljggbaaDoor
