/- New; a law's space; the document's example. -/
import Derived.Test.YtjblmincldaklaaDoorS5
namespace Go.Proofs.YtjblmincldaklaaDoor
open Go.RowKit Go.Proofs.YtjblmincldaklaaDoor.Hp
variable {w0 w w' : World} {B : HB} {n p : Nat} {A : Nat → Kd} {wd : Nat → Int} {hv : Value} {held : List Int} {cnt : Nat}
/-- A space of a law's own. -/
structure Lw (w0 w : World) (B : HB) (n p : Nat) (A : Nat → Kd) (wd : Nat → Int) (hv : Value) (held : List Int) (cnt : Nat) : Prop where
  sp : Sp w B n p A wd hv held cnt
  far : Fr (fun _ => False) w0 w
  base : ∀ k, SpK B p hv k → w0.heap.size ≤ k
theorem Lw.quiet (h : Lw w0 w B n p A wd hv held cnt) (k : Fr (fun _ => False) w w') : Lw w0 w' B n p A wd hv held cnt := ⟨h.sp.quiet k, h.far.trans k, h.base⟩
theorem Lw.to {A' : Nat → Kd} {wd' : Nat → Int} {held' : List Int} {cnt' : Nat} {hv' : Value} (h : Lw w0 w B n p A wd hv held cnt) (hs : Sp w' B n p A' wd' hv' held' cnt') (k : Fr (SpK B p hv) w w') (hg : ∀ g, hv'.ownBlock = some g → hv.ownBlock = some g ∨ w.heap.size ≤ g) : Lw w0 w' B n p A' wd' hv' held' cnt' :=
  ⟨hs, h.far.up k h.base, fun j hj => by
    rcases hj with hj | hj | hj
    · exact h.base j (.inl hj)
    · exact h.base j (.inr (.inl hj))
    · rcases hg j hj with e | e
      · exact h.base j (.inr (.inr e))
      · exact Nat.le_trans h.far.size e⟩
theorem Lw.heap {A' : Nat → Kd} {wd' : Nat → Int} {held' : List Int} {cnt' : Nat} (h : Lw w0 w B n p A wd hv held cnt) (hs : Sp w' B n p A' wd' hv held' cnt') (k : Fr (SpK B p hv) w w') : Lw w0 w' B n p A' wd' hv held' cnt' := h.to hs k fun _ e => .inl e
def NewS (x : Nat) (w : World) (e : Ending) (w' : World) : Prop := ∃ B p, e = .returned (.pointer (some ⟨p, 0, none⟩)) ∧ Lw w w' B (x / 64) p (emptyA (x / 64)) (fun _ => 0) (.slice none 0 0) [] 0
theorem Row.lit4 (w : World) (B : HB) (e : Nat) : Row (w.alloc (.cells #[.nilFunc, .pointer (some ⟨B.p, 0, none⟩), .slice none 0 0, .int .i64 0] e)) w.heap.size 4 (spCell B (.slice none 0 0) 0) := by
  intro i hi
  refine ⟨?_, World.frozen?_alloc_at _ _ _ _ rfl⟩
  rw [World.cell?_alloc_at _ _ _ _ rfl]
  rcases (show i = 0 ∨ i = 1 ∨ i = 2 ∨ i = 3 by omega) with rfl | rfl | rfl | rfl <;> rfl
set_option maxRecDepth 100000 in
set_option maxHeartbeats 2000000 in
theorem SNew_any (x : Nat) (w : World) (h1 : 128 ≤ x) (h2 : x ≤ 32768) (hV : Vars w) : Calls Tryd.prog 8 #[.int .i64 x] w fun e w' => NewS x w e w' := by
  have HN := hide (New_any x w h1 (by omega))
  have hsz := hV.size
  have HP : Hid (∀ (B : HB) w1, (∀ k, B.mem k → w.heap.size ≤ k) → Fr (fun _ => False) w w1 → At w1 B (x / 64) (hrOf (emptyA (x / 64)) (fun _ => 0)) → NewS x w (.returned (.pointer (some ⟨w1.heap.size, 0, none⟩))) (w1.alloc (.cells #[.nilFunc, .pointer (some ⟨B.p, 0, none⟩), .slice none 0 0, .int .i64 0] 56))) := hide fun B w1 hB hF hA => by
    have hF2 : Fr (fun _ => False) w1 (w1.alloc (.cells #[.nilFunc, .pointer (some ⟨B.p, 0, none⟩), .slice none 0 0, .int .i64 0] 56)) := (Fr.refl _ w1).alloc _
    have hz := hF.size
    refine ⟨B, w1.heap.size, rfl, ⟨hA.quiet hF2, emptyA_inv _, (hV.fr hF id id).fr hF2 id id, fun k hk => by have := hB k hk; omega, by omega, Row.lit4 _ _ _, fun hm => by have := hA.lt hm; omega, by omega, World.ownsRow_nil _ _ _ _, fun g hg => by simp [Value.ownBlock] at hg, by simp, by simp, by omega, fun y hy => ?_⟩, hF.trans hF2, fun k hk => ?_⟩
    · exact absurd (show roomN (emptyA (x / 64)) y = 0 by unfold roomN emptyA; split <;> rfl) hy
    · rcases hk with hk | hk | hk
      · exact hB k hk
      · omega
      · simp [Value.ownBlock] at hk
  clear hV
  go_enter Tryd.func8, Tryd.ntmps8
  go_wp2_with (first | (go_at_call 20; refine (unhide HN).mono ?_; rintro e w1 ⟨B, rfl, hB, hF, hA⟩; have HW := hide (unhide HP _ _ hB hF hA); unfold HB.ptr; clear hB hF hA))
  go_ret
  exact unhide HW
theorem Make_to (h : Sp w B n p A wd hv held cnt) (hc : cnt < 100000) {k s m : Int} (hR : Right k s m) {a : Nat} {A' : Nat → Kd} (g : Goes n A (1 + s.toNat) a A') :
    Calls Tryd.prog 12 #[.pointer (some ⟨p, 0, none⟩), .int .i64 k, .int .i64 s, .int .i64 m] w fun e w' => e = .returned (.tuple #[.int .i64 (a : Int), .bool true]) ∧ Sp w' B n p A' (newW wd a (1 + s.toNat) (hdr k s m)) hv held cnt ∧ Fr (SpK B p hv) w w' := by
  refine (Make_any h hc k s m).mono ?_
  rintro e w' ⟨v, A1, wd1, cnt1, hm, rfl, hs, hF⟩
  cases hm with
  | no hr => exact absurd hR hr
  | at_ hr a1 A2 g1 =>
    obtain ⟨rfl, rfl⟩ := g.det g1
    exact ⟨rfl, hs, hF⟩
  | gc hr hn => exact absurd hn g.not
  | full hr hn => exact absurd hn g.not
theorem no_reach {R : Int → Bool} {K : Int → List Int} (x : Int) : ¬ Reach R K [] x := by
  intro h
  induction h with
  | root x hx _ => simp at hx
  | kid _ _ _ _ _ ih => exact ih
/-- Where nothing is held nothing stays. -/
theorem Gc.none {rb : Nat → Bool} {A1 : Nat → Kd} (h : Gc n A wd [] rb A1) : A1 = emptyA n :=
  empty_of h.inv fun x => by
    rw [h.room x, if_neg]
    intro e
    exact no_reach _ ((h.rch x).1 e)
theorem an_full : NoPlace 2 (fillA 2 2 8) 8 := by
  refine .inl ⟨by decide, fun t => ?_, fun t => ?_⟩
  · by_cases h : t = 1
    · subst h; decide
    · unfold fillA; rw [if_neg (by omega)]; rfl
  · by_cases h : t = 1
    · subst h; unfold fillA; simp [takenQ]
    · unfold fillA; rw [if_neg (by omega)]; simp
theorem an_len : (blkL (fillA 2 2 1) 2).length = 1 := by decide +kernel
set_option maxRecDepth 100000 in
set_option maxHeartbeats 4000000 in
theorem anchor_any (w : World) (hV : Vars w) : Calls Tryd.prog 7 #[] w fun e w' => e = .returned (.bool true) ∧ Fr (fun _ => False) w w' ∧ Vars w' := by
  have HN := hide (SNew_any 128 w (by omega) (by omega) hV)
  clear hV
  go_enter Tryd.func7, Tryd.ntmps7
  go_wp2_with (first | (go_at_call 8; refine (unhide HN).mono ?_; rintro e w1 ⟨B, p, rfl, hL⟩; have HL := hide hL; clear hL))
  go_loopw [2] (fun i wr => ∃ k : Nat, k ≤ 8 ∧ i = .int .i64 k ∧ ∃ wd, Hid (Lw w wr B 2 p (fillA 2 2 k) wd (.slice none 0 0) [] 0)) (fun i _ => 8 - (intOf i).toNat)
  case atStart => exact ⟨0, by omega, rfl, fun _ => 0, hide (by rw [fill_empty]; exact unhide HL)⟩
  case round =>
    obtain ⟨k, hk, rfl, wd, hL⟩ := hrel
    by_cases hlt : k < 8
    · have HM := hide (Make_to (unhide hL).sp (by omega) (k := 1) (s := 7) (m := 0) (by decide) (fill_goes (n := 2) (m := 8) (k := k) (by decide) (by rw [show 2 ^ (5 - clOf 8) * (2 - 1) = 8 by decide]; exact hlt)))
      go_wp2_with (first | (go_at_call 12; refine (unhide HM).mono ?_; rintro e w2 ⟨rfl, hs, hF⟩; have HL2 := hide ((unhide hL).heap hs hF); clear hs hF))
      go_roundw
      case rel => exact ⟨k + 1, by omega, by go_num, _, HL2⟩
      case measure => simp [intOf]; omega
    · obtain rfl : k = 8 := by omega
      have HM : Hid (Calls Tryd.prog 12 #[.pointer (some ⟨p, 0, none⟩), .int .i64 1, .int .i64 7, .int .i64 0] wr fun e w' => ∃ a : Nat, e = .returned (.tuple #[.int .i64 (a : Int), .bool true]) ∧ ∃ wd, Lw w w' B 2 p (fillA 2 2 1) wd (.slice none 0 0) [] 1) := hide (by
        refine (Make_any (unhide hL).sp (by omega) 1 7 0).mono ?_
        rintro e w' ⟨v, A1, wd1, cnt1, hm, rfl, hs, hF⟩
        have he : emptyA 2 = fillA 2 2 0 := (fill_empty 2 2).symm
        have g0 := fill_goes (n := 2) (m := 8) (k := 0) (by decide) (by decide)
        cases hm with
        | no hr => exact absurd (by decide) hr
        | at_ hr a1 A2 g1 => exact absurd an_full g1.not
        | gc hr hn rb A2 hg a A3 g =>
          rw [hg.none, he] at g
          obtain ⟨rfl, rfl⟩ := g.det g0
          exact ⟨_, rfl, _, (unhide hL).heap hs hF⟩
        | full hr hn rb A2 hg g =>
          rw [hg.none, he] at g
          exact absurd g g0.not)
      go_wp2_with (first | (go_at_call 12; refine (unhide HM).mono ?_; rintro e w2 ⟨a, rfl, wd2, hL2⟩; have HL2 := hide hL2; have hT := Told_any hL2.sp; rw [an_len] at hT; have HT := hide hT; clear hL2 hT) | (go_at_call 18; refine (unhide HT).mono ?_; rintro e w3 ⟨rfl, hF3⟩; have HL3 := hide ((unhide HL2).quiet hF3); clear hF3))
      go_ret
      exact ⟨rfl, (unhide HL3).far, (unhide HL3).sp.vars⟩
end Go.Proofs.YtjblmincldaklaaDoor
