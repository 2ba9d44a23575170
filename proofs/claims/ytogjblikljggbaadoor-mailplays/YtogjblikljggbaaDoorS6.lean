/- New; a law's space; the document's example. -/
import Derived.Test.YtogjblikljggbaaDoorS5
namespace Go.Proofs.YtogjblikljggbaaDoor
open Go.RowKit Go.Proofs.YtogjblikljggbaaDoor.Hp
variable {w0 w w' : World} {B : HB} {n p : Nat} {A : Nat → Kd} {wd : Nat → Int} {hv : Value} {held : List Int} {cnt : Nat}
/-- A space of a law's own. -/
structure Lw (w0 w : World) (B : HB) (n p : Nat) (A : Nat → Kd) (wd : Nat → Int) (hv : Value) (held : List Int) (cnt : Nat) : Prop where
  sp : Sp w B n p A wd hv held cnt
  far : Fr (fun _ => False) w0 w
  base : ∀ k, SpK B p hv k → w0.heap.size ≤ k
theorem Lw.quiet (h : Lw w0 w B n p A wd hv held cnt) (k : Fr (fun _ => False) w w') : Lw w0 w' B n p A wd hv held cnt := ⟨h.sp.quiet k, h.far.trans k, h.base⟩
theorem Lw.to {A' : Nat → Kd} {wd' : Nat → Int} {held' : List Int} {cnt' : Nat} {hv' : Value} (h : Lw w0 w B n p A wd hv held cnt) (hs : Sp w' B n p A' wd' hv' held' cnt') (k : Fr (SpK B p hv) w w') (hg : ∀ g, hv'.ownBlock = some g → hv.ownBlock = some g ∨ w.heap.size ≤ g) : Lw w0 w' B n p A' wd' hv' held' cnt' :=
  ⟨hs, h.far.up k h.base, fun j hj => by
    rcases hj with hj | hj | hj
    · exact h.base j (.inl hj)
    · exact h.base j (.inr (.inl hj))
    · rcases hg j hj with e | e
      · exact h.base j (.inr (.inr e))
      · exact Nat.le_trans h.far.size e⟩
theorem Lw.heap {A' : Nat → Kd} {wd' : Nat → Int} {held' : List Int} {cnt' : Nat} (h : Lw w0 w B n p A wd hv held cnt) (hs : Sp w' B n p A' wd' hv held' cnt') (k : Fr (SpK B p hv) w w') : Lw w0 w' B n p A' wd' hv held' cnt' := h.to hs k fun _ e => .inl e
def NewS (x : Nat) (w : World) (e : Ending) (w' : World) : Prop := ∃ B p, e = .returned (.pointer (some ⟨p, 0, none⟩)) ∧ Lw w w' B (x / 64) p (emptyA (x / 64)) (fun _ => 0) (.slice none 0 0) [] 0
theorem Row.lit4 (w : World) (B : HB) (e : Nat) : Row (w.alloc (.cells #[.nilFunc, .pointer (some ⟨B.p, 0, none⟩), .slice none 0 0, .int .i64 0] e)) w.heap.size 4 (spCell B (.slice none 0 0) 0) := by
  intro i hi
  refine ⟨?_, World.frozen?_alloc_at _ _ _ _ rfl⟩
  rw [World.cell?_alloc_at _ _ _ _ rfl]
  rcases (show i = 0 ∨ i = 1 ∨ i = 2 ∨ i = 3 by omega) with rfl | rfl | rfl | rfl <;> rfl
set_option maxRecDepth 100000 in
set_option maxHeartbeats 2000000 in
theorem SNew_any (x : Nat) (w : World) (h1 : 128 ≤ x) (h2 : x ≤ 65536) (hV : Vars w) : Calls Tryd.prog 9 #[.int .i64 x] w fun e w' => NewS x w e w' := by
  have HN := hide (New_any x w h1 (by omega))
  have hsz := hV.size
  have HP : Hid (∀ (B : HB) w1, (∀ k, B.mem k → w.heap.size ≤ k) → Fr (fun _ => False) w w1 → At w1 B (x / 64) (hrOf (emptyA (x / 64)) (fun _ => 0)) → NewS x w (.returned (.pointer (some ⟨w1.heap.size, 0, none⟩))) (w1.alloc (.cells #[.nilFunc, .pointer (some ⟨B.p, 0, none⟩), .slice none 0 0, .int .i64 0] 53))) := hide fun B w1 hB hF hA => by
    have hF2 : Fr (fun _ => False) w1 (w1.alloc (.cells #[.nilFunc, .pointer (some ⟨B.p, 0, none⟩), .slice none 0 0, .int .i64 0] 53)) := (Fr.refl _ w1).alloc _
    have hz := hF.size
    refine ⟨B, w1.heap.size, rfl, ⟨hA.quiet hF2, emptyA_inv _, (hV.fr hF id id).fr hF2 id id, fun k hk => by have := hB k hk; omega, by omega, Row.lit4 _ _ _, fun hm => by have := hA.lt hm; omega, by omega, World.ownsRow_nil _ _ _ _, fun g hg => by simp [Value.ownBlock] at hg, by simp, by simp, by omega, fun y hy => ?_⟩, hF.trans hF2, fun k hk => ?_⟩
    · exact absurd (show roomN (emptyA (x / 64)) y = 0 by unfold roomN emptyA; split <;> rfl) hy
    · rcases hk with hk | hk | hk
      · exact hB k hk
      · omega
      · simp [Value.ownBlock] at hk
  clear hV
  go_enter Tryd.func9, Tryd.ntmps9
  go_wp2_with (first | (go_at_call 23; refine (unhide HN).mono ?_; rintro e w1 ⟨B, rfl, hB, hF, hA⟩; have HW := hide (unhide HP _ _ hB hF hA); unfold HB.ptr; clear hB hF hA))
  go_ret
  exact unhide HW
theorem Make_to (h : Sp w B n p A wd hv held cnt) (hc : cnt < 100000) {k s m : Int} (hR : Right k s m) {a : Nat} {A' : Nat → Kd} (g : Goes n A (1 + s.toNat) a A') :
    Calls Tryd.prog 19 #[.pointer (some ⟨p, 0, none⟩), .int .i64 k, .int .i64 s, .int .i64 m] w fun e w' => e = .returned (.tuple #[.int .i64 (a : Int), .bool true]) ∧ Sp w' B n p A' (newW wd a (1 + s.toNat) (hdr k s m)) hv held cnt ∧ Fr (SpK B p hv) w w' := by
  refine (Make_any h hc k s m).mono ?_
  rintro e w' ⟨v, A1, wd1, cnt1, hm, rfl, hs, hF⟩
  cases hm with
  | no hr => exact absurd hR hr
  | at_ hr a1 A2 g1 =>
    obtain ⟨rfl, rfl⟩ := g.det g1
    exact ⟨rfl, hs, hF⟩
  | gc hr hn => exact absurd hn g.not
  | full hr hn => exact absurd hn g.not
theorem no_reach {R : Int → Bool} {K : Int → List Int} (x : Int) : ¬ Reach R K [] x := by
  intro h
  induction h with
  | root x hx _ => simp at hx
  | kid _ _ _ _ _ ih => exact ih
/-- Where nothing is held nothing stays. -/
theorem Gc.none {rb : Nat → Bool} {A1 : Nat → Kd} (h : Gc n A wd [] rb A1) : A1 = emptyA n :=
  empty_of h.inv fun x => by
    rw [h.room x, if_neg]
    intro e
    exact no_reach _ ((h.rch x).1 e)
end Go.Proofs.YtogjblikljggbaaDoor
