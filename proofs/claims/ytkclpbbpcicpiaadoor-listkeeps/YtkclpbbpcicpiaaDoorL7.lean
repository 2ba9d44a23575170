/- Append where there is room; the free spans. -/
import Derived.Test.YtkclpbbpcicpiaaDoorL6
namespace Go.Proofs.YtkclpbbpcicpiaaDoor
open Go.RowKit Go.Proofs.YtkclpbbpcicpiaaDoor.Hp
variable {w0 w w' w1 w2 : World} {B : HB} {n p m d q : Nat} {A A' A1 A2 : Nat → Kd} {wd wd' wd1 wd2 : Nat → Int} {hv hv1 hv2 : Value} {held : List Int} {cnt cnt' : Nat} {a b lo N c k : Nat} {f : Nat → Int} {z : Int}
set_option maxRecDepth 100000 in
set_option maxHeartbeats 4000000 in
theorem Append_ext (h : Sp w B n p A wd hv held cnt) (hc : cnt < 90000) (hl : held.length < 900) (hs : SlOf A wd z b lo N c) {C : Nat} (ha : ArAt A wd b k C f) (hb : b < 100000) (ao : Option Addr) (len cp : Nat) (zs : List Int) (hlen : zs.length = len) (h0 : 0 < len) (hit : ItAt w B p hv ao zs) (hN : N + len ≤ c) (hC : lo + c ≤ C) (hp : ¬ NoPlace n A 5) (r : Bool) :
    Calls Tryd.prog 12 #[.pointer (some ⟨p, 0, none⟩), .int .i64 z, .slice ao len cp, .bool r] w fun e w' => ExP w B n p A wd hv held cnt b lo (N + len) c k C (behF f (lo + N) zs) e w' := by
  have HO := hide (open_to h hs)
  have HB : Hid (∀ W, Fr (fun _ => False) w W → Calls Tryd.prog 29 #[.pointer (some ⟨p, 0, none⟩), .agg #[.int .i64 b, .int .i64 lo, .int .i64 N, .int .i64 c], .slice ao len cp] W fun e w' => ExP w B n p A wd hv held cnt b lo (N + len) c k C (behF f (lo + N) zs) e w') := hide fun W hF => by
    refine (extend_to (h.quiet hF) hc hl ha hb ao len cp zs hlen (hit.to (To.quiet hF)) hN hC hp).mono ?_
    rintro e w' ⟨a, A2, wd2, hv', rfl, ho, hs, ht⟩
    exact ⟨a, A2, wd2, hv', rfl, ho, hs, (To.quiet hF).trans ht⟩
  have hle := ha.le
  have h1 : ¬ (len : Int) = 0 := by omega
  have h2 : ¬ (16384 : Int) - len < N := by omega
  have h3 : (N : Int) + len ≤ c := by omega
  have h4 : (c : Int) ≤ 16384 := by omega
  clear h hs ha hlen hit hp
  go_enter Tryd.func12, Tryd.ntmps12
  go_wp2_with fail
  refine (unhide HO).mono ?_
  rintro e w1 ⟨rfl, hF1⟩
  have HF1 := hide (hF1.alloc (slO b lo N c))
  clear hF1 HO
  go_wp2_with fail
  refine (unhide HB _ (unhide HF1)).mono ?_
  rintro e w2 ⟨x, A2, wd2, hv', rfl, hE⟩
  have HE := hide hE
  clear hE
  go_wp2
  go_ret2
  exact ⟨x, A2, wd2, hv', rfl, unhide HE⟩
set_option maxRecDepth 100000 in
set_option maxHeartbeats 4000000 in
theorem Append_gro (h : Sp w B n p A wd hv held cnt) (hc : cnt < 90000) (hl : held.length < 900) (hs : SlOf A wd z b lo N c) {C : Nat} (ha : 0 < N → ArAt A wd b k C f ∧ lo + N ≤ C) (ao : Option Addr) (len cp : Nat) (zs : List Int) (hlen : zs.length = len) (h0 : 0 < len) (hit : ItAt w B p hv ao zs) (hN : c < N + len) (ht : N + len ≤ 16384) (h2c : 2 * c ≤ 16384) (hlo : lo ≤ 16384) (r : Bool) (hp : Roomy n A (capG c (N + len))) :
    Calls Tryd.prog 12 #[.pointer (some ⟨p, 0, none⟩), .int .i64 z, .slice ao len cp, .bool r] w fun e w' => FtP w B n p A wd hv held cnt (N + len) (capG c (N + len)) (kdR r) (groF f lo N zs) e w' := by
  have HO := hide (open_to h hs)
  have HB : Hid (∀ W, Fr (fun _ => False) w W → Calls Tryd.prog 30 #[.pointer (some ⟨p, 0, none⟩), .agg #[.int .i64 b, .int .i64 lo, .int .i64 N, .int .i64 c], .slice ao len cp, .bool r] W fun e w' => FtP w B n p A wd hv held cnt (N + len) (capG c (N + len)) (kdR r) (groF f lo N zs) e w') := hide fun W hF => by
    refine (grow_to (h.quiet hF) hc hl ha ao len cp zs hlen (hit.to (To.quiet hF)) ht h2c hlo r hp).mono ?_
    rintro e w' ⟨a, b2, A2, wd2, hv', rfl, ho, hs, ht⟩
    exact ⟨a, b2, A2, wd2, hv', rfl, ho, hs, (To.quiet hF).trans ht⟩
  have h1 : ¬ (len : Int) = 0 := by omega
  have h2 : ¬ (16384 : Int) - len < N := by omega
  have h3 : ¬ (N : Int) + len ≤ c := by omega
  have h4 : (N : Int) + len ≤ 16384 := by omega
  clear h hs ha hlen hit hp hN ht
  generalize capG c (N + len) = d at *
  go_enter Tryd.func12, Tryd.ntmps12
  go_wp2_with fail
  refine (unhide HO).mono ?_
  rintro e w1 ⟨rfl, hF1⟩
  have HF1 := hide (hF1.alloc (slO b lo N c))
  clear hF1 HO
  go_wp2_with fail
  refine (unhide HB _ (unhide HF1)).mono ?_
  rintro e w2 ⟨x, b2, A2, wd2, hv', rfl, hE⟩
  have HE := hide hE
  clear hE
  go_wp2
  go_ret2
  exact ⟨x, b2, A2, wd2, hv', rfl, unhide HE⟩
/-- The free spans are the last ones. -/
def Suf (n : Nat) (A : Nat → Kd) (c : Nat) : Prop := ∃ h, 1 ≤ h ∧ h ≤ 1 + c ∧ ∀ t, A t = .free ↔ h ≤ t ∧ t < n
theorem Suf.start (n : Nat) : Suf n (emptyA n) 0 := by
  refine ⟨1, by omega, by omega, fun t => ?_⟩
  unfold emptyA
  split
  · simp; omega
  · simp; omega
theorem Suf.place (h : Suf n A c) (hm : (m + 63) / 64 ≤ d) (hd : 1 ≤ d) (hn : 1 + c + d ≤ n) : ¬ NoPlace n A m := by
  obtain ⟨q, h1, h2, h3⟩ := h
  rintro (⟨_, _, k3⟩ | ⟨k1, k2⟩)
  · exact k3 q ((h3 q).2 (by omega))
  · obtain ⟨t, k3, k4, k5⟩ := k2 q (by omega)
    exact k5 ((h3 t).2 (by omega))
theorem Suf.goes (h : Suf n A c) (g : Goes n A m a A') (hmd : (m + 63) / 64 ≤ d) (hd : 1 ≤ d) : Suf n A' (c + d) := by
  obtain ⟨h, h0, h00, hf⟩ := h
  cases g with
  | op s u hm hs e hn hl =>
    refine ⟨h, by omega, by omega, fun t => ?_⟩
    by_cases et : t = s
    · subst et
      have := hf t
      rw [e] at this
      rw [upd_same]
      simp at this ⊢
      exact this
    · rw [upd_ne _ _ et]; exact hf t
  | free s hm hs e hl hn =>
    have h1 := (hf s).1 e
    have h2 : s = h := by
      by_cases hh : s = h
      · exact hh
      · exact absurd ((hf h).2 (by omega)) (hl h (by omega))
    subst h2
    refine ⟨s + 1, by omega, by omega, fun t => ?_⟩
    by_cases et : t = s
    · subst et
      rw [upd_same]
      simp; omega
    · rw [upd_ne _ _ et, hf t]; omega
  | row f k hm hk hfn e hl =>
    have h1 := (hf f).1 (e f (by omega) (by omega))
    have h2 : f = h := by
      by_cases hh : f = h
      · exact hh
      · obtain ⟨t, k1, k2, k3⟩ := hl h (by omega)
        exact absurd ((hf t).2 (by omega)) k3
    subst h2
    refine ⟨f + k, by omega, by omega, fun t => ?_⟩
    show (if t = f then Kd.head k else if f < t ∧ t < f + k then Kd.tail else A t) = .free ↔ _
    by_cases e1 : t = f
    · rw [if_pos e1]; simp; omega
    · rw [if_neg e1]
      by_cases e2 : f < t ∧ t < f + k
      · rw [if_pos e2]; simp; omega
      · rw [if_neg e2, hf t]; omega
theorem Suf.roomy (h : Suf n A q) {x : Nat} (hx : (1 + x + 63) / 64 ≤ d) (hd : 1 ≤ d) (hn : 1 + q + d + 1 ≤ n) : Roomy n A x :=
  ⟨h.place hx hd (by omega), fun _ _ g => (h.goes g hx hd).place (d := 1) (by omega) (by omega) (by omega)⟩
theorem Two.suf (h : Two n A wd A2 wd2 a b k N c f) (hs : Suf n A q) (hx : (1 + c + 63) / 64 ≤ d) (hd : 1 ≤ d) : Suf n A2 (q + d + 1) := by
  obtain ⟨A1, g1, g2⟩ := h.go
  exact (hs.goes g1 hx hd).goes g2 (by omega) (by omega)
/-- Items that a composite has just made. -/
theorem it_one (h : Sp w B n p A wd hv held cnt) (x : Int) (t : TypeId) : ItAt (w.alloc (.cells #[.int .i64 x] t)) B p hv (some ⟨w.heap.size, 0, none⟩) [x] := by
  refine ⟨w.heap.size, 0, rfl, by simp, fun k => by have := (h.lt k).2; omega, fun j hj => ?_⟩
  obtain rfl : j = 0 := by simpa using hj
  rw [World.cell?_alloc_at _ _ _ _ rfl]; rfl
theorem it_two (h : Sp w B n p A wd hv held cnt) (x y : Int) (t : TypeId) : ItAt (w.alloc (.cells #[.int .i64 x, .int .i64 y] t)) B p hv (some ⟨w.heap.size, 0, none⟩) [x, y] := by
  refine ⟨w.heap.size, 0, rfl, by simp, fun k => by have := (h.lt k).2; omega, fun j hj => ?_⟩
  have hj2 : j < 2 := by simpa using hj
  rcases (show j = 0 ∨ j = 1 by omega) with rfl | rfl
  · rw [World.cell?_alloc_at _ _ _ _ rfl]; rfl
  · rw [World.cell?_alloc_at _ _ _ _ rfl]; rfl
theorem Sp.b_lt (h : Sp w B n p A wd hv held cnt) {x : Nat} (hx : roomN A x ≠ 0) : x < 100000 := by
  have := (room_in h.inv hx).2.1
  have := h.hi
  omega
end Go.Proofs.YtkclpbbpcicpiaaDoor
