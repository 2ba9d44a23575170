/- A space in memory; what leaves it as it was; Head, has, Get, Set. -/
import Derived.Test.YtogjblikljggbaaDoorMk4
import Derived.OwnWalk
namespace Go.Proofs.YtogjblikljggbaaDoor
open Go.RowKit Go.Proofs.YtogjblikljggbaaDoor.Hp
def spCell (B : HB) (hv : Value) (cnt : Nat) (i : Nat) : Value := if i = 0 then .nilFunc else if i = 1 then B.ptr else if i = 2 then hv else .int .i64 cnt
structure Sp (w : World) (B : HB) (n p : Nat) (A : Nat → Kd) (wd : Nat → Int) (hv : Value) (held : List Int) (cnt : Nat) : Prop where
  at_ : At w B n (hrOf A wd)
  inv : Inv n A
  vars : Vars w
  lo : ∀ k, B.mem k → 2 ≤ k
  hi : n ≤ 1024
  st : Row w p 4 (spCell B hv cnt)
  pm : ¬ B.mem p
  p2 : 2 ≤ p
  own : w.ownsRow 2 3 1 hv held.length (held.map (Value.int .i64))
  on : ∀ g, hv.ownBlock = some g → ¬ B.mem g ∧ g ≠ p
  hl : held.length ≤ 900
  hr : ∀ z ∈ held, -9223372036854775808 ≤ z ∧ z < 9223372036854775808
  cn : cnt ≤ 100000
  hd : ∀ x, roomN A x ≠ 0 → IsH (wd x) ∧ hS (wd x) < roomN A x
/-- The space's blocks. -/
def SpK (B : HB) (p : Nat) (hv : Value) (k : Nat) : Prop := B.mem k ∨ k = p ∨ hv.ownBlock = some k
section
variable {w w' : World} {B : HB} {n p : Nat} {A : Nat → Kd} {wd : Nat → Int} {hv : Value} {held : List Int} {cnt : Nat}
theorem Sp.lt (h : Sp w B n p A wd hv held cnt) {k : Nat} (hk : SpK B p hv k) : 2 ≤ k ∧ k < w.heap.size := by
  rcases hk with hk | rfl | hk
  · exact ⟨h.lo k hk, h.at_.lt hk⟩
  · exact ⟨h.p2, h.st.lt (by omega)⟩
  · exact h.own.lt k hk
theorem Sp.fr' {K : Nat → Prop} (h : Sp w B n p A wd hv held cnt) (k : Fr K w w') (hk : ∀ b, SpK B p hv b → ¬ K b) (h0 : ¬ K 0) (h1 : ¬ K 1) : Sp w' B n p A wd hv held cnt :=
  ⟨h.at_.fr' k (fun b hb => hk b (.inl hb)), h.inv, h.vars.fr k h0 h1, h.lo, h.hi, h.st.fr k (hk p (.inr (.inl rfl))), h.pm, h.p2, own_blk h.own (fun g hg => k.block g (h.own.lt g hg).2 (hk g (.inr (.inr hg)))), h.on, h.hl, h.hr, h.cn, h.hd⟩
theorem Sp.quiet (h : Sp w B n p A wd hv held cnt) (k : Fr (fun _ => False) w w') : Sp w' B n p A wd hv held cnt := h.fr' k (fun _ _ x => x) id id
theorem Sp.c0 (h : Sp w B n p A wd hv held cnt) : w.cell? ⟨p, 0, none⟩ = some .nilFunc := (h.st 0 (by omega)).1
theorem Sp.c1 (h : Sp w B n p A wd hv held cnt) : w.cell? ⟨p, 1, none⟩ = some (.pointer (some ⟨B.p, 0, none⟩)) := (h.st 1 (by omega)).1
theorem Sp.c2 (h : Sp w B n p A wd hv held cnt) : w.cell? ⟨p, 2, none⟩ = some hv := (h.st 2 (by omega)).1
theorem Sp.c3 (h : Sp w B n p A wd hv held cnt) : w.cell? ⟨p, 3, none⟩ = some (.int .i64 cnt) := (h.st 3 (by omega)).1
/-- Another heap, over the same blocks. -/
theorem Sp.heap {A' : Nat → Kd} {wd' : Nat → Int} (h : Sp w B n p A wd hv held cnt) (k : Fr B.mem w w') (ha : At w' B n (hrOf A' wd')) (hi : Inv n A') (hd : ∀ x, roomN A' x ≠ 0 → IsH (wd' x) ∧ hS (wd' x) < roomN A' x) : Sp w' B n p A' wd' hv held cnt :=
  ⟨ha, hi, h.vars.fr k (fun x => by have := h.lo 0 x; omega) (fun x => by have := h.lo 1 x; omega), h.lo, h.hi, h.st.fr k h.pm, h.pm, h.p2, own_blk h.own (fun g hg => k.block g (h.own.lt g hg).2 (h.on g hg).1), h.on, h.hl, h.hr, h.cn, hd⟩
end
/-- What Head answers. -/
def kinI (A : Nat → Kd) (wd : Nat → Int) (a : Int) : Int := if roomI A a ≠ 0 then hK (wd a.toNat) else 0
def sizI (A : Nat → Kd) (wd : Nat → Int) (a : Int) : Int := if roomI A a ≠ 0 then hS (wd a.toNat) else 0
def mskI (A : Nat → Kd) (wd : Nat → Int) (a : Int) : Int := if roomI A a ≠ 0 then hM (wd a.toNat) else 0
def hasB (A : Nat → Kd) (wd : Nat → Int) (a k : Int) : Bool := decide (0 ≤ k) && decide (k < sizI A wd a)
def getI (A : Nat → Kd) (wd : Nat → Int) (a k : Int) : Int := if hasB A wd a k = true then wd (a.toNat + (1 + k.toNat)) else 0
def putW (A : Nat → Kd) (wd : Nat → Int) (a k v : Int) : Nat → Int := if hasB A wd a k = true then upd wd (a.toNat + (1 + k.toNat)) v else wd
theorem room_nat {A : Nat → Kd} {a : Int} (h : roomI A a ≠ 0) : ∃ x : Nat, a = x ∧ roomN A x ≠ 0 := by
  unfold roomI at h
  by_cases h0 : 0 ≤ a
  · rw [if_pos h0] at h; exact ⟨a.toNat, by omega, h⟩
  · rw [if_neg h0] at h; exact absurd rfl h
theorem Load_no (B : HB) (n : Nat) (A : Nat → Kd) (wd : Nat → Int) (a k : Int) (w : World) (h : At w B n (hrOf A wd)) (hI : Inv n A) (hr : roomI A a = 0) :
    Calls Tryd.prog 29 #[B.ptr, .int .i64 a, .int .i64 k] w fun e w' => e = .returned (.tuple #[.int .i64 0, .bool false]) ∧ Fr (fun _ => False) w w' := by
  refine (Load_any B n (hrOf A wd) a k w h (fine_of wd hI) (fits_of wd hI)).mono ?_
  rintro e w' ⟨rfl, hF⟩
  have : inB n (hrOf A wd) a k = false := by
    unfold inB
    rw [roomR_I wd hI, hr]
    simp
  unfold loadV
  rw [this]
  exact ⟨rfl, hF⟩
variable {w w' : World} {B : HB} {n p : Nat} {A : Nat → Kd} {wd : Nat → Int} {hv : Value} {held : List Int} {cnt : Nat}
set_option maxHeartbeats 1000000 in
theorem Head_any (h : Sp w B n p A wd hv held cnt) (a : Int) :
    Calls Tryd.prog 39 #[.pointer (some ⟨p, 0, none⟩), .int .i64 a] w fun e w' => e = .returned (.tuple #[.int .i64 (kinI A wd a), .int .i64 (sizI A wd a), .int .i64 (mskI A wd a)]) ∧ Fr (fun _ => False) w w' := by
  have c1 := h.c1
  unfold kinI sizI mskI
  by_cases hr : roomI A a = 0
  · rw [if_neg (fun x => x hr), if_neg (fun x => x hr), if_neg (fun x => x hr)]
    have HL := hide (Load_no B n A wd a 0 w h.at_ h.inv hr)
    have HO := hide (fun w => Open_no 0 w (by decide))
    unfold HB.ptr at HL
    clear h hr
    go_enter Tryd.func39, Tryd.ntmps39
    go_wp2_with (first | (go_at_call 29; refine (unhide HL).mono ?_; rintro e w1 ⟨rfl, hF⟩; have HF := hide hF; clear hF) | (go_at_call 48; refine (unhide HO _).mono ?_; rintro e w' ⟨rfl, rfl⟩))
    go_ret3
    exact ⟨rfl, unhide HF⟩
  · rw [if_pos hr, if_pos hr, if_pos hr]
    obtain ⟨x, rfl, hx⟩ := room_nat hr
    obtain ⟨hH, hSz⟩ := h.hd x hx
    simp only [Int.toNat_natCast]
    have HL := hide (Load_in B n A wd x _ 0 w h.at_ h.inv rfl (by omega))
    have HO := hide (fun w => Open_yes (wd x) w hH)
    unfold HB.ptr at HL
    simp only [Nat.add_zero, Int.natCast_zero] at HL
    unfold hK hM hS
    clear h hr hx hH hSz
    go_enter Tryd.func39, Tryd.ntmps39
    go_wp2_with (first | (go_at_call 29; refine (unhide HL).mono ?_; rintro e w1 ⟨rfl, hF⟩; have HF := hide hF; clear hF) | (go_at_call 48; refine (unhide HO _).mono ?_; rintro e w' ⟨rfl, rfl⟩))
    go_ret3
    exact ⟨rfl, unhide HF⟩
set_option maxHeartbeats 1000000 in
theorem shas_any (h : Sp w B n p A wd hv held cnt) (a k : Int) :
    Calls Tryd.prog 28 #[.pointer (some ⟨p, 0, none⟩), .int .i64 a, .int .i64 k] w fun e w' => e = .returned (.bool (hasB A wd a k)) ∧ Fr (fun _ => False) w w' := by
  have HC := hide (Head_any h a)
  unfold hasB
  generalize sizI A wd a = z at *
  clear h
  go_enter Tryd.func28, Tryd.ntmps28
  go_wp2_with (first | (go_at_call 39; refine (unhide HC).mono ?_; rintro e w1 ⟨rfl, hF⟩; have HF := hide hF; clear hF))
  all_goals go_ret
  all_goals exact ⟨ret_bool (by simp; try omega), unhide HF⟩
theorem has_in (h : Sp w B n p A wd hv held cnt) {a k : Int} (hh : hasB A wd a k = true) : ∃ x q : Nat, a = x ∧ k = q ∧ roomN A x ≠ 0 ∧ 1 + q < roomN A x ∧ (q : Int) < hS (wd x) := by
  unfold hasB at hh
  simp at hh
  have hr : roomI A a ≠ 0 := by
    intro e
    unfold sizI at hh
    rw [if_neg (fun x => x e)] at hh
    omega
  obtain ⟨x, rfl, hx⟩ := room_nat hr
  have h2 := h.hd x hx
  unfold sizI at hh
  rw [if_pos hr] at hh
  simp only [Int.toNat_natCast] at hh
  exact ⟨x, k.toNat, rfl, by omega, hx, by omega, by omega⟩
set_option maxHeartbeats 1000000 in
theorem Get_any (h : Sp w B n p A wd hv held cnt) (a k : Int) :
    Calls Tryd.prog 17 #[.pointer (some ⟨p, 0, none⟩), .int .i64 a, .int .i64 k] w fun e w' => e = .returned (.int .i64 (getI A wd a k)) ∧ Fr (fun _ => False) w w' := by
  have HC := hide (shas_any h a k)
  have HS := hide h
  have c1 := h.c1
  unfold getI
  cases hb : hasB A wd a k with
  | false =>
    rw [hb] at HC
    rw [if_neg (by simp)]
    clear h hb
    go_enter Tryd.func17, Tryd.ntmps17
    go_wp2_with (first | (go_at_call 28; refine (unhide HC).mono ?_; rintro e w1 ⟨rfl, hF⟩; have HF := hide hF; clear hF))
    go_ret
    exact ⟨rfl, unhide HF⟩
  | true =>
    rw [hb] at HC
    rw [if_pos rfl]
    obtain ⟨x, q, rfl, rfl, hx, hq, hs⟩ := has_in h hb
    have hn := (room_in h.inv hx).2.1
    have hhi := h.hi
    simp only [Int.toNat_natCast]
    have HL : Hid (∀ w1, Fr (fun _ => False) w w1 → Calls Tryd.prog 29 #[.pointer (some ⟨B.p, 0, none⟩), .int .i64 x, .int .i64 (1 + (q : Int))] w1 fun e w' => e = .returned (.tuple #[.int .i64 (wd (x + (1 + q))), .bool true]) ∧ Fr (fun _ => False) w1 w') := hide fun w1 hF => by
      have := Load_in B n A wd x _ (1 + q) w1 ((unhide HS).quiet hF).at_ (unhide HS).inv rfl hq
      unfold HB.ptr at this
      simpa using this
    clear h hb
    go_enter Tryd.func17, Tryd.ntmps17
    go_wp2_with (first | (go_at_call 28; refine (unhide HC).mono ?_; rintro e w1 ⟨rfl, hF⟩; have HF := hide hF; have c11 := ((unhide HS).quiet hF).c1; clear hF) | (go_at_call 29; refine (unhide HL _ (unhide HF)).mono ?_; rintro e w2 ⟨rfl, hF2⟩; have HF2 := hide hF2; clear hF2))
    go_ret
    exact ⟨rfl, (unhide HF).trans (unhide HF2)⟩
/-- A word behind a header is no header. -/
theorem Sp.put (h : Sp w B n p A wd hv held cnt) (k : Fr B.mem w w') {x q : Nat} {v : Int} (ha : At w' B n (hrOf A (upd wd (x + (1 + q)) v))) (hx : roomN A x ≠ 0) (hq : 1 + q < roomN A x) : Sp w' B n p A (upd wd (x + (1 + q)) v) hv held cnt := by
  refine h.heap k ha h.inv fun y hy => ?_
  rw [upd_ne _ _ ?_]
  · exact h.hd y hy
  · intro e
    have := apart h.inv (show x < y by omega) hx hy
    omega
set_option maxHeartbeats 1000000 in
theorem Set_any (h : Sp w B n p A wd hv held cnt) (a k v : Int) :
    Calls Tryd.prog 24 #[.pointer (some ⟨p, 0, none⟩), .int .i64 a, .int .i64 k, .int .i64 v] w fun e w' => e = .returned (.bool (hasB A wd a k)) ∧ Sp w' B n p A (putW A wd a k v) hv held cnt ∧ Fr B.mem w w' := by
  have HC := hide (shas_any h a k)
  have HS := hide h
  have c1 := h.c1
  unfold putW
  cases hb : hasB A wd a k with
  | false =>
    rw [hb] at HC
    rw [if_neg (by simp)]
    clear h hb
    go_enter Tryd.func24, Tryd.ntmps24
    go_wp2_with (first | (go_at_call 28; refine (unhide HC).mono ?_; rintro e w1 ⟨rfl, hF⟩; have HF := hide hF; clear hF))
    go_ret
    exact ⟨rfl, (unhide HS).quiet (unhide HF), (unhide HF).toMem⟩
  | true =>
    rw [hb] at HC
    rw [if_pos rfl]
    obtain ⟨x, q, rfl, rfl, hx, hq, hs⟩ := has_in h hb
    have hn := (room_in h.inv hx).2.1
    have hhi := h.hi
    simp only [Int.toNat_natCast]
    have HL : Hid (∀ w1, Fr (fun _ => False) w w1 → Calls Tryd.prog 32 #[.pointer (some ⟨B.p, 0, none⟩), .int .i64 x, .int .i64 (1 + (q : Int)), .int .i64 v] w1 fun e w' => e = .returned (.bool true) ∧ Sp w' B n p A (upd wd (x + (1 + q)) v) hv held cnt ∧ Fr B.mem w1 w') := hide fun w1 hF => by
      have := Store_in B n A wd x _ (1 + q) v w1 ((unhide HS).quiet hF).at_ (unhide HS).inv rfl hq
      unfold HB.ptr at this
      simp only [Int.natCast_add, Int.natCast_one] at this
      refine this.mono ?_
      rintro e w' ⟨rfl, h1, h2⟩
      exact ⟨rfl, ((unhide HS).quiet hF).put h1 h2 hx hq, h1⟩
    clear h hb
    go_enter Tryd.func24, Tryd.ntmps24
    go_wp2_with (first | (go_at_call 28; refine (unhide HC).mono ?_; rintro e w1 ⟨rfl, hF⟩; have HF := hide hF; have c11 := ((unhide HS).quiet hF).c1; clear hF) | (go_at_call 32; refine (unhide HL _ (unhide HF)).mono ?_; rintro e w2 ⟨rfl, hS2, hF2⟩; have HS2 := hide hS2; have HF2 := hide hF2; clear hF2 hS2))
    go_ret
    exact ⟨rfl, unhide HS2, (unhide HF).toMem.trans (unhide HF2)⟩
end Go.Proofs.YtogjblikljggbaaDoor
