/- SpaceKeeps: what its walk needs. -/
import Derived.Test.YtjblmincldaklaaDoorK0
import Derived.Test.YtjblmincldaklaaDoorOq
namespace Go.Proofs.YtjblmincldaklaaDoor
open Go.RowKit Go.Proofs.YtjblmincldaklaaDoor.Hp
variable {w0 w w' : World} {B : HB} {n p : Nat} {A : Nat → Kd} {wd : Nat → Int} {hv : Value} {held : List Int} {cnt : Nat}
theorem has_of {A : Nat → Kd} {wd : Nat → Int} {x q : Nat} (hx : roomN A x ≠ 0) (hq : (q : Int) < hS (wd x)) : hasB A wd x q = true := by
  have hr : roomI A (x : Int) ≠ 0 := by unfold roomI; rw [if_pos (by omega), Int.toNat_natCast]; exact hx
  unfold hasB sizI
  rw [if_pos hr, Int.toNat_natCast]
  simp; omega
theorem Set_to (h : Lw w0 w B n p A wd hv held cnt) {x q : Nat} (v : Int) (hx : roomN A x ≠ 0) (hq : (q : Int) < hS (wd x)) :
    Calls Tryd.prog 13 #[.pointer (some ⟨p, 0, none⟩), .int .i64 x, .int .i64 q, .int .i64 v] w fun e w' => e = .returned (.bool true) ∧ Lw w0 w' B n p A (upd wd (x + (1 + q)) v) hv held cnt := by
  have hb := has_of hx hq
  refine (Set_any h.sp x q v).mono ?_
  rintro e w' ⟨rfl, hs, hF⟩
  unfold putW at hs
  rw [if_pos hb] at hs
  exact ⟨ret_bool hb, h.heap hs (hF.mono fun k hk => .inl hk)⟩
theorem Get_to (h : Lw w0 w B n p A wd hv held cnt) {x q : Nat} (hx : roomN A x ≠ 0) (hq : (q : Int) < hS (wd x)) :
    Calls Tryd.prog 16 #[.pointer (some ⟨p, 0, none⟩), .int .i64 x, .int .i64 q] w fun e w' => e = .returned (.int .i64 (wd (x + (1 + q)))) ∧ Lw w0 w' B n p A wd hv held cnt := by
  refine (Get_any h.sp x q).mono ?_
  rintro e w' ⟨rfl, hF⟩
  unfold getI
  rw [if_pos (has_of hx hq)]
  exact ⟨rfl, h.quiet hF⟩
theorem Drop_to (h : Lw w0 w B n p A wd hv held cnt) (z : Int) (hz : -9223372036854775808 ≤ z ∧ z < 9223372036854775808) :
    Calls Tryd.prog 14 #[.pointer (some ⟨p, 0, none⟩), .int .i64 z] w fun e w' => e = .returned (.tuple #[]) ∧ ∃ hv2, Lw w0 w' B n p A wd hv2 (held.take (leftN held.length z)) cnt := by
  refine (Drop_any h.sp z hz).mono ?_
  rintro e w' ⟨hv2, rfl, hs, hF, hg⟩
  exact ⟨rfl, hv2, h.to hs (hF.mono fun k e => .inr (.inl e)) (fun g e => .inl (by rw [← hg]; exact e))⟩
theorem Hold_to (h : Lw w0 w B n p A wd hv held cnt) (z : Int) (hz : -9223372036854775808 ≤ z ∧ z < 9223372036854775808) (hl : held.length < 900) :
    Calls Tryd.prog 15 #[.pointer (some ⟨p, 0, none⟩), .int .i64 z] w fun e w' => e = .returned (.tuple #[]) ∧ ∃ hv2, Lw w0 w' B n p A wd hv2 (held ++ [z]) cnt := by
  refine (Hold_any h.sp z hz hl).mono ?_
  rintro e w' ⟨hv2, rfl, hs, hF, hg⟩
  exact ⟨rfl, hv2, h.to hs hF hg⟩
/-- The chain's last block. -/
def lastK (k : Nat) : Int := if k = 0 then 0 else ((64 + 4 * (k - 1) : Nat) : Int)
def heldK (k : Nat) : List Int := if k = 0 then [] else [((64 + 4 * (k - 1) : Nat) : Int)]
theorem keeps_goes {k : Nat} (hk : k < 20) : Goes 64 (fillA 64 1 k) (1 + (3 : Int).toNat) (64 + 4 * k) (fillA 64 1 (k + 1)) := by
  have := fill_goes (n := 64) (m := 4) (k := k) (by decide) (by rw [show 2 ^ (5 - clOf 4) * (64 - 1) = 1008 by decide]; omega)
  rw [show clOf 4 = 1 by decide] at this
  rw [show 64 + 4 * k = 64 + k * 2 ^ (1 + 1) by omega]
  exact this
theorem keeps_room {k : Nat} (hk : k ≤ 20) : ∀ j, j < k → roomN (fillA 64 1 k) (64 + 4 * j) = 4 := by
  have := (fill_rooms (n := 64) (m := 4) (by decide) k (by rw [show 2 ^ (5 - clOf 4) * (64 - 1) = 1008 by decide]; omega)).1
  rw [show clOf 4 = 1 by decide] at this
  intro j hj
  have h2 := this j hj
  rw [show 64 + 4 * j = 64 + j * 2 ^ (1 + 1) by omega]
  exact h2
/-- The words of a chain with one block more. -/
def addW (wd : Nat → Int) (k : Nat) : Nat → Int := upd (upd (upd (newW wd (64 + 4 * k) (1 + (3 : Int).toNat) (hdr 4 3 2)) (64 + 4 * k + (1 + 0)) (k : Int)) (64 + 4 * k + (1 + 1)) (lastK k)) (64 + 4 * k + (1 + 2)) 64
theorem keeps_add {k : Nat} (hk : k < 20) (h : Chn k (fillA 64 1 k) wd) : Chn (k + 1) (fillA 64 1 (k + 1)) (addW wd k) := by
  have key : ∀ x, x < 64 + 4 * k → addW wd k x = wd x := fun x hx => by
    unfold addW
    rw [upd_ne _ _ (by omega), upd_ne _ _ (by omega), upd_ne _ _ (by omega), newW_low hx]
  have kh : addW wd k (64 + 4 * k) = hdr 4 3 2 := by
    unfold addW
    rw [upd_ne _ _ (by omega), upd_ne _ _ (by omega), upd_ne _ _ (by omega), newW_at]
  have k1 : addW wd k (64 + 4 * k + 1) = k := by
    unfold addW
    rw [upd_ne _ _ (by omega), upd_ne _ _ (by omega), show 64 + 4 * k + (1 + 0) = 64 + 4 * k + 1 by omega, upd_same]
  have k2 : addW wd k (64 + 4 * k + 2) = lastK k := by
    unfold addW
    rw [upd_ne _ _ (by omega), show 64 + 4 * k + (1 + 1) = 64 + 4 * k + 2 by omega, upd_same]
  have k3 : addW wd k (64 + 4 * k + 3) = 64 := by
    unfold addW
    rw [show 64 + 4 * k + (1 + 2) = 64 + 4 * k + 3 by omega, upd_same]
  refine ⟨keeps_room (by omega), fun j hj => ?_, fun j hj => ?_, fun j hj => ?_, fun j hj => ?_⟩ <;> by_cases e : j = k
  · subst e; exact kh
  · rw [key _ (by omega)]; exact h.hd j (by omega)
  · subst e; exact k1
  · rw [key _ (by omega)]; exact h.w0 j (by omega)
  · subst e; exact k2
  · rw [key _ (by omega)]; exact h.w1 j (by omega)
  · subst e; exact k3
  · rw [key _ (by omega)]; exact h.w2 j (by omega)
theorem hs432 : hS (hdr 4 3 2) = 3 := by decide
/-- A chain that is held, whatever else there is. -/
structure Kp (w0 w : World) (B : HB) (p c : Nat) (A : Nat → Kd) (wd : Nat → Int) (hv : Value) (cnt : Nat) : Prop where
  lw : Lw w0 w B 64 p A wd hv [((64 + 4 * (c - 1) : Nat) : Int)] cnt
  chn : Chn c A wd
theorem keeps_make {c : Nat} (h : Kp w0 w B p c A wd hv cnt) (hc1 : 1 ≤ c) (hc : c ≤ 20) (hn : cnt < 100000) {z : Int} (h0 : 0 ≤ z) (h1 : z < 600) :
    Calls Tryd.prog 12 #[.pointer (some ⟨p, 0, none⟩), .int .i64 2, .int .i64 z, .int .i64 0] w fun e w' => ∃ a : Nat, e = .returned (.tuple #[.int .i64 (a : Int), .bool true]) ∧ ∃ A' wd' cnt', cnt' ≤ cnt + 1 ∧ Kp w0 w' B p c A' wd' hv cnt' := by
  have hI := h.lw.sp.inv
  refine (Make_any h.lw.sp hn 2 z 0).mono ?_
  rintro e w' ⟨v, A1, wd1, cnt1, hm, rfl, hs, hF⟩
  cases hm with
  | no hr => exact absurd (show Right 2 z 0 by unfold Right; omega) hr
  | at_ hr a1 A2 g1 => exact ⟨_, rfl, _, _, _, by omega, h.lw.heap hs hF, h.chn.goes hI hs.inv (by omega) g1⟩
  | gc hr hp rb A2 hg a A3 g => exact ⟨_, rfl, _, _, _, by omega, h.lw.heap hs hF, (h.chn.gc hI hc1 hg).1.goes hg.inv hs.inv (by omega) g⟩
  | full hr hp rb A2 hg g =>
    have h2 := h.chn.gc hI hc1 hg
    exact absurd g (chn_place (chn_free hg.inv h2.1 h2.2 hc) (by omega))
theorem keeps_collect {c : Nat} (h : Kp w0 w B p c A wd hv cnt) (hc1 : 1 ≤ c) (hn : cnt < 100000) :
    Calls Tryd.prog 17 #[.pointer (some ⟨p, 0, none⟩)] w fun e w' => ∃ q A1, e = .returned (.int .i64 q) ∧ Live A1 4 c ∧ Lw w0 w' B 64 p A1 wd hv [((64 + 4 * (c - 1) : Nat) : Int)] (cnt + 1) := by
  refine (SCollect_any h.lw.sp hn).mono ?_
  rintro e w' ⟨rb, A1, hg, rfl, hs, hF⟩
  exact ⟨_, A1, rfl, (h.chn.gc h.lw.sp.inv hc1 hg).2, h.lw.heap hs hF⟩
theorem none_collect (h : Lw w0 w B 64 p A wd hv [] cnt) (hn : cnt < 100000) :
    Calls Tryd.prog 17 #[.pointer (some ⟨p, 0, none⟩)] w fun e w' => ∃ q, e = .returned (.int .i64 q) ∧ Lw w0 w' B 64 p (emptyA 64) wd hv [] (cnt + 1) := by
  refine (SCollect_any h.sp hn).mono ?_
  rintro e w' ⟨rb, A1, hg, rfl, hs, hF⟩
  rw [hg.none] at hs
  exact ⟨_, rfl, h.heap hs hF⟩
theorem live_told {c : Nat} (h : Lw w0 w B 64 p A wd hv held cnt) (hl : Live A 4 c) :
    Calls Tryd.prog 18 #[.pointer (some ⟨p, 0, none⟩)] w fun e w' => ∃ q, e = .returned (.tuple #[.int .i64 c, .int .i64 cnt, .int .i64 q]) ∧ Lw w0 w' B 64 p A wd hv held cnt := by
  refine (Told_any h.sp).mono ?_
  rintro e w' ⟨rfl, hF⟩
  rw [live_len h.sp.inv hl (by decide)]
  exact ⟨_, rfl, h.quiet hF⟩
theorem none_told (h : Lw w0 w B 64 p (emptyA 64) wd hv held cnt) :
    Calls Tryd.prog 18 #[.pointer (some ⟨p, 0, none⟩)] w fun e w' => e = .returned (.tuple #[.int .i64 0, .int .i64 cnt, .int .i64 63]) ∧ Lw w0 w' B 64 p (emptyA 64) wd hv held cnt := by
  refine (Told_any h.sp).mono ?_
  rintro e w' ⟨rfl, hF⟩
  have hl : Live (emptyA 64) 4 0 := fun x => ⟨fun hx => absurd (show roomN (emptyA 64) x = 0 by unfold roomN emptyA; split <;> rfl) hx, fun ⟨j, hj, _⟩ => by omega⟩
  rw [live_len h.sp.inv hl (by decide), cnt_empty 64 (by decide)]
  exact ⟨rfl, h.quiet hF⟩
end Go.Proofs.YtjblmincldaklaaDoor
