/- Blocks of whatever rooms, and their words. -/
import Derived.Test.YtogjblikljggbaaDoorBl
namespace Go.Proofs.YtogjblikljggbaaDoor
open Go.RowKit Go.Proofs.YtogjblikljggbaaDoor.Hp
/-- The blocks are those at the first k addresses, but for those of gone. -/
structure Bk (N k : Nat) (ad : Nat → Nat) (gone : Nat → Bool) (A : Nat → Kd) : Prop where
  inv : Inv N A
  live : ∀ j, j < k → gone j = false → roomN A (ad j) ≠ 0
  dead : ∀ j, j < k → gone j = true → roomN A (ad j) = 0
  only : ∀ x, roomN A x ≠ 0 → ∃ j, j < k ∧ x = ad j
  inj : ∀ i j, i < k → j < k → ad i = ad j → i = j
theorem Bk.empty (N : Nat) (ad : Nat → Nat) : Bk N 0 ad (fun _ => false) (emptyA N) :=
  ⟨emptyA_inv N, fun j hj => by omega, fun j hj => by omega, fun x hx => absurd (by unfold roomN emptyA; split <;> rfl) hx, fun i j hi => by omega⟩
theorem Bk.push {N k m a : Nat} {ad : Nat → Nat} {A A' : Nat → Kd} (h : Bk N k ad (fun _ => false) A) (hm : m ≤ 16448) (g : Goes N A m a A') : Bk N (k + 1) (upd ad k a) (fun _ => false) A' := by
  obtain ⟨h0, hr⟩ := room_goes h.inv g
  have hp := roomOfM_pos m
  have hne : ∀ j, j < k → ad j ≠ a := fun j hj e => by
    have := h.live j hj rfl
    rw [e] at this
    exact this h0
  refine ⟨g.inv h.inv hm, fun j hj _ => ?_, fun j _ hg => (by cases hg), fun x hx => ?_, fun i j hi hj e => ?_⟩
  · rw [hr]
    by_cases e : j = k
    · rw [e, upd_same, if_pos rfl]; omega
    · rw [upd_ne _ _ e, if_neg (hne j (by omega))]; exact h.live j (by omega) rfl
  · rw [hr] at hx
    by_cases e : x = a
    · exact ⟨k, by omega, by rw [upd_same]; exact e⟩
    · rw [if_neg e] at hx
      obtain ⟨j, hj, e⟩ := h.only x hx
      exact ⟨j, by omega, by rw [upd_ne _ _ (by omega)]; exact e⟩
  · by_cases e1 : i = k
    · by_cases e2 : j = k
      · omega
      · rw [e1, upd_same, upd_ne _ _ e2] at e
        exact absurd e.symm (hne j (by omega))
    · by_cases e2 : j = k
      · rw [e2, upd_same, upd_ne _ _ e1] at e
        exact absurd e (hne i (by omega))
      · rw [upd_ne _ _ e1, upd_ne _ _ e2] at e
        exact h.inj i j (by omega) (by omega) e
theorem Bk.step {N k x : Nat} {ad : Nat → Nat} {gone : Nat → Bool} {A : Nat → Kd} (h : Bk N k ad gone A) (hx : x < k) (hg : gone x = false) : roomN A (ad x) ≠ 0 ∧ Bk N k ad (upd gone x true) (freeA A (ad x)) := by
  have hz := h.live x hx hg
  have hrf := room_freed h.inv hz
  refine ⟨hz, h.inv.freed hz, fun j hj hgj => ?_, fun j hj hgj => ?_, fun y hy => ?_, h.inj⟩
  · by_cases e : j = x
    · rw [e, upd_same] at hgj; cases hgj
    · rw [upd_ne _ _ e] at hgj
      rw [hrf, if_neg (fun e1 => e (h.inj _ _ hj hx e1))]; exact h.live j hj hgj
  · rw [hrf]
    by_cases e : j = x
    · rw [if_pos (by rw [e])]
    · rw [upd_ne _ _ e] at hgj
      rw [if_neg (fun e1 => e (h.inj _ _ hj hx e1))]; exact h.dead j hj hgj
  · rw [hrf] at hy
    by_cases e : y = ad x
    · exact ⟨x, hx, e⟩
    · rw [if_neg e] at hy; exact h.only y hy
theorem Bk.done {N k : Nat} {ad : Nat → Nat} {gone : Nat → Bool} {A : Nat → Kd} (h : Bk N k ad gone A) (hg : ∀ j, j < k → gone j = true) : A = emptyA N := by
  refine empty_of h.inv fun x => ?_
  by_cases hx : roomN A x = 0
  · exact hx
  · obtain ⟨j, hj, e⟩ := h.only x hx
    rw [e] at hx
    exact absurd (h.dead j hj (hg j hj)) hx
theorem Bk.goneAs {N k : Nat} {ad : Nat → Nat} {gone gone' : Nat → Bool} {A : Nat → Kd} (h : Bk N k ad gone A) (e : ∀ j, j < k → gone' j = gone j) : Bk N k ad gone' A :=
  ⟨h.inv, fun j hj hg => h.live j hj (by rw [← e j hj]; exact hg), fun j hj hg => h.dead j hj (by rw [← e j hj]; exact hg), h.only, h.inj⟩
theorem L1.re {w0 w : World} {B : HB} {base n k : Nat} {ad ad' : Nat → Nat} {A : Nat → Kd} {v : Value} (h : L1 w0 w B base n ad A k v) (e : ∀ j, j < k → ad' j = ad j) : L1 w0 w B base n ad' A k v := by
  refine ⟨?_, h.hp, h.far, h.vars, h.le⟩
  have : adL ad' k = adL ad k := by
    unfold adL
    apply List.map_congr_left
    intro j hj
    rw [e j (List.mem_range.1 hj)]
  rw [this]; exact h.own
theorem inB_of {n : Nat} {A : Nat → Kd} {wd : Nat → Int} (hI : Inv n A) {x r q : Nat} (hr : roomN A x = r) (hq : q < r) : inB n (hrOf A wd) (x : Int) (q : Int) = true := by
  unfold inB
  rw [roomR_I wd hI, roomI, if_pos (by omega)]
  simp only [Int.toNat_natCast, hr]
  simp; omega
theorem Load_in (B : HB) (n : Nat) (A : Nat → Kd) (wd : Nat → Int) (x r q : Nat) (w : World) (h : At w B n (hrOf A wd)) (hI : Inv n A) (hr : roomN A x = r) (hq : q < r) :
    Calls Tryd.prog 29 #[B.ptr, .int .i64 x, .int .i64 q] w fun e w' => e = .returned (.tuple #[.int .i64 (wd (x + q)), .bool true]) ∧ Fr (fun _ => False) w w' := by
  refine (Load_any B n (hrOf A wd) x q w h (fine_of wd hI) (fits_of wd hI)).mono ?_
  rintro e w' ⟨rfl, hF⟩
  rw [loadV_pos (inB_of hI hr hq)]
  exact ⟨rfl, hF⟩
theorem Store_in (B : HB) (n : Nat) (A : Nat → Kd) (wd : Nat → Int) (x r q : Nat) (v : Int) (w : World) (h : At w B n (hrOf A wd)) (hI : Inv n A) (hr : roomN A x = r) (hq : q < r) :
    Calls Tryd.prog 32 #[B.ptr, .int .i64 x, .int .i64 q, .int .i64 v] w fun e w' => e = .returned (.bool true) ∧ Fr B.mem w w' ∧ At w' B n (hrOf A (upd wd (x + q) v)) := by
  refine (Store_any B n (hrOf A wd) x q v w h (fine_of wd hI) (fits_of wd hI)).mono ?_
  rintro e w' ⟨rfl, hF, hA⟩
  rw [storeH_pos v (inB_of hI hr hq)] at hA
  exact ⟨ret_bool (inB_of hI hr hq), hF, hA⟩
theorem Room_in (B : HB) (n : Nat) (A : Nat → Kd) (wd : Nat → Int) (x : Nat) (w : World) (h : At w B n (hrOf A wd)) (hI : Inv n A) :
    Calls Tryd.prog 42 #[B.ptr, .int .i64 x] w fun e w' => e = .returned (.int .i64 (roomN A x)) ∧ Fr (fun _ => False) w w' := by
  refine (Room_any B n (hrOf A wd) x w h (fine_of wd hI)).mono ?_
  rintro e w' ⟨rfl, hF⟩
  rw [roomR_I wd hI, roomI, if_pos (by omega)]
  exact ⟨rfl, hF⟩
/-- An allocation of whatever size: a block, or none. -/
theorem Alloc_or (B : HB) (n : Nat) (A : Nat → Kd) (wd : Nat → Int) (m : Int) (w : World) (h : At w B n (hrOf A wd)) (hI : Inv n A) (hV : Vars w) (h0 : ∀ k, B.mem k → 2 ≤ k) :
    Calls Tryd.prog 31 #[B.ptr, .int .i64 m] w fun e w' => Fr B.mem w w' ∧ Vars w' ∧ ((∃ (a : Nat) (A' : Nat → Kd), 1 ≤ m ∧ m ≤ 16448 ∧ Goes n A m.toNat a A' ∧ Inv n A' ∧ e = .returned (.tuple #[.int .i64 (a : Int), .bool true]) ∧ At w' B n (hrOf A' (clearW wd a (roomOfM m.toNat)))) ∨ (e = .returned (.tuple #[.int .i64 0, .bool false]) ∧ At w' B n (hrOf A wd))) := by
  have h00 : ¬ B.mem 0 := fun x => by have := h0 0 x; omega
  have h01 : ¬ B.mem 1 := fun x => by have := h0 1 x; omega
  refine (Alloc_any B n A wd m w h hI hV h00 h01).mono ?_
  rintro e w' ⟨hF, ⟨a', A1, h1, h2, g', rfl, hA⟩ | ⟨hn, rfl, hA⟩⟩
  · exact ⟨hF, hV.fr hF h00 h01, .inl ⟨a', A1, h1, h2, g', g'.inv hI (by omega), rfl, hA⟩⟩
  · exact ⟨hF, hV.fr hF h00 h01, .inr ⟨rfl, hA⟩⟩
theorem room_new {n : Nat} {A A' : Nat → Kd} {m a : Nat} (hI : Inv n A) (g : Goes n A m a A') : roomN A' a = roomOfM m := by
  rw [(room_goes hI g).2, if_pos rfl]
theorem L1.grow {w0 w w1 : World} {B : HB} {base n k : Nat} {ad : Nat → Nat} {A : Nat → Kd} {v : Value} (h : L1 w0 w B base n ad A k v) (hB : ∀ j, B.mem j → w0.heap.size ≤ j ∧ j < base) (o : Obj) (hg : (w.alloc o).grownBy w1 v.ownBlock) {R : HR} (hA : At w B n R) : At w1 B n R := by
  have hlt : ∀ g, v.ownBlock = some g → base ≤ g := fun g hg => (h.own.lt g hg).1
  have hF : Fr (fun j => some j = v.ownBlock) w w1 := ((Fr.refl _ w).alloc o).trans (Fr.grown hg)
  exact hA.fr' hF fun b hb' e => by have := hlt b e.symm; have := (hB b hb').2; omega
theorem L1.fresh {w0 w : World} {B : HB} {base n k : Nat} {ad ad' : Nat → Nat} {A : Nat → Kd} {v : Value} (h : L1 w0 w B base n ad A k v) : L1 w0 w B base n ad' A 0 (.slice none 0 0) :=
  ⟨by have := World.ownsRow_nil w base 3 1; exact this, h.hp, h.far, h.vars, h.le⟩
end Go.Proofs.YtogjblikljggbaaDoor
