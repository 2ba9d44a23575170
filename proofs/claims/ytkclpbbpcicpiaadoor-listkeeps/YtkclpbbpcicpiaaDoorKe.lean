/- ListKeeps: what its walk needs. -/
import Derived.Test.YtkclpbbpcicpiaaDoorCn
import Derived.Test.YtkclpbbpcicpiaaDoorGr
namespace Go.Proofs.YtkclpbbpcicpiaaDoor
open Go.RowKit Go.Proofs.YtkclpbbpcicpiaaDoor.Hp
variable {w0 w w' w1 w2 : World} {B : HB} {n p m d q : Nat} {A A' A1 A2 : Nat → Kd} {wd wd' wd1 wd2 : Nat → Int} {hv hv1 hv2 : Value} {held : List Int} {cnt cnt' : Nat} {a b lo N c k x room : Nat} {f : Nat → Int} {z y : Int} {rb : Nat → Bool} {ats : Nat → Nat}
def e0R (r : Nat) : Nat := if r = 0 then 0 else 1
def e2R (r : Nat) : Nat := if r < 4 then 0 else 1
def eqR (r : Nat) : Nat := if r < 2 then 0 else if r < 8 then 1 else if r < 16 then 2 else if r < 32 then 3 else if r < 64 then 4 else 6
theorem e_le (r : Nat) : e0R r ≤ 1 ∧ e2R r ≤ 1 ∧ eqR r ≤ 6 := by
  unfold e0R e2R eqR
  refine ⟨by split <;> omega, by split <;> omega, by (repeat' split) <;> omega⟩
theorem grow_cn (h : Pw room) (hr : room < 60) : e0R room + (if 1 + max (2 * room) (room + 1) ≤ 2 then 1 else 0) ≤ e0R (max (2 * room) (room + 1)) ∧ e2R room + (if 4 < 1 + max (2 * room) (room + 1) ∧ 1 + max (2 * room) (room + 1) ≤ 8 then 1 else 0) ≤ e2R (max (2 * room) (room + 1)) ∧ eqR room + (if 1 + max (2 * room) (room + 1) ≤ 2 ∨ (4 < 1 + max (2 * room) (room + 1) ∧ 1 + max (2 * room) (room + 1) ≤ 8) then 0 else (1 + max (2 * room) (room + 1) + 63) / 64) ≤ eqR (max (2 * room) (room + 1)) ∧ 1 + max (2 * room) (room + 1) ≤ 128 := by
  rcases h with rfl | rfl | rfl | rfl | rfl | rfl | rfl | rfl | rfl | rfl | rfl <;> first | omega | decide
/-- A slice of references to as many blocks. -/
structure Kp (A : Nat → Kd) (wd : Nat → Int) (z : Int) (b k d room : Nat) (ats : Nat → Nat) : Prop where
  sl : SlOf A wd z b 0 k room
  ar : 0 < k → ArAt A wd b 2 room (fun j => if j < k then (ats j : Int) else 0)
  dt : ∀ j, j < d → ArAt A wd (ats j) 1 1 (fun _ => (j : Int))
  le : k ≤ room
  nil : k = 0 → room = 0 ∧ z = 0
  pw : Pw room
  cn : Cn A (d + e0R room) (k + e2R room) (1 + eqR room)
theorem Kp.start : Kp (emptyA 64) (fun _ => 0) 0 0 0 0 0 ats := ⟨.inl ⟨rfl, rfl, rfl, rfl, rfl⟩, fun h => by omega, fun j hj => by omega, by omega, fun _ => ⟨rfl, rfl⟩, .inl rfl, Cn.start⟩
theorem SlOf.keep {K : Nat → Prop} (h : SlOf A wd z b lo N c) (ho : Olds K A wd A' wd') (hk : ∀ a : Nat, z = a → ¬ K a) : SlOf A' wd' z b lo N c := by
  rcases h with h | ⟨a, e, h⟩
  · exact .inl h
  · exact .inr ⟨a, e, h.keep ho (hk a e)⟩
structure MkD (A : Nat → Kd) (wd : Nat → Int) (A1 : Nat → Kd) (wd1 : Nat → Int) (x : Nat) : Prop where
  go : Goes 64 A 2 x A1
  olds : Olds (fun _ => False) A wd A1 wd1
  ar : ArAt A1 wd1 x 1 1 (fun _ => 0)
  nb : roomN A x = 0
theorem keeps_make (h : Lw w0 w B 64 p A wd hv held cnt) (hc : cnt < 90000) (hK : Kp A wd z b k k room ats) (hk : k < 60) :
    Calls Tryd.prog 9 #[.pointer (some ⟨p, 0, none⟩), .int .i64 1, .int .i64 1, .int .i64 0] w fun e w' => ∃ (x : Nat) (A1 : Nat → Kd) (wd1 : Nat → Int), e = .returned (.tuple #[.int .i64 (x : Int), .bool true]) ∧ MkD A wd A1 wd1 x ∧ Lw w0 w' B 64 p A1 wd1 hv held cnt ∧ x < 100000 := by
  have hR : Right 1 1 0 := by unfold Right; omega
  have he := e_le room
  have hp := hK.cn.place (m := 2) (by omega) (by omega) (by omega) (by omega)
  have e1 : 1 + (1 : Int).toNat = 2 := rfl
  refine (MakeV h.sp (by omega) hR).mono ?_
  rintro e w' ⟨A1, wd1, cnt1, hm, hs, ht⟩
  cases hm with
  | no he hm hcn =>
    obtain ⟨_, ea, _⟩ := mks_to hm hR (by rw [e1]; exact hp)
    cases (tup_inj ea).2
  | yes x he hm hr hsz hcn =>
    obtain ⟨x', ea, g, rfl, rfl⟩ := mks_to hm hR (by rw [e1]; exact hp)
    obtain rfl : x = x' := by have := (tup_inj ea).1; omega
    rw [e1] at g
    have ha := ar_new (k := 1) (c := 1) (.inl rfl) (by omega) h.sp.inv g wd
    exact ⟨x, A1, _, he, ⟨g, Olds.new _ h.sp.inv hs.inv g (by omega) _, ha, (room_goes h.sp.inv g).1⟩, h.step hs ht, hs.b_lt hr⟩
theorem keeps_set (h : Lw w0 w B 64 p A1 wd1 hv held cnt) (hI : Inv 64 A) (hK : Kp A wd z b k k room ats) (hM : MkD A wd A1 wd1 x) :
    Calls Tryd.prog 10 #[.pointer (some ⟨p, 0, none⟩), .int .i64 x, .int .i64 0, .int .i64 k] w fun e w' => e = .returned (.bool true) ∧ ∃ wd2, Kp A1 wd2 z b k (k + 1) room (upd ats k x) ∧ Lw w0 w' B 64 p A1 wd2 hv held cnt := by
  refine (SetS h.sp 0 k 0 rfl hM.ar.room (by rw [hM.ar.sz]; decide)).mono ?_
  rintro e w' ⟨rfl, hs, ht⟩
  have hp := hM.ar.put_olds h.sp.inv (i := 0) (by omega) (k : Int)
  have ho := hM.olds.but hp hM.nb
  refine ⟨rfl, _, ⟨hK.sl.keep ho (fun _ _ => id), fun h0 => (hK.ar h0).keep ho id |>.ext fun j hj => ?_, fun j hj => ?_, hK.le, hK.nil, hK.pw, ?_⟩, h.step hs ht⟩
  · by_cases e : j < k
    · rw [if_pos e, if_pos e, upd_ne _ _ (by omega)]
    · rw [if_neg e, if_neg e]
  · by_cases e : j = k
    · subst e
      rw [upd_same]
      exact (hM.ar.put 0 (j : Int)).ext fun i hi => by rw [if_pos (by omega)]
    · rw [upd_ne _ _ e]
      exact (hK.dt j (by omega)).keep ho id
  · have := hK.cn.goes hI hM.go (by omega)
    exact this.more (by rw [if_pos (by omega)]; omega) (by rw [if_neg (by omega)]; omega) (by rw [if_pos (by omega)]; omega)
theorem ArAt.ne2 {c1 c2 : Nat} {f1 f2 : Nat → Int} (h1 : ArAt A wd a 1 c1 f1) (h2 : ArAt A wd b 2 c2 f2) : a ≠ b := by
  rintro rfl
  have e1 := (ar_hdr h1.kin h1.le).2.1
  have e2 := (ar_hdr h2.kin h2.le).2.1
  rw [← h1.hd] at e1
  rw [← h2.hd, e1] at e2
  omega
theorem keeps_add (h : Lw w0 w B 64 p A wd hv held cnt) (hc : cnt < 90000) (hl : held.length ≤ 10) (hK : Kp A wd z b k (k + 1) room ats) (hk : k < 60) (ao : Option Addr) (hit : ItAt w B p hv ao [(ats k : Int)]) :
    Calls Tryd.prog 12 #[.pointer (some ⟨p, 0, none⟩), .int .i64 z, .slice ao 1 1, .bool true] w fun e w' => ∃ (a b2 : Nat) (A2 : Nat → Kd) (wd2 : Nat → Int) (hv2 : Value), e = .returned (.tuple #[.int .i64 (a : Int), .bool true]) ∧ Kp A2 wd2 a b2 (k + 1) (k + 1) (nxR room k) ats ∧ Lw w0 w' B 64 p A2 wd2 hv2 held cnt ∧ a < 100000 := by
  have hI := h.sp.inv
  have hpw := hK.pw.le
  have he := e_le room
  by_cases hkr : k = room
  · subst hkr
    obtain ⟨q1, q2, q3, q4, q5⟩ := hK.pw.next (by omega)
    obtain ⟨u1, u2, u3, u4⟩ := grow_cn hK.pw hk
    have hcap : capG k (k + 1) = max (2 * k) (k + 1) := rfl
    have hro : Roomy 64 A (max (2 * k) (k + 1)) := ⟨hK.cn.place (by omega) (by omega) (by omega) u4, fun b A1 g => by
      have := hK.cn.goes hI g (by omega)
      refine this.place ?_ ?_ ?_ (by omega)
      · have := e_le (max (2 * k) (k + 1)); omega
      · have := e_le (max (2 * k) (k + 1)); omega
      · have := e_le (max (2 * k) (k + 1)); omega⟩
    refine (Append_gro h.sp hc (by omega) hK.sl (fun h0 => ⟨hK.ar h0, by omega⟩) ao 1 1 [(ats k : Int)] rfl (by omega) hit (by omega) (by omega) (by omega) (by omega) true (by rw [hcap]; exact hro)).mono ?_
    rintro e w' ⟨a, b2, A2, wd2, hv2, rfl, h2, hs2, ht2⟩
    rw [hcap] at h2
    have enx : nxR k k = max (2 * k) (k + 1) := if_pos rfl
    refine ⟨a, b2, A2, wd2, hv2, rfl, ?_, h.step hs2 ht2, hs2.b_lt h2.sl.room⟩
    rw [enx]
    obtain ⟨A1, g1, g2⟩ := h2.go
    have hI1 := g1.inv hI (by omega)
    have c1 := hK.cn.goes hI g1 (by omega)
    have c2 := c1.goes hI1 g2 (by omega)
    refine ⟨.inr ⟨a, rfl, h2.sl⟩, fun _ => h2.ar.ext fun j hj => ?_, fun j hj => (hK.dt j hj).keep h2.olds id, by omega, fun h0 => by omega, q1, c2.more ?_ ?_ ?_⟩
    · unfold groF
      by_cases e1 : j < k
      · rw [if_pos e1, Nat.zero_add]
        show (if j < k then (ats j : Int) else 0) = _
        rw [if_pos e1, if_pos (by omega)]
      · by_cases e2 : j < k + 1
        · obtain rfl : j = k := by omega
          rw [if_neg e1, if_pos (by simp), if_pos e2, Nat.sub_self]; rfl
        · rw [if_neg e1, if_neg (by simp; omega), if_neg e2]
    · rw [if_neg (show ¬ 5 ≤ 2 by omega)]; omega
    · rw [if_pos (show 4 < 5 ∧ 5 ≤ 8 by omega)]; omega
    · rw [if_pos (show 5 ≤ 2 ∨ (4 < 5 ∧ 5 ≤ 8) by omega)]; omega
  · have hlt : k < room := by have := hK.le; omega
    have h0 : 0 < k := by
      apply Nat.pos_of_ne_zero
      intro e
      have := (hK.nil e).1
      omega
    have hf := hK.ar h0
    refine (Append_ext h.sp hc (by omega) hK.sl hf (h.sp.b_lt hf.room) ao 1 1 [(ats k : Int)] rfl (by omega) hit (by omega) (by omega) (hK.cn.place (by omega) (by omega) (by omega) (by omega)) true).mono ?_
    rintro e w' ⟨a, A2, wd2, hv2, rfl, h2, hs2, ht2⟩
    have enx : nxR room k = room := if_neg hkr
    refine ⟨a, b, A2, wd2, hv2, rfl, ?_, h.step hs2 ht2, hs2.b_lt h2.sl.room⟩
    rw [enx]
    have c2 := hK.cn.goes hI h2.go (by omega)
    refine ⟨.inr ⟨a, rfl, h2.sl⟩, fun _ => h2.ar.ext fun j hj => ?_, fun j hj => (hK.dt j hj).keep h2.olds ((hK.dt j hj).ne2 hf), by omega, fun h0 => by omega, hK.pw, c2.more ?_ ?_ ?_⟩
    · unfold behF
      by_cases e1 : j < k
      · rw [if_neg (by omega)]
        show (if j < k then (ats j : Int) else 0) = _
        rw [if_pos e1, if_pos (by omega)]
      · by_cases e2 : j < k + 1
        · obtain rfl : j = k := by omega
          rw [if_pos (by simp), if_pos e2, Nat.zero_add, Nat.sub_self]; rfl
        · rw [if_neg (by simp; omega)]
          show (if j < k then (ats j : Int) else 0) = _
          rw [if_neg e1, if_neg e2]
    · rw [if_neg (show ¬ 5 ≤ 2 by omega)]; omega
    · rw [if_pos (show 4 < 5 ∧ 5 ≤ 8 by omega)]; omega
    · rw [if_pos (show 5 ≤ 2 ∨ (4 < 5 ∧ 5 ≤ 8) by omega)]; omega
/-- What is reached from the slice. -/
theorem Kp.reach (h : Kp A wd z b k k room ats) (hI : Inv n A) (h0 : 0 < k) (x : Nat) : Reach (refB A) (kids A wd) [z] (x : Int) ↔ (x : Int) = z ∨ x = b ∨ ∃ j, j < k ∧ x = ats j := by
  obtain ⟨a, rfl, hs⟩ : ∃ a : Nat, z = a ∧ SlAt A wd a b 0 k room := by
    rcases h.sl with ⟨_, _, _, e, _⟩ | h
    · omega
    · exact h
  have ha := h.ar h0
  constructor
  · intro hr
    generalize hy : (x : Int) = y at hr
    induction hr generalizing x with
    | root u h1 h2 => exact .inl (by simpa using h1)
    | kid u y h1 h2 h3 ih =>
      obtain ⟨v, rfl, _⟩ := ref_nat hI h1.ref
      rcases ih v rfl with e | e | ⟨j, hj, e⟩
      · obtain rfl : v = a := by omega
        obtain ⟨_, e2⟩ := hs.kids.1 h2
        exact .inr (.inl (by omega))
      · subst e
        obtain ⟨_, j, hj, e1, e2⟩ := ha.kids.1 h2
        by_cases hjk : j < k
        · rw [if_pos hjk] at e2
          exact .inr (.inr ⟨j, hjk, by omega⟩)
        · rw [if_neg hjk] at e1
          obtain ⟨u, e3, _, e4, _⟩ := ref_nat hI e1
          omega
      · subst e
        obtain ⟨e1, _⟩ := (h.dt j hj).kids.1 h2
        omega
  · have r1 : Reach (refB A) (kids A wd) [(a : Int)] (a : Int) := hs.reach (by simp)
    have r2 : Reach (refB A) (kids A wd) [(a : Int)] (b : Int) := hs.reach_ar ha (by simp)
    rintro (e | e | ⟨j, hj, e⟩)
    · rw [e]; exact r1
    · rw [e]; exact r2
    · subst e
      exact .kid _ _ r2 (ha.kids.2 ⟨rfl, j, by have := h.le; omega, by rw [if_pos hj]; exact ref_cast.2 (h.dt j hj).room, by rw [if_pos hj]⟩) (ref_cast.2 (h.dt j hj).room)
theorem Kp.gc (h : Kp A wd z b k k room ats) (hI : Inv 64 A) (hg : Gc 64 A wd (heldZ k z) rb A1) : Kp A1 wd z b k k room ats := by
  by_cases h0 : k = 0
  · subst h0
    refine ⟨?_, fun h => by omega, fun j hj => by omega, h.le, h.nil, h.pw, h.cn.gc hI hg⟩
    rcases h.sl with h1 | ⟨a, rfl, hs⟩
    · exact .inl h1
    · have e := (h.nil rfl).2
      have := (room_in hI hs.room).1
      omega
  · have h0' : 0 < k := by omega
    have hz : heldZ k z = [z] := if_neg h0
    rw [hz] at hg
    have hr := fun x => (hg.rch x).trans (h.reach hI h0' x)
    refine ⟨?_, fun _ => (h.ar h0').gc hg ((hr b).2 (.inr (.inl rfl))), fun j hj => (h.dt j hj).gc hg ((hr _).2 (.inr (.inr ⟨j, hj, rfl⟩))), h.le, h.nil, h.pw, h.cn.gc hI hg⟩
    rcases h.sl with h1 | ⟨a, rfl, hs⟩
    · exact .inl h1
    · exact .inr ⟨a, rfl, hs.gc hg ((hr a).2 (.inl rfl))⟩
theorem Kp.blocks (h : Kp A wd z b k k room ats) (hI : Inv 64 A) (h0 : 0 < k) (hg : Gc 64 A wd [z] rb A1) : (blkL A1 64).length = k + 2 := by
  obtain ⟨a, rfl, hs⟩ : ∃ a : Nat, z = a ∧ SlAt A wd a b 0 k room := by
    rcases h.sl with ⟨_, _, _, e, _⟩ | h
    · omega
    · exact h
  have ha := h.ar h0
  have hr := fun x => (hg.rch x).trans (h.reach hI h0 x)
  have h1 : (blkL A1 64).Nodup := (blkL_sorted hg.inv 64).imp fun h => by omega
  have h2 : (a :: b :: (List.range k).map ats).Nodup := by
    rw [List.nodup_cons, List.nodup_cons]
    refine ⟨?_, ?_, ?_⟩
    · simp only [List.mem_cons, List.mem_map, List.mem_range, not_or, not_exists]
      exact ⟨hs.ne ha, fun j => fun ⟨hj, e⟩ => hs.ne (h.dt j hj) e.symm⟩
    · simp only [List.mem_map, List.mem_range, not_exists]
      exact fun j => fun ⟨hj, e⟩ => (h.dt j hj).ne2 ha e
    · rw [List.Nodup, List.pairwise_map]
      refine List.Pairwise.imp_of_mem ?_ List.pairwise_lt_range
      intro i j hi hj hij e
      have hi' : i < k := by simpa using hi
      have hj' : j < k := by simpa using hj
      have e1 := (h.dt i hi').it 0 (by omega)
      have e2 := (h.dt j hj').it 0 (by omega)
      rw [e] at e1
      rw [e1] at e2
      omega
  have := perm_len h1 h2 fun x => by
    rw [blkL_mem hg.inv x 64]
    have hrm := hg.room x
    constructor
    · rintro ⟨_, hx⟩
      rw [hrm] at hx
      by_cases hb : rb x = true
      · rcases (hr x).1 hb with e | e | ⟨j, hj, e⟩
        · obtain rfl : x = a := by omega
          simp
        · simp [e]
        · simp only [List.mem_cons, List.mem_map, List.mem_range]
          exact .inr (.inr ⟨j, hj, e.symm⟩)
      · rw [if_neg hb] at hx; exact absurd rfl hx
    · intro hx
      have hb : rb x = true ∧ roomN A x ≠ 0 := by
        simp only [List.mem_cons, List.mem_map, List.mem_range] at hx
        rcases hx with e | e | ⟨j, hj, e⟩
        · subst e; exact ⟨(hr x).2 (.inl rfl), hs.room⟩
        · subst e; exact ⟨(hr x).2 (.inr (.inl rfl)), ha.room⟩
        · subst e; exact ⟨(hr _).2 (.inr (.inr ⟨j, hj, rfl⟩)), (h.dt j hj).room⟩
      rw [if_pos hb.1] at hrm
      have hx2 : roomN A1 x ≠ 0 := by rw [hrm]; exact hb.2
      have := room_in hg.inv hx2
      exact ⟨by omega, hx2⟩
  rw [this]; simp
end Go.Proofs.YtkclpbbpcicpiaaDoor
