/- What leads from one world of a space to the next; blocks that stay; Hold, Drop, Set, Make; the free spans. -/
import Derived.Test.YtogjblikljggbaaDoorD0
namespace Go.Proofs.YtogjblikljggbaaDoor
open Go.RowKit Go.Proofs.YtogjblikljggbaaDoor.Hp
section
variable {w0 w w' w1 w2 : World} {B : HB} {n p : Nat} {A : Nat → Kd} {wd : Nat → Int} {hv hv1 hv2 : Value} {held : List Int} {cnt : Nat}
/-- From a world to a later one of the same space. -/
structure To (B : HB) (p : Nat) (w : World) (hv : Value) (w' : World) (hv' : Value) : Prop where
  fr : Fr (SpK B p hv) w w'
  own : ∀ g, hv'.ownBlock = some g → hv.ownBlock = some g ∨ w.heap.size ≤ g
theorem To.refl (B : HB) (p : Nat) (w : World) (hv : Value) : To B p w hv w hv := ⟨Fr.refl _ _, fun _ h => .inl h⟩
theorem To.trans (h1 : To B p w hv w1 hv1) (h2 : To B p w1 hv1 w2 hv2) : To B p w hv w2 hv2 := by
  have hz := h1.fr.size
  refine ⟨⟨h2.fr.os.trans h1.fr.os, h2.fr.tape.trans h1.fr.tape, h2.fr.output.trans h1.fr.output, Nat.le_trans hz h2.fr.size, fun k hk hn => ?_⟩, fun g hg => ?_⟩
  · rw [h2.fr.block k (by omega) ?_, h1.fr.block k hk hn]
    rintro (h | h | h)
    · exact hn (.inl h)
    · exact hn (.inr (.inl h))
    · rcases h1.own k h with e | e
      · exact hn (.inr (.inr e))
      · omega
  · rcases h2.own g hg with e | e
    · exact h1.own g e
    · exact .inr (by omega)
theorem To.of (h : Fr (SpK B p hv) w w') : To B p w hv w' hv := ⟨h, fun _ h => .inl h⟩
theorem To.quiet (h : Fr (fun _ => False) w w') : To B p w hv w' hv := .of (h.mono fun _ x => x.elim)
theorem Lw.step {A' : Nat → Kd} {wd' : Nat → Int} {held' : List Int} {cnt' : Nat} (h : Lw w0 w B n p A wd hv held cnt) (hs : Sp w' B n p A' wd' hv1 held' cnt') (k : To B p w hv w' hv1) : Lw w0 w' B n p A' wd' hv1 held' cnt' := h.to hs k.fr k.own
/-- A cell that is none of the space's. -/
theorem To.cell (h : To B p w hv w' hv1) {b i : Nat} {u : Value} (hb : b < w.heap.size) (hn : ¬ SpK B p hv b) (hc : w.cell? ⟨b, i, none⟩ = some u) : w'.cell? ⟨b, i, none⟩ = some u :=
  (World.cell?_of_block (w := w) (a := ⟨b, i, none⟩) (h.fr.block b hb hn)).trans hc
theorem To.off (h : To B p w hv w' hv1) {b : Nat} (hb : b < w.heap.size) (hn : ¬ SpK B p hv b) : b < w'.heap.size ∧ ¬ SpK B p hv1 b := by
  refine ⟨Nat.lt_of_lt_of_le hb h.fr.size, ?_⟩
  rintro (k | k | k)
  · exact hn (.inl k)
  · exact hn (.inr (.inl k))
  · rcases h.own b k with e | e
    · exact hn (.inr (.inr e))
    · omega
theorem Fr.setNew {K : Nat → Prop} {a w : World} (h : Fr K a w) {q : Addr} (hp : a.heap.size ≤ q.block) (u : Value) : Fr K a (w.setCell q u) :=
  ⟨h.os, h.tape, h.output, by simpa [World.setCell] using h.size, fun k hk hn => (Below.heap_setCell _ _ _ _ (by omega)).trans (h.block k hk hn)⟩
end
section
variable {n p m a b k c lo N x q : Nat} {A A' A1 A2 : Nat → Kd} {wd wd' wd1 wd2 : Nat → Int} {held : List Int} {cnt : Nat} {f g : Nat → Int} {K : Nat → Prop} {z : Int}
theorem has_of (hx : roomN A x ≠ 0) (hq : (q : Int) < hS (wd x)) : hasB A wd x q = true := by
  have hr : roomI A (x : Int) ≠ 0 := by unfold roomI; rw [if_pos (by omega), Int.toNat_natCast]; exact hx
  unfold hasB sizI
  rw [if_pos hr, Int.toNat_natCast]
  simp; omega
theorem get_no {z k : Int} (h : roomI A z = 0) : getI A wd z k = 0 := by
  have : hasB A wd z k = false := by
    unfold hasB sizI
    rw [if_neg (fun x => x h)]
    simp
  unfold getI
  rw [this]
  simp
theorem room_zero (hI : Inv n A) : roomI A 0 = 0 := by
  apply Classical.byContradiction
  intro h
  obtain ⟨x, e, hx⟩ := room_nat h
  have := (room_in hI hx).1
  omega
theorem get_nil (hI : Inv n A) (k : Int) : getI A wd 0 k = 0 := get_no (room_zero hI)
theorem get_in (hx : roomN A x ≠ 0) (hq : (q : Int) < hS (wd x)) : getI A wd x q = wd (x + 1 + q) := by
  unfold getI
  rw [if_pos (has_of hx hq), Int.toNat_natCast, Int.toNat_natCast, show x + (1 + q) = x + 1 + q by omega]
/-- What else there is stays. -/
def Olds (K : Nat → Prop) (A : Nat → Kd) (wd : Nat → Int) (A' : Nat → Kd) (wd' : Nat → Int) : Prop := ∀ x, roomN A x ≠ 0 → ¬ K x → roomN A' x = roomN A x ∧ ∀ y, x ≤ y → y < x + roomN A x → wd' y = wd y
theorem Olds.refl (K : Nat → Prop) (A : Nat → Kd) (wd : Nat → Int) : Olds K A wd A wd := fun _ _ _ => ⟨rfl, fun _ _ _ => rfl⟩
theorem Olds.trans (h1 : Olds K A wd A1 wd1) (h2 : Olds K A1 wd1 A2 wd2) : Olds K A wd A2 wd2 := fun x hx hk => by
  obtain ⟨r1, e1⟩ := h1 x hx hk
  obtain ⟨r2, e2⟩ := h2 x (by rw [r1]; exact hx) hk
  exact ⟨r2.trans r1, fun y h3 h4 => (e2 y h3 (by rw [r1]; exact h4)).trans (e1 y h3 h4)⟩
theorem Olds.goes (K : Nat → Prop) (hI : Inv n A) (hI' : Inv n A') (g : Goes n A m a A') (hm : 0 < m) (ho : ∀ x, x < a ∨ a + roomOfM m ≤ x → wd' x = wd x) : Olds K A wd A' wd' := fun x hx _ => by
  obtain ⟨g0, g1⟩ := room_goes hI g
  have hne : x ≠ a := fun e => hx (by rw [e]; exact g0)
  have hxa := g1 x
  rw [if_neg hne] at hxa
  have hb := g1 a
  rw [if_pos rfl] at hb
  have hge := roomOfM_ge m
  refine ⟨hxa, fun y h1 h2 => ho y ?_⟩
  rcases Nat.lt_or_gt_of_ne hne with hl | hl
  · have := apart hI' hl (by omega) (by omega)
    omega
  · have := apart hI' hl (by omega) (by omega)
    omega
theorem Olds.new (K : Nat → Prop) (hI : Inv n A) (hI' : Inv n A') (g : Goes n A m a A') (hm : 0 < m) (h : Int) : Olds K A wd A' (newW wd a m h) := Olds.goes K hI hI' g hm fun x hx => by
  have hge := roomOfM_ge m
  unfold newW
  rw [upd_ne _ _ (by omega), clear_out hx]
/-- Words of one block are others. -/
theorem Olds.put (hI : Inv n A) (hb : roomN A b ≠ 0) (hK : K b) (ho : ∀ x, x < b ∨ b + roomN A b ≤ x → wd' x = wd x) : Olds K A wd A wd' := fun x hx hk => by
  have hne : x ≠ b := fun e => hk (e ▸ hK)
  refine ⟨rfl, fun y h1 h2 => ho y ?_⟩
  rcases Nat.lt_or_gt_of_ne hne with hl | hl
  · have := apart hI hl hx hb
    omega
  · have := apart hI hl hb hx
    omega
theorem Olds.mono {L : Nat → Prop} (h : Olds K A wd A' wd') (hl : ∀ x, roomN A x ≠ 0 → K x → L x) : Olds L A wd A' wd' := fun x hx hn => h x hx fun hk => hn (hl x hx hk)
theorem newW_room (hI : Inv n A) (g : Goes n A m a A') (hm : 0 < m) : roomN A' a ≠ 0 ∧ m ≤ roomN A' a := by
  have := (room_goes hI g).2 a
  rw [if_pos rfl] at this
  have := roomOfM_ge m
  omega
theorem newW_in {h : Int} (h1 : a < x) (h2 : x < a + m) : newW wd a m h x = 0 := by
  have := roomOfM_ge m
  unfold newW clearW
  rw [upd_ne _ _ (by omega), if_pos (by omega)]
end
section
variable {w0 w w' w1 w2 : World} {B : HB} {n p : Nat} {A A' : Nat → Kd} {wd wd' : Nat → Int} {hv hv1 hv2 : Value} {held : List Int} {cnt : Nat}
theorem HoldT (h : Sp w B n p A wd hv held cnt) (z : Int) (hz : -9223372036854775808 ≤ z ∧ z < 9223372036854775808) (hl : held.length < 900) :
    Calls Tryd.prog 18 #[.pointer (some ⟨p, 0, none⟩), .int .i64 z] w fun e w' => ∃ hv', e = .returned (.tuple #[]) ∧ Sp w' B n p A wd hv' (held ++ [z]) cnt ∧ To B p w hv w' hv' := by
  refine (Hold_any h z hz hl).mono ?_
  rintro e w' ⟨hv', rfl, hs, hF, hg⟩
  exact ⟨hv', rfl, hs, hF, hg⟩
theorem DropT (h : Sp w B n p A wd hv held cnt) (z : Int) (hz : -9223372036854775808 ≤ z ∧ z < 9223372036854775808) :
    Calls Tryd.prog 22 #[.pointer (some ⟨p, 0, none⟩), .int .i64 z] w fun e w' => ∃ hv', e = .returned (.tuple #[]) ∧ Sp w' B n p A wd hv' (held.take (leftN held.length z)) cnt ∧ To B p w hv w' hv' := by
  refine (Drop_any h z hz).mono ?_
  rintro e w' ⟨hv', rfl, hs, hF, hg⟩
  exact ⟨hv', rfl, hs, hF.mono fun k e => .inr (.inl e), fun g e => .inl (by rw [← hg]; exact e)⟩
theorem drop_last (l : List Int) (z : Int) : (l ++ [z]).take (leftN (l ++ [z]).length 1) = l := by
  have : leftN (l ++ [z]).length 1 = l.length := by unfold leftN; simp
  rw [this]; simp
theorem DropL {z : Int} (h : Sp w B n p A wd hv (held ++ [z]) cnt) :
    Calls Tryd.prog 22 #[.pointer (some ⟨p, 0, none⟩), .int .i64 1] w fun e w' => ∃ hv', e = .returned (.tuple #[]) ∧ Sp w' B n p A wd hv' held cnt ∧ To B p w hv w' hv' := by
  have := DropT h 1 (by omega)
  rw [drop_last] at this
  exact this
theorem SetS (h : Sp w B n p A wd hv held cnt) {x : Nat} (q v : Int) (q' : Nat) (e : q = q') (hx : roomN A x ≠ 0) (hq : (q' : Int) < hS (wd x)) :
    Calls Tryd.prog 24 #[.pointer (some ⟨p, 0, none⟩), .int .i64 x, .int .i64 q, .int .i64 v] w fun e w' => e = .returned (.bool true) ∧ Sp w' B n p A (upd wd (x + (1 + q')) v) hv held cnt ∧ To B p w hv w' hv := by
  subst e
  have hb := has_of hx hq
  refine (Set_any h x q' v).mono ?_
  rintro e w' ⟨rfl, hs, hF⟩
  unfold putW at hs
  rw [if_pos hb] at hs
  exact ⟨ret_bool hb, hs, .of (hF.mono fun k hk => .inl hk)⟩
/-- What Make answers. -/
inductive MkV (n : Nat) (A : Nat → Kd) (wd : Nat → Int) (held : List Int) (cnt : Nat) (k s m : Int) (e : Ending) (A' : Nat → Kd) (wd' : Nat → Int) (cnt' : Nat) : Prop
  | yes (a : Nat) (he : e = .returned (.tuple #[.int .i64 (a : Int), .bool true])) (h : MkS n A wd held cnt k s m (.tuple #[.int .i64 (a : Int), .bool true]) A' wd' cnt') (hr : roomN A' a ≠ 0) (hs : hS (wd' a) = s) (hc : cnt' ≤ cnt + 1)
  | no (he : e = .returned (.tuple #[.int .i64 0, .bool false])) (h : MkS n A wd held cnt k s m (.tuple #[.int .i64 0, .bool false]) A' wd' cnt') (hc : cnt' ≤ cnt + 1)
theorem MakeV (h : Sp w B n p A wd hv held cnt) (hc : cnt < 100000) {k s m : Int} (hR : Right k s m) :
    Calls Tryd.prog 19 #[.pointer (some ⟨p, 0, none⟩), .int .i64 k, .int .i64 s, .int .i64 m] w fun e w' => ∃ A' wd' cnt', MkV n A wd held cnt k s m e A' wd' cnt' ∧ Sp w' B n p A' wd' hv held cnt' ∧ To B p w hv w' hv := by
  refine (Make_any h hc k s m).mono ?_
  rintro e w' ⟨v, A', wd', cnt', hm, rfl, hs, hF⟩
  have hm' := hm
  obtain ⟨_, _, hS1, _⟩ := hdr_open hR
  cases hm with
  | no hr => exact absurd hR hr
  | at_ hr a _ g => exact ⟨_, _, _, .yes a rfl hm' (newW_room h.inv g (by omega)).1 ((congrArg hS newW_at).trans hS1) (by omega), hs, .of hF⟩
  | gc hr hn rb A1 hg a _ g => exact ⟨_, _, _, .yes a rfl hm' (newW_room hg.inv g (by omega)).1 ((congrArg hS newW_at).trans hS1) (by omega), hs, .of hF⟩
  | full hr hn rb A1 hg g => exact ⟨_, _, _, .no rfl hm' (by omega), hs, .of hF⟩
end
section
variable {w0 w w' w1 w2 : World} {B : HB} {n p : Nat} {A A' A1 A2 : Nat → Kd} {wd wd' wd1 wd2 : Nat → Int} {hv hv1 hv2 : Value} {held : List Int} {cnt cnt' : Nat} {a b lo N c k : Nat} {f : Nat → Int} {z : Int}
theorem mks_to {k s m : Int} {v : Value} (h : MkS n A wd held cnt k s m v A' wd' cnt') (hR : Right k s m) (hp : ¬ NoPlace n A (1 + s.toNat)) : ∃ a : Nat, v = .tuple #[.int .i64 (a : Int), .bool true] ∧ Goes n A (1 + s.toNat) a A' ∧ wd' = newW wd a (1 + s.toNat) (hdr k s m) ∧ cnt' = cnt := by
  cases h with
  | no hr => exact absurd hR hr
  | at_ hr a _ g => exact ⟨a, rfl, g, rfl, rfl⟩
  | gc hr hn => exact absurd hn hp
  | full hr hn => exact absurd hn hp
theorem tup_inj {x y : Int} {c d : Bool} (h : Value.tuple #[.int .i64 x, .bool c] = .tuple #[.int .i64 y, .bool d]) : x = y ∧ c = d := by
  simp at h
  exact h
theorem Olds.but {L : Nat → Prop} (h1 : Olds L A wd A1 wd1) (h2 : Olds (· = b) A1 wd1 A2 wd2) (nb : roomN A b = 0) : Olds L A wd A2 wd2 := by
  have h3 : Olds (fun x => L x ∨ x = b) A wd A2 wd2 := (h1.mono fun _ _ x => .inl x).trans (h2.mono fun _ _ x => .inr x)
  exact h3.mono fun x hx e => e.elim id fun e => absurd (e ▸ nb) hx
end
section
variable {w0 w w' w1 w2 : World} {B : HB} {n p m d q : Nat} {A A' A1 A2 : Nat → Kd} {wd wd' wd1 wd2 : Nat → Int} {hv hv1 hv2 : Value} {held : List Int} {cnt cnt' : Nat} {a b lo N c k : Nat} {f : Nat → Int} {z : Int}
/-- The free spans are the last ones. -/
def Suf (n : Nat) (A : Nat → Kd) (c : Nat) : Prop := ∃ h, 1 ≤ h ∧ h ≤ 1 + c ∧ ∀ t, A t = .free ↔ h ≤ t ∧ t < n
theorem Suf.start (n : Nat) : Suf n (emptyA n) 0 := by
  refine ⟨1, by omega, by omega, fun t => ?_⟩
  unfold emptyA
  split
  · simp; omega
  · simp; omega
theorem Suf.place (h : Suf n A c) (hm : (m + 63) / 64 ≤ d) (hd : 1 ≤ d) (hn : 1 + c + d ≤ n) : ¬ NoPlace n A m := by
  obtain ⟨q, h1, h2, h3⟩ := h
  rintro (⟨_, _, k3⟩ | ⟨k1, k2⟩)
  · exact k3 q ((h3 q).2 (by omega))
  · obtain ⟨t, k3, k4, k5⟩ := k2 q (by omega)
    exact k5 ((h3 t).2 (by omega))
theorem Suf.goes (h : Suf n A c) (g : Goes n A m a A') (hmd : (m + 63) / 64 ≤ d) (hd : 1 ≤ d) : Suf n A' (c + d) := by
  obtain ⟨h, h0, h00, hf⟩ := h
  cases g with
  | op s u hm hs e hn hl =>
    refine ⟨h, by omega, by omega, fun t => ?_⟩
    by_cases et : t = s
    · subst et
      have := hf t
      rw [e] at this
      rw [upd_same]
      simp at this ⊢
      exact this
    · rw [upd_ne _ _ et]; exact hf t
  | free s hm hs e hl hn =>
    have h1 := (hf s).1 e
    have h2 : s = h := by
      by_cases hh : s = h
      · exact hh
      · exact absurd ((hf h).2 (by omega)) (hl h (by omega))
    subst h2
    refine ⟨s + 1, by omega, by omega, fun t => ?_⟩
    by_cases et : t = s
    · subst et
      rw [upd_same]
      simp; omega
    · rw [upd_ne _ _ et, hf t]; omega
  | row f k hm hk hfn e hl =>
    have h1 := (hf f).1 (e f (by omega) (by omega))
    have h2 : f = h := by
      by_cases hh : f = h
      · exact hh
      · obtain ⟨t, k1, k2, k3⟩ := hl h (by omega)
        exact absurd ((hf t).2 (by omega)) k3
    subst h2
    refine ⟨f + k, by omega, by omega, fun t => ?_⟩
    show (if t = f then Kd.head k else if f < t ∧ t < f + k then Kd.tail else A t) = .free ↔ _
    by_cases e1 : t = f
    · rw [if_pos e1]; simp; omega
    · rw [if_neg e1]
      by_cases e2 : f < t ∧ t < f + k
      · rw [if_pos e2]; simp; omega
      · rw [if_neg e2, hf t]; omega
theorem Sp.b_lt (h : Sp w B n p A wd hv held cnt) {x : Nat} (hx : roomN A x ≠ 0) : x < 100000 := by
  have := (room_in h.inv hx).2.1
  have := h.hi
  omega
end
section
variable {w0 w w' w1 w2 : World} {B : HB} {n p m d q : Nat} {A A' A1 A2 : Nat → Kd} {wd wd' wd1 wd2 : Nat → Int} {hv hv1 hv2 : Value} {held : List Int} {cnt cnt' : Nat} {a b lo N c k x : Nat} {f : Nat → Int} {z y : Int} {rb : Nat → Bool}
theorem kidsTo_mem : ∀ k : Nat, y ∈ kidsTo A wd x k ↔ ∃ j, j < k ∧ tellsB (hK (wd x)) (hM (wd x)) j = true ∧ refB A (wd (x + 1 + j)) = true ∧ y = wd (x + 1 + j)
  | 0 => by simp [kidsTo]
  | k + 1 => by
    rw [kidsTo, List.mem_append, kidsTo_mem k]
    constructor
    · rintro (⟨j, hj, h⟩ | h)
      · exact ⟨j, by omega, h⟩
      · split at h
        · rename_i hc
          rw [Bool.and_eq_true] at hc
          have hy : y = wd (x + (k + 1)) := by simpa using h
          rw [show x + (k + 1) = x + 1 + k by omega] at hy hc
          exact ⟨k, by omega, hc.1, hc.2, hy⟩
        · simp at h
    · rintro ⟨j, hj, h1, h2, h3⟩
      by_cases e : j = k
      · subst e
        refine .inr ?_
        rw [show x + (j + 1) = x + 1 + j by omega, h1, h2]
        simp [h3]
      · exact .inl ⟨j, by omega, h1, h2, h3⟩
theorem kids_mem (hx : roomN A x ≠ 0) (hH : IsH (wd x)) (hs : hS (wd x) < roomN A x) : y ∈ kids A wd (x : Int) ↔ ∃ j : Nat, (j : Int) < hS (wd x) ∧ tellsB (hK (wd x)) (hM (wd x)) j = true ∧ refB A (wd (x + 1 + j)) = true ∧ y = wd (x + 1 + j) := by
  have hr : roomI A (x : Int) = roomN A x := by unfold roomI; rw [if_pos (by omega), Int.toNat_natCast]
  unfold kids
  rw [Int.toNat_natCast, hr, if_pos ⟨hx, hH⟩, kidsTo_mem]
  constructor
  · rintro ⟨j, hj, h⟩
    exact ⟨j, by omega, h⟩
  · rintro ⟨j, hj, h⟩
    exact ⟨j, by omega, h⟩
end
end Go.Proofs.YtogjblikljggbaaDoor
