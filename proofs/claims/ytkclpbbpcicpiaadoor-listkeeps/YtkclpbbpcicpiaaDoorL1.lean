/- Slices and arrays in a space, plainly. -/
import Derived.Test.YtkclpbbpcicpiaaDoorL0
namespace Go.Proofs.YtkclpbbpcicpiaaDoor
open Go.RowKit Go.Proofs.YtkclpbbpcicpiaaDoor.Hp
variable {n p m a b k c lo N x q : Nat} {A A' A1 A2 : Nat → Kd} {wd wd' wd1 wd2 : Nat → Int} {held : List Int} {cnt : Nat} {f g : Nat → Int} {K : Nat → Prop} {z : Int}
theorem has_of (hx : roomN A x ≠ 0) (hq : (q : Int) < hS (wd x)) : hasB A wd x q = true := by
  have hr : roomI A (x : Int) ≠ 0 := by unfold roomI; rw [if_pos (by omega), Int.toNat_natCast]; exact hx
  unfold hasB sizI
  rw [if_pos hr, Int.toNat_natCast]
  simp; omega
theorem get_no {z k : Int} (h : roomI A z = 0) : getI A wd z k = 0 := by
  have : hasB A wd z k = false := by
    unfold hasB sizI
    rw [if_neg (fun x => x h)]
    simp
  unfold getI
  rw [this]
  simp
theorem room_zero (hI : Inv n A) : roomI A 0 = 0 := by
  apply Classical.byContradiction
  intro h
  obtain ⟨x, e, hx⟩ := room_nat h
  have := (room_in hI hx).1
  omega
theorem get_nil (hI : Inv n A) (k : Int) : getI A wd 0 k = 0 := get_no (room_zero hI)
/-- The words of a slice's block. -/
def slW (wd : Nat → Int) (a : Nat) (x0 x1 x2 x3 : Int) : Nat → Int := upd (upd (upd (upd wd (a + (1 + 0)) x0) (a + (1 + 1)) x1) (a + (1 + 2)) x2) (a + (1 + 3)) x3
theorem slW_out {x0 x1 x2 x3 : Int} (h : x < a + 1 ∨ a + 5 ≤ x) : slW wd a x0 x1 x2 x3 x = wd x := by
  unfold slW
  rw [upd_ne _ _ (by omega), upd_ne _ _ (by omega), upd_ne _ _ (by omega), upd_ne _ _ (by omega)]
theorem slW_0 {x0 x1 x2 x3 : Int} : slW wd a x0 x1 x2 x3 (a + 1) = x0 := by
  unfold slW
  rw [upd_ne _ _ (by omega), upd_ne _ _ (by omega), upd_ne _ _ (by omega), show a + (1 + 0) = a + 1 by omega, upd_same]
theorem slW_1 {x0 x1 x2 x3 : Int} : slW wd a x0 x1 x2 x3 (a + 2) = x1 := by
  unfold slW
  rw [upd_ne _ _ (by omega), upd_ne _ _ (by omega), show a + (1 + 1) = a + 2 by omega, upd_same]
theorem slW_2 {x0 x1 x2 x3 : Int} : slW wd a x0 x1 x2 x3 (a + 3) = x2 := by
  unfold slW
  rw [upd_ne _ _ (by omega), show a + (1 + 2) = a + 3 by omega, upd_same]
theorem slW_3 {x0 x1 x2 x3 : Int} : slW wd a x0 x1 x2 x3 (a + 4) = x3 := by
  unfold slW
  rw [show a + (1 + 3) = a + 4 by omega, upd_same]
/-- A slice's block. -/
structure SlAt (A : Nat → Kd) (wd : Nat → Int) (a b lo N c : Nat) : Prop where
  room : roomN A a ≠ 0
  big : 4 < roomN A a
  hd : wd a = hdr 4 4 1
  w0 : wd (a + 1) = b
  w1 : wd (a + 2) = lo
  w2 : wd (a + 3) = N
  w3 : wd (a + 4) = c
/-- An array. -/
structure ArAt (A : Nat → Kd) (wd : Nat → Int) (b k c : Nat) (f : Nat → Int) : Prop where
  room : roomN A b ≠ 0
  big : c < roomN A b
  kin : k = 1 ∨ k = 2
  le : c ≤ 16384
  hd : wd b = hdr k c 0
  it : ∀ j, j < c → wd (b + 1 + j) = f j
theorem sl_hdr : IsH (hdr 4 4 1) ∧ hK (hdr 4 4 1) = 4 ∧ hS (hdr 4 4 1) = 4 ∧ hM (hdr 4 4 1) = 1 := hdr_open (by unfold Right; omega)
theorem ar_right (hk : k = 1 ∨ k = 2) (hc : c ≤ 16384) : Right (k : Int) (c : Int) 0 := by unfold Right; omega
theorem ar_hdr (hk : k = 1 ∨ k = 2) (hc : c ≤ 16384) : IsH (hdr k c 0) ∧ hK (hdr k c 0) = k ∧ hS (hdr k c 0) = c ∧ hM (hdr k c 0) = 0 := hdr_open (ar_right hk hc)
theorem SlAt.sz (h : SlAt A wd a b lo N c) : hS (wd a) = 4 := by rw [h.hd]; exact sl_hdr.2.2.1
theorem ArAt.sz (h : ArAt A wd b k c f) : hS (wd b) = c := by rw [h.hd]; exact (ar_hdr h.kin h.le).2.2.1
theorem get_in (hx : roomN A x ≠ 0) (hq : (q : Int) < hS (wd x)) : getI A wd x q = wd (x + 1 + q) := by
  unfold getI
  rw [if_pos (has_of hx hq), Int.toNat_natCast, Int.toNat_natCast, show x + (1 + q) = x + 1 + q by omega]
theorem SlAt.get (h : SlAt A wd a b lo N c) : getI A wd a 0 = b ∧ getI A wd a 1 = lo ∧ getI A wd a 2 = N ∧ getI A wd a 3 = c := by
  have hs := h.sz
  have e0 := get_in (wd := wd) (q := 0) h.room (by rw [hs]; decide)
  have e1 := get_in (wd := wd) (q := 1) h.room (by rw [hs]; decide)
  have e2 := get_in (wd := wd) (q := 2) h.room (by rw [hs]; decide)
  have e3 := get_in (wd := wd) (q := 3) h.room (by rw [hs]; decide)
  exact ⟨e0.trans h.w0, e1.trans h.w1, e2.trans h.w2, e3.trans h.w3⟩
theorem ArAt.get (h : ArAt A wd b k c f) {j : Nat} (hj : j < c) : getI A wd b j = f j := by
  rw [get_in h.room (by rw [h.sz]; omega), h.it j hj]
/-- What else there is stays. -/
def Olds (K : Nat → Prop) (A : Nat → Kd) (wd : Nat → Int) (A' : Nat → Kd) (wd' : Nat → Int) : Prop := ∀ x, roomN A x ≠ 0 → ¬ K x → roomN A' x = roomN A x ∧ ∀ y, x ≤ y → y < x + roomN A x → wd' y = wd y
theorem Olds.refl (K : Nat → Prop) (A : Nat → Kd) (wd : Nat → Int) : Olds K A wd A wd := fun _ _ _ => ⟨rfl, fun _ _ _ => rfl⟩
theorem Olds.trans (h1 : Olds K A wd A1 wd1) (h2 : Olds K A1 wd1 A2 wd2) : Olds K A wd A2 wd2 := fun x hx hk => by
  obtain ⟨r1, e1⟩ := h1 x hx hk
  obtain ⟨r2, e2⟩ := h2 x (by rw [r1]; exact hx) hk
  exact ⟨r2.trans r1, fun y h3 h4 => (e2 y h3 (by rw [r1]; exact h4)).trans (e1 y h3 h4)⟩
theorem Olds.goes (K : Nat → Prop) (hI : Inv n A) (hI' : Inv n A') (g : Goes n A m a A') (hm : 0 < m) (ho : ∀ x, x < a ∨ a + roomOfM m ≤ x → wd' x = wd x) : Olds K A wd A' wd' := fun x hx _ => by
  obtain ⟨g0, g1⟩ := room_goes hI g
  have hne : x ≠ a := fun e => hx (by rw [e]; exact g0)
  have hxa := g1 x
  rw [if_neg hne] at hxa
  have hb := g1 a
  rw [if_pos rfl] at hb
  have hge := roomOfM_ge m
  refine ⟨hxa, fun y h1 h2 => ho y ?_⟩
  rcases Nat.lt_or_gt_of_ne hne with hl | hl
  · have := apart hI' hl (by omega) (by omega)
    omega
  · have := apart hI' hl (by omega) (by omega)
    omega
theorem Olds.new (K : Nat → Prop) (hI : Inv n A) (hI' : Inv n A') (g : Goes n A m a A') (hm : 0 < m) (h : Int) : Olds K A wd A' (newW wd a m h) := Olds.goes K hI hI' g hm fun x hx => by
  have hge := roomOfM_ge m
  unfold newW
  rw [upd_ne _ _ (by omega), clear_out hx]
/-- Words of one block are others. -/
theorem Olds.put (hI : Inv n A) (hb : roomN A b ≠ 0) (hK : K b) (ho : ∀ x, x < b ∨ b + roomN A b ≤ x → wd' x = wd x) : Olds K A wd A wd' := fun x hx hk => by
  have hne : x ≠ b := fun e => hk (e ▸ hK)
  refine ⟨rfl, fun y h1 h2 => ho y ?_⟩
  rcases Nat.lt_or_gt_of_ne hne with hl | hl
  · have := apart hI hl hx hb
    omega
  · have := apart hI hl hb hx
    omega
theorem Olds.mono {L : Nat → Prop} (h : Olds K A wd A' wd') (hl : ∀ x, roomN A x ≠ 0 → K x → L x) : Olds L A wd A' wd' := fun x hx hn => h x hx fun hk => hn (hl x hx hk)
theorem SlAt.keep (h : SlAt A wd a b lo N c) (ho : Olds K A wd A' wd') (hk : ¬ K a) : SlAt A' wd' a b lo N c := by
  obtain ⟨r, e⟩ := ho a h.room hk
  have hb := h.big
  exact ⟨by rw [r]; exact h.room, by rw [r]; exact hb, by rw [e a (by omega) (by omega)]; exact h.hd, by rw [e _ (by omega) (by omega)]; exact h.w0, by rw [e _ (by omega) (by omega)]; exact h.w1, by rw [e _ (by omega) (by omega)]; exact h.w2, by rw [e _ (by omega) (by omega)]; exact h.w3⟩
theorem ArAt.keep (h : ArAt A wd b k c f) (ho : Olds K A wd A' wd') (hk : ¬ K b) : ArAt A' wd' b k c f := by
  obtain ⟨r, e⟩ := ho b h.room hk
  have hb := h.big
  exact ⟨by rw [r]; exact h.room, by rw [r]; exact hb, h.kin, h.le, by rw [e b (by omega) (by omega)]; exact h.hd, fun j hj => by rw [e _ (by omega) (by omega)]; exact h.it j hj⟩
theorem ArAt.ext (h : ArAt A wd b k c f) (e : ∀ j, j < c → f j = g j) : ArAt A wd b k c g := ⟨h.room, h.big, h.kin, h.le, h.hd, fun j hj => (h.it j hj).trans (e j hj)⟩
theorem SlAt.ne (h : SlAt A wd a b lo N c) (k' : ArAt A wd x k q f) : a ≠ x := by
  rintro rfl
  have h1 := h.sz
  have h2 : hK (wd a) = 4 := by rw [h.hd]; exact sl_hdr.2.1
  have h3 : hK (wd a) = k := by rw [k'.hd]; exact (ar_hdr k'.kin k'.le).2.1
  have := k'.kin
  omega
/-- A new array is of zeros. -/
theorem newW_room (hI : Inv n A) (g : Goes n A m a A') (hm : 0 < m) : roomN A' a ≠ 0 ∧ m ≤ roomN A' a := by
  have := (room_goes hI g).2 a
  rw [if_pos rfl] at this
  have := roomOfM_ge m
  omega
theorem newW_in {h : Int} (h1 : a < x) (h2 : x < a + m) : newW wd a m h x = 0 := by
  have := roomOfM_ge m
  unfold newW clearW
  rw [upd_ne _ _ (by omega), if_pos (by omega)]
theorem ar_new (hk : k = 1 ∨ k = 2) (hc : c ≤ 16384) (hI : Inv n A) (g : Goes n A (1 + c) b A') (wd : Nat → Int) : ArAt A' (newW wd b (1 + c) (hdr k c 0)) b k c (fun _ => 0) := by
  obtain ⟨r1, r2⟩ := newW_room hI g (by omega)
  exact ⟨r1, by omega, hk, hc, newW_at, fun j hj => newW_in (by omega) (by omega)⟩
theorem sl_new (hI : Inv n A) (g : Goes n A 5 a A') (wd : Nat → Int) (b lo N c : Nat) : SlAt A' (slW (newW wd a 5 (hdr 4 4 1)) a b lo N c) a b lo N c := by
  obtain ⟨r1, r2⟩ := newW_room hI g (by omega)
  exact ⟨r1, by omega, by rw [slW_out (by omega)]; exact newW_at, slW_0, slW_1, slW_2, slW_3⟩
theorem sl_olds (K : Nat → Prop) (hI : Inv n A) (hI' : Inv n A') (g : Goes n A 5 a A') (wd : Nat → Int) (x0 x1 x2 x3 : Int) : Olds K A wd A' (slW (newW wd a 5 (hdr 4 4 1)) a x0 x1 x2 x3) := Olds.goes K hI hI' g (by omega) fun x hx => by
  have hge := roomOfM_ge 5
  rw [slW_out (by omega)]
  unfold newW
  rw [upd_ne _ _ (by omega), clear_out hx]
/-- Items written into an array. -/
def wrW (wd : Nat → Int) (o : Nat) (zs : List Int) (k : Nat) : Nat → Int := fun x => if o ≤ x ∧ x < o + k then zs.getD (x - o) 0 else wd x
theorem wrW_zero (wd : Nat → Int) (o : Nat) (zs : List Int) : wrW wd o zs 0 = wd := by
  funext x
  unfold wrW
  rw [if_neg (by omega)]
theorem wrW_succ (wd : Nat → Int) (o : Nat) (zs : List Int) (k : Nat) : upd (wrW wd o zs k) (o + k) (zs.getD k 0) = wrW wd o zs (k + 1) := by
  funext x
  by_cases e : x = o + k
  · subst e
    rw [upd_same]
    unfold wrW
    rw [if_pos (by omega), show o + k - o = k by omega]
  · rw [upd_ne _ _ e]
    unfold wrW
    by_cases e2 : o ≤ x ∧ x < o + k
    · rw [if_pos e2, if_pos (by omega)]
    · rw [if_neg e2, if_neg (by omega)]
theorem wrW_out {o : Nat} {zs : List Int} (h : x < o ∨ o + k ≤ x) : wrW wd o zs k x = wd x := by
  unfold wrW
  rw [if_neg (by omega)]
theorem ArAt.wr (h : ArAt A wd b k c f) (lo : Nat) (zs : List Int) : ArAt A (wrW wd (b + 1 + lo) zs zs.length) b k c (fun j => if lo ≤ j ∧ j < lo + zs.length then zs.getD (j - lo) 0 else f j) := by
  refine ⟨h.room, h.big, h.kin, h.le, by rw [wrW_out (by omega)]; exact h.hd, fun j hj => ?_⟩
  unfold wrW
  by_cases e : lo ≤ j ∧ j < lo + zs.length
  · rw [if_pos e, if_pos (by omega), show b + 1 + j - (b + 1 + lo) = j - lo by omega]
  · rw [if_neg e, if_neg (by omega)]
    exact h.it j hj
theorem ArAt.wr_olds (h : ArAt A wd b k c f) (hI : Inv n A) (hK : K b) (lo : Nat) (zs : List Int) (hl : lo + zs.length ≤ c) : Olds K A wd A (wrW wd (b + 1 + lo) zs zs.length) := by
  have := h.big
  exact Olds.put hI h.room hK fun x hx => wrW_out (by omega)
end Go.Proofs.YtkclpbbpcicpiaaDoor
