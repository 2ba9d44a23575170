/- A channel's block, plainly. -/
import Derived.Test.YtogjblikljggbaaDoorM0
namespace Go.Proofs.YtogjblikljggbaaDoor
open Go.RowKit Go.Proofs.YtogjblikljggbaaDoor.Hp
variable {n p m a P b cl : Nat} {r : Bool} {A A' A1 : Nat → Kd} {wd wd' wd1 : Nat → Int} {held : List Int} {cnt : Nat} {l : List Int} {v y : Int} {K : Nat → Prop} {rb : Nat → Bool}
/-- The kind, the mask and the header of a channel. -/
def chK (r : Bool) : Int := if r = true then 3 else 1
def chM (r : Bool) : Int := if r = true then 4 else 0
theorem ch_right (hP : P ≤ 1024) (r : Bool) : Right (chK r) (4 + (P : Int)) (chM r) := by
  unfold chK chM Right
  cases r <;> simp <;> omega
theorem ch_hdr (hP : P ≤ 1024) (r : Bool) : IsH (hdr (chK r) (4 + (P : Int)) (chM r)) ∧ hK (hdr (chK r) (4 + (P : Int)) (chM r)) = chK r ∧ hS (hdr (chK r) (4 + (P : Int)) (chM r)) = 4 + P ∧ hM (hdr (chK r) (4 + (P : Int)) (chM r)) = chM r := hdr_open (ch_right hP r)
/-- A channel of P places that has the items l. -/
structure ChAt (A : Nat → Kd) (wd : Nat → Int) (a P : Nat) (r : Bool) (cl b : Nat) (l : List Int) : Prop where
  room : roomN A a ≠ 0
  big : 4 + P < roomN A a
  hd : wd a = hdr (chK r) (4 + (P : Int)) (chM r)
  le : P ≤ 1024
  w0 : wd (a + 1 + 0) = cl
  w1 : wd (a + 1 + 1) = b
  w2 : wd (a + 1 + 2) = l.length
  w3 : wd (a + 1 + 3) = P
  cnt : l.length ≤ P
  beg : b < P ∨ b = 0
  it : ∀ k, k < l.length → wd (a + 1 + (4 + (b + k) % P)) = l.getD k 0
  nul : ∀ j, j < P → wd (a + 1 + (4 + j)) = 0 ∨ ∃ k, k < l.length ∧ j = (b + k) % P
theorem ChAt.sz (h : ChAt A wd a P r cl b l) : hS (wd a) = 4 + (P : Int) := by rw [h.hd]; exact (ch_hdr h.le r).2.2.1
theorem ChAt.get (h : ChAt A wd a P r cl b l) : getI A wd a 0 = cl ∧ getI A wd a 1 = b ∧ getI A wd a 2 = l.length ∧ getI A wd a 3 = P := by
  have hs := h.sz
  have e0 := get_in (wd := wd) (q := 0) h.room (by rw [hs]; omega)
  have e1 := get_in (wd := wd) (q := 1) h.room (by rw [hs]; omega)
  have e2 := get_in (wd := wd) (q := 2) h.room (by rw [hs]; omega)
  have e3 := get_in (wd := wd) (q := 3) h.room (by rw [hs]; omega)
  exact ⟨e0.trans h.w0, e1.trans h.w1, e2.trans h.w2, e3.trans h.w3⟩
theorem ChAt.siz (h : ChAt A wd a P r cl b l) : sizI A wd a = 4 + (P : Int) := by
  have hr : roomI A (a : Int) ≠ 0 := by unfold roomI; rw [if_pos (by omega), Int.toNat_natCast]; exact h.room
  unfold sizI
  rw [if_pos hr, Int.toNat_natCast, h.sz]
theorem ChAt.getIt (h : ChAt A wd a P r cl b l) {k : Nat} (hk : k < l.length) : getI A wd a ((4 + (b + k) % P : Nat) : Int) = l.getD k 0 := by
  have hP : 0 < P := by have := h.cnt; omega
  have := Nat.mod_lt (b + k) hP
  rw [get_in h.room (by rw [h.sz]; omega), h.it k hk]
theorem siz_nil (hI : Inv n A) : sizI A wd 0 = 0 := by
  unfold sizI
  rw [if_neg (fun x => x (room_zero hI))]
theorem has_nil (hI : Inv n A) (k : Int) : hasB A wd 0 k = false := by
  unfold hasB
  rw [siz_nil hI]
  simp
theorem md {b k P : Nat} (hb : b < P) (hk : k ≤ P) : (b + k) % P = if b + k < P then b + k else b + k - P := by
  split
  · exact Nat.mod_eq_of_lt (by assumption)
  · rw [Nat.mod_eq_sub_mod (by omega)]
    exact Nat.mod_eq_of_lt (by omega)
theorem md_ne {b k i P : Nat} (hb : b < P) (hk : k < P) (hi : i < P) (hne : k ≠ i) : (b + k) % P ≠ (b + i) % P := by
  rw [md hb (by omega), md hb (by omega)]
  split <;> split <;> omega
theorem ChAt.bl (h : ChAt A wd a P r cl b l) (hP : 0 < P) : b < P := by rcases h.beg with e | e <;> omega
/-- What Push writes. -/
def puW (wd : Nat → Int) (a P b N : Nat) (v : Int) : Nat → Int := upd (upd wd (a + (1 + (4 + (b + N) % P))) v) (a + (1 + 2)) ((N : Int) + 1)
theorem ChAt.push (h : ChAt A wd a P r cl b l) (hl : l.length < P) (v : Int) : ChAt A (puW wd a P b l.length v) a P r cl b (l ++ [v]) := by
  have hb := h.bl (by omega)
  have hm := Nat.mod_lt (b + l.length) (show 0 < P by omega)
  unfold puW
  refine ⟨h.room, h.big, ?_, h.le, ?_, ?_, ?_, ?_, by simp; omega, h.beg, ?_, ?_⟩
  · rw [upd_ne _ _ (by omega), upd_ne _ _ (by omega)]; exact h.hd
  · rw [upd_ne _ _ (by omega), upd_ne _ _ (by omega)]; exact h.w0
  · rw [upd_ne _ _ (by omega), upd_ne _ _ (by omega)]; exact h.w1
  · rw [show a + 1 + 2 = a + (1 + 2) by omega, upd_same]; simp
  · rw [upd_ne _ _ (by omega), upd_ne _ _ (by omega)]; exact h.w3
  · intro k hk
    have hk' : k < l.length + 1 := by simpa using hk
    have hm2 := Nat.mod_lt (b + k) (show 0 < P by omega)
    by_cases e : k = l.length
    · subst e
      rw [upd_ne _ _ (by omega), show a + 1 + (4 + (b + l.length) % P) = a + (1 + (4 + (b + l.length) % P)) by omega, upd_same]
      simp [List.getD]
    · have := md_ne (k := k) (i := l.length) hb (by omega) (by omega) e
      rw [upd_ne _ _ (by omega), upd_ne _ _ (by omega), h.it k (by omega)]
      simp [List.getD, List.getElem?_append_left (show k < l.length by omega)]
  · intro j hj
    by_cases e : j = (b + l.length) % P
    · exact .inr ⟨l.length, by simp, e⟩
    · rw [upd_ne _ _ (by omega), upd_ne _ _ (by omega)]
      rcases h.nul j hj with e2 | ⟨k, hk, e2⟩
      · exact .inl e2
      · exact .inr ⟨k, by simp; omega, e2⟩
/-- What Shift writes. -/
def shW (wd : Nat → Int) (a P b N : Nat) : Nat → Int := upd (upd (upd wd (a + (1 + (4 + (b + 0) % P))) 0) (a + (1 + 1)) (((b + 1) % P : Nat) : Int)) (a + (1 + 2)) ((N : Int) - 1)
theorem ChAt.shift {x : Int} (h : ChAt A wd a P r cl b (x :: l)) : ChAt A (shW wd a P b (l.length + 1)) a P r cl ((b + 1) % P) l := by
  have hc := h.cnt
  simp only [List.length_cons] at hc
  have hb := h.bl (by omega)
  have hm := Nat.mod_lt (b + 0) (show 0 < P by omega)
  have hm1 := Nat.mod_lt (b + 1) (show 0 < P by omega)
  unfold shW
  refine ⟨h.room, h.big, ?_, h.le, ?_, ?_, ?_, ?_, by omega, .inl hm1, ?_, ?_⟩
  · rw [upd_ne _ _ (by omega), upd_ne _ _ (by omega), upd_ne _ _ (by omega)]; exact h.hd
  · rw [upd_ne _ _ (by omega), upd_ne _ _ (by omega), upd_ne _ _ (by omega)]; exact h.w0
  · rw [upd_ne _ _ (by omega), show a + 1 + 1 = a + (1 + 1) by omega, upd_same]
  · rw [show a + 1 + 2 = a + (1 + 2) by omega, upd_same]; omega
  · rw [upd_ne _ _ (by omega), upd_ne _ _ (by omega), upd_ne _ _ (by omega)]; exact h.w3
  · intro k hk
    have e1 : ((b + 1) % P + k) % P = (b + (k + 1)) % P := by rw [Nat.mod_add_mod]; congr 1; omega
    have hm2 := Nat.mod_lt (b + (k + 1)) (show 0 < P by omega)
    have := md_ne (k := k + 1) (i := 0) hb (by omega) (by omega) (by omega)
    rw [e1, upd_ne _ _ (by omega), upd_ne _ _ (by omega), upd_ne _ _ (by omega), h.it (k + 1) (by simp; omega)]
    simp [List.getD]
  · intro j hj
    by_cases e : j = (b + 0) % P
    · refine .inl ?_
      rw [upd_ne _ _ (by omega), upd_ne _ _ (by omega), show a + 1 + (4 + j) = a + (1 + (4 + (b + 0) % P)) by omega, upd_same]
    · rw [upd_ne _ _ (by omega), upd_ne _ _ (by omega), upd_ne _ _ (by omega)]
      rcases h.nul j hj with e2 | ⟨k, hk, e2⟩
      · exact .inl e2
      · have hk0 : k ≠ 0 := fun h0 => e (by rw [e2, h0])
        refine .inr ⟨k - 1, by simp at hk; omega, ?_⟩
        rw [Nat.mod_add_mod, e2]; congr 1; omega
theorem ChAt.close (h : ChAt A wd a P r cl b l) : ChAt A (upd wd (a + (1 + 0)) 1) a P r 1 b l := by
  refine ⟨h.room, h.big, ?_, h.le, ?_, ?_, ?_, ?_, h.cnt, h.beg, ?_, ?_⟩
  · rw [upd_ne _ _ (by omega)]; exact h.hd
  · rw [show a + 1 + 0 = a + (1 + 0) by omega, upd_same]; rfl
  · rw [upd_ne _ _ (by omega)]; exact h.w1
  · rw [upd_ne _ _ (by omega)]; exact h.w2
  · rw [upd_ne _ _ (by omega)]; exact h.w3
  · intro k hk; rw [upd_ne _ _ (by omega)]; exact h.it k hk
  · intro j hj; rw [upd_ne _ _ (by omega)]; exact h.nul j hj
theorem ChAt.put_olds (h : ChAt A wd a P r cl b l) (hI : Inv n A) (ho : ∀ x, x ≤ a ∨ a + 5 + P ≤ x → wd' x = wd x) : Olds (· = a) A wd A wd' := by
  have := h.big
  exact Olds.put hI h.room rfl fun x hx => ho x (by omega)
theorem ChAt.push_olds (h : ChAt A wd a P r cl b l) (hI : Inv n A) (hl : l.length < P) (v : Int) : Olds (· = a) A wd A (puW wd a P b l.length v) := by
  have hm := Nat.mod_lt (b + l.length) (show 0 < P by omega)
  exact h.put_olds hI fun x hx => by unfold puW; rw [upd_ne _ _ (by omega), upd_ne _ _ (by omega)]
theorem ChAt.shift_olds {x : Int} (h : ChAt A wd a P r cl b (x :: l)) (hI : Inv n A) : Olds (· = a) A wd A (shW wd a P b (l.length + 1)) := by
  have hc := h.cnt
  simp only [List.length_cons] at hc
  have hm := Nat.mod_lt (b + 0) (show 0 < P by omega)
  exact h.put_olds hI fun x hx => by unfold shW; rw [upd_ne _ _ (by omega), upd_ne _ _ (by omega), upd_ne _ _ (by omega)]
theorem ChAt.close_olds (h : ChAt A wd a P r cl b l) (hI : Inv n A) : Olds (· = a) A wd A (upd wd (a + (1 + 0)) 1) :=
  h.put_olds hI fun x hx => by rw [upd_ne _ _ (by omega)]
theorem ChAt.keep (h : ChAt A wd a P r cl b l) (ho : Olds K A wd A' wd') (hk : ¬ K a) : ChAt A' wd' a P r cl b l := by
  obtain ⟨e0, e⟩ := ho a h.room hk
  have hb := h.big
  refine ⟨by rw [e0]; exact h.room, by rw [e0]; exact hb, by rw [e a (by omega) (by omega)]; exact h.hd, h.le, by rw [e _ (by omega) (by omega)]; exact h.w0, by rw [e _ (by omega) (by omega)]; exact h.w1, by rw [e _ (by omega) (by omega)]; exact h.w2, by rw [e _ (by omega) (by omega)]; exact h.w3, h.cnt, h.beg, ?_, ?_⟩
  · intro k hk
    have hP : 0 < P := by have := h.cnt; omega
    have := Nat.mod_lt (b + k) hP
    rw [e _ (by omega) (by omega)]; exact h.it k hk
  · intro j hj
    rw [e _ (by omega) (by omega)]; exact h.nul j hj
/-- A new channel. -/
def nwW (wd : Nat → Int) (a P : Nat) (r : Bool) : Nat → Int := upd (newW wd a (5 + P) (hdr (chK r) (4 + (P : Int)) (chM r))) (a + (1 + 3)) P
theorem ch_new (hP : P ≤ 1024) (r : Bool) (hI : Inv n A) (g : Goes n A (5 + P) a A') (wd : Nat → Int) : ChAt A' (nwW wd a P r) a P r 0 0 [] := by
  obtain ⟨r1, r2⟩ := newW_room hI g (by omega)
  unfold nwW
  refine ⟨r1, by omega, ?_, hP, ?_, ?_, ?_, ?_, by simp, .inr rfl, fun k hk => by simp at hk, fun j hj => .inl ?_⟩
  · rw [upd_ne _ _ (by omega)]; exact newW_at
  · rw [upd_ne _ _ (by omega)]; exact newW_in (by omega) (by omega)
  · rw [upd_ne _ _ (by omega)]; exact newW_in (by omega) (by omega)
  · rw [upd_ne _ _ (by omega)]; exact newW_in (by omega) (by omega)
  · rw [show a + 1 + 3 = a + (1 + 3) by omega, upd_same]
  · rw [upd_ne _ _ (by omega)]; exact newW_in (by omega) (by omega)
theorem ch_new_olds (K : Nat → Prop) (r : Bool) (hI : Inv n A) (hI' : Inv n A') (g : Goes n A (5 + P) a A') (wd : Nat → Int) : Olds K A wd A' (nwW wd a P r) := Olds.goes K hI hI' g (by omega) fun x hx => by
  have hge := roomOfM_ge (5 + P)
  unfold nwW newW
  rw [upd_ne _ _ (by omega), upd_ne _ _ (by omega), clear_out hx]
end Go.Proofs.YtogjblikljggbaaDoor
