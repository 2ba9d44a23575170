/- MailKeeps: what its walk needs. -/
import Derived.Test.YtogjblikljggbaaDoorM6
namespace Go.Proofs.YtogjblikljggbaaDoor
open Go.RowKit Go.Proofs.YtogjblikljggbaaDoor.Hp
variable {w0 w w' w1 w2 : World} {B : HB} {n p : Nat} {A A' A1 : Nat → Kd} {wd wd' wd1 : Nat → Int} {hv hv1 hv2 : Value} {held : List Int} {cnt : Nat} {a P b cl s x : Nat} {r : Bool} {l : List Int} {ats : List Nat} {y : Int} {rb : Nat → Bool}
def castL (l : List Nat) : List Int := l.map fun (x : Nat) => (x : Int)
/-- A channel of the blocks that were made, but for those that were taken away. -/
structure Kx (A : Nat → Kd) (wd : Nat → Int) (a P : Nat) (r : Bool) (ats : List Nat) (s : Nat) : Prop where
  ch : ∃ b, ChAt A wd a P r 0 b (castL (ats.drop s))
  nd : (a :: ats).Nodup
  dt : ∀ x ∈ ats, roomN A x ≠ 0 ∧ wd x = hdr 1 1 0
theorem one_hdr : IsH (hdr 1 1 0) ∧ hK (hdr 1 1 0) = 1 ∧ hS (hdr 1 1 0) = 1 ∧ hM (hdr 1 1 0) = 0 := hdr_open (by unfold Right; omega)
theorem Kx.start (h : ChAt A wd a P r 0 0 []) : Kx A wd a P r [] 0 := ⟨⟨0, h⟩, by simp, fun x hx => by simp at hx⟩
theorem Kx.push_n (h : Kx A wd a P r ats s) (ho : Olds (fun _ => False) A wd A1 wd1) (hr : roomN A1 x ≠ 0) (hh : wd1 x = hdr 1 1 0) (nb : roomN A x = 0) : (a :: (ats ++ [x])).Nodup ∧ ∀ z ∈ ats ++ [x], roomN A1 z ≠ 0 ∧ wd1 z = hdr 1 1 0 := by
  obtain ⟨b, hc⟩ := h.ch
  refine ⟨?_, fun z hz => ?_⟩
  · have := h.nd
    rw [List.nodup_cons] at this ⊢
    refine ⟨?_, ?_⟩
    · simp only [List.mem_append, List.mem_singleton, not_or]
      exact ⟨this.1, fun e => hc.room (e ▸ nb)⟩
    · rw [List.nodup_append]
      refine ⟨this.2, by simp, fun u hu v hv => ?_⟩
      obtain rfl : v = x := by simpa using hv
      rintro rfl
      exact (h.dt u hu).1 nb
  · rcases List.mem_append.1 hz with e | e
    · obtain ⟨r1, e1⟩ := ho z (h.dt z e).1 id
      have := (h.dt z e).1
      exact ⟨by rw [r1]; exact this, by rw [e1 z (by omega) (by omega)]; exact (h.dt z e).2⟩
    · obtain rfl : z = x := by simpa using e
      exact ⟨hr, hh⟩
theorem Kx.to (h : Kx A wd a P r ats s) (ho : Olds (· = a) A wd A wd') {t b' : Nat} (hc : ChAt A wd' a P r 0 b' (castL (ats.drop t))) : Kx A wd' a P r ats t :=
  ⟨⟨b', hc⟩, h.nd, fun z hz => by
    have hd := h.dt z hz
    have hne : z ≠ a := fun e => by have := h.nd; rw [List.nodup_cons] at this; exact this.1 (e ▸ hz)
    obtain ⟨_, e1⟩ := ho z hd.1 hne
    exact ⟨hd.1, by rw [e1 z (by omega) (by omega)]; exact hd.2⟩⟩
theorem ChAt.kids (h : ChAt A wd a P r cl b l) (hI : Inv n A) : y ∈ kids A wd (a : Int) ↔ r = true ∧ y ∈ l ∧ refB A y = true := by
  have hh := ch_hdr h.le r
  have hbig := h.big
  rw [kids_mem h.room (by rw [h.hd]; exact hh.1) (by rw [h.sz]; omega), h.hd, hh.2.1, hh.2.2.1, hh.2.2.2]
  constructor
  · rintro ⟨j, hj, h1, h2, h3⟩
    cases r with
    | false => simp [chK, chM, tellsB] at h1
    | true =>
      have hj4 : 4 ≤ j := by
        simp [chK, chM, tellsB] at h1
        omega
      refine ⟨rfl, ?_, by rw [h3]; exact h2⟩
      rcases h.nul (j - 4) (by omega) with e | ⟨k, hk, e⟩
      · rw [show a + 1 + (4 + (j - 4)) = a + 1 + j by omega] at e
        rw [e] at h2
        exact absurd (room_zero hI) (refB_iff.1 h2)
      · have := h.it k hk
        rw [← e, show a + 1 + (4 + (j - 4)) = a + 1 + j by omega] at this
        rw [h3, this, List.getD_eq_getElem?_getD, List.getElem?_eq_getElem hk]
        exact List.getElem_mem hk
  · rintro ⟨rfl, h2, h3⟩
    obtain ⟨k, hk, rfl⟩ := List.getElem_of_mem h2
    have hP : 0 < P := by have := h.cnt; omega
    have hm := Nat.mod_lt (b + k) hP
    have hit := h.it k hk
    rw [List.getD_eq_getElem?_getD, List.getElem?_eq_getElem hk] at hit
    refine ⟨4 + (b + k) % P, by omega, ?_, by rw [hit]; exact h3, hit.symm⟩
    have h4 : (4 : Int) ≤ ((4 + (b + k) % P : Nat) : Int) := by omega
    unfold tellsB chK chM
    rw [if_pos rfl, if_pos rfl, decide_eq_true h4]
    rfl
theorem kids_one (hx : roomN A x ≠ 0) (hs : hS (wd x) < roomN A x) (hd : wd x = hdr 1 1 0) : y ∉ kids A wd (x : Int) := by
  rw [kids_mem hx (by rw [hd]; exact one_hdr.1) hs, hd, one_hdr.2.1]
  rintro ⟨j, _, h1, _⟩
  simp [tellsB] at h1
theorem Kx.reach (h : Kx A wd a P r ats s) (hI : Inv n A) (hd : ∀ x, roomN A x ≠ 0 → IsH (wd x) ∧ hS (wd x) < roomN A x) (x : Nat) : Reach (refB A) (kids A wd) [(a : Int)] (x : Int) ↔ x = a ∨ (r = true ∧ x ∈ ats.drop s) := by
  obtain ⟨b, hc⟩ := h.ch
  constructor
  · intro hr
    generalize hy : (x : Int) = y at hr
    induction hr generalizing x with
    | root _ h1 h2 =>
      subst hy
      exact .inl (by have h1' : (x : Int) = a := by simpa using h1
                     omega)
    | kid u v h1 h2 h3 ih =>
      subst hy
      obtain ⟨u', rfl, hu⟩ := room_nat (refB_iff.1 h1.ref)
      rcases ih u' rfl with e | ⟨e, e2⟩
      · rw [e, hc.kids hI] at h2
        obtain ⟨hr, hm, _⟩ := h2
        obtain ⟨z, hz, ez⟩ := List.mem_map.1 (show _ ∈ (ats.drop s).map fun (x : Nat) => (x : Int) from hm)
        have ez' : z = x := by omega
        subst ez'
        exact .inr ⟨hr, hz⟩
      · exact absurd h2 (kids_one hu (hd u' hu).2 (h.dt u' (List.mem_of_mem_drop e2)).2)
  · have h0 : Reach (refB A) (kids A wd) [(a : Int)] (a : Int) := .root _ (by simp) (ref_cast.2 hc.room)
    rintro (rfl | ⟨hr, hx⟩)
    · exact h0
    · have hrx := (h.dt x (List.mem_of_mem_drop hx)).1
      exact .kid _ _ h0 ((hc.kids hI).2 ⟨hr, List.mem_map.2 ⟨x, hx, rfl⟩, ref_cast.2 hrx⟩) (ref_cast.2 hrx)
def wantN (r : Bool) (N s : Nat) : Nat := if r = true then 1 + (N - s) else 1
theorem Kx.blocks (h : Kx A wd a P r ats s) (hI : Inv n A) (hd : ∀ x, roomN A x ≠ 0 → IsH (wd x) ∧ hS (wd x) < roomN A x) (hg : Gc n A wd [(a : Int)] rb A1) : (blkL A1 n).length = wantN r ats.length s := by
  obtain ⟨b, hc⟩ := h.ch
  have hr := fun x => (hg.rch x).trans (h.reach hI hd x)
  have h1 : (blkL A1 n).Nodup := (blkL_sorted hg.inv n).imp fun h => by omega
  have hnd := h.nd
  rw [List.nodup_cons] at hnd
  have h2 : (a :: (if r = true then ats.drop s else [])).Nodup := by
    rw [List.nodup_cons]
    cases r with
    | false => simp
    | true => exact ⟨fun e => hnd.1 (List.mem_of_mem_drop e), hnd.2.sublist (List.drop_sublist _ _)⟩
  have := perm_len h1 h2 fun x => by
    rw [blkL_mem hg.inv x n]
    have hrm := hg.room x
    have hrx := hr x
    constructor
    · rintro ⟨_, hx⟩
      rw [hrm] at hx
      by_cases hb : rb x = true
      · rcases hrx.1 hb with rfl | ⟨e, e2⟩
        · simp
        · rw [if_pos e]; simp [e2]
      · rw [if_neg hb] at hx; exact absurd rfl hx
    · intro hx
      have hb : rb x = true ∧ roomN A x ≠ 0 := by
        rcases List.mem_cons.1 hx with rfl | e
        · exact ⟨hrx.2 (.inl rfl), hc.room⟩
        · cases r with
          | false => simp at e
          | true => exact ⟨hrx.2 (.inr ⟨rfl, e⟩), (h.dt x (List.mem_of_mem_drop e)).1⟩
      rw [if_pos hb.1] at hrm
      have hx2 : roomN A1 x ≠ 0 := by rw [hrm]; exact hb.2
      have := room_in hg.inv hx2
      exact ⟨by omega, hx2⟩
  rw [this]
  unfold wantN
  cases r <;> simp <;> omega
theorem none_len (n : Nat) : (blkL (emptyA n) n).length = 0 := by
  have : blkL (emptyA n) n = [] := by
    apply List.eq_nil_iff_forall_not_mem.2
    intro x hx
    exact ((blkL_mem (emptyA_inv n) x n).1 hx).2 (by unfold roomN emptyA; split <;> rfl)
  rw [this]; rfl
end Go.Proofs.YtogjblikljggbaaDoor
