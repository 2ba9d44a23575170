/- A step of both: Set, what it changes. -/
import Derived.Test.YtjblmincldaklaaDoorU2
namespace Go.Proofs.YtjblmincldaklaaDoor
open Go.RowKit Go.Proofs.YtjblmincldaklaaDoor.Hp
section
variable {N : Nat} {A : Nat → Kd} {wd : Nat → Int} {L : List Rb} {T : List Tb}
theorem Tm.far (h : Tm A wd L T) (hI : Inv N A) {b c : Tb} (hb : b ∈ T) (hc : c ∈ T) (hne : c.at_ ≠ b.at_) : c.at_ + c.room ≤ b.at_ ∨ b.at_ + b.room ≤ c.at_ := by
  have h1 := (h.bl b hb).1
  have h2 := (h.bl c hc).1
  have n1 : roomN A b.at_ ≠ 0 := (h.lv _).2 ⟨b, hb, rfl⟩
  have n2 : roomN A c.at_ ≠ 0 := (h.lv _).2 ⟨c, hc, rfl⟩
  have := two_apart hI n2 n1 hne
  rw [h1, h2] at this
  exact this
theorem Tm.same (h : Tm A wd L T) {b c : Tb} (hb : b ∈ T) (hc : c ∈ T) (e : c.at_ = b.at_) : c = b := by
  obtain ⟨i, hi⟩ := List.getElem?_of_mem hc
  obtain ⟨j, hj⟩ := List.getElem?_of_mem hb
  have hil := (List.getElem?_eq_some_iff.1 hi).1
  have hjl := (List.getElem?_eq_some_iff.1 hj).1
  have ei : T.getD i tbD = c := by simp [List.getD, hi]
  have ej : T.getD j tbD = b := by simp [List.getD, hj]
  have := h.inj hil hjl (by rw [ei, ej]; exact e)
  subst this
  rw [hi] at hj
  exact Option.some.inj hj
theorem Tm.putW {b : Tb} {q : Nat} {v : Int} (h : Tm A wd L T) (hI : Inv N A) (hb : b ∈ T) (hq : q < b.room - 1) (hv : -9223372036854775808 ≤ v ∧ v < 9223372036854775808) : Tm A (upd wd (b.at_ + (1 + q)) v) L T ∧ ∀ c ∈ T, c ≠ b → ∀ x, x < c.room - 1 → c.at_ + (x + 1) ≠ b.at_ + (1 + q) := by
  have key : ∀ c ∈ T, c ≠ b → ∀ x, x < c.room → c.at_ + x ≠ b.at_ + (1 + q) := fun c hc hne x hx e => by
    have := h.far hI hb hc (fun e2 => hne (h.same hb hc e2))
    omega
  have hd : ∀ c ∈ T, c.at_ ≠ b.at_ + (1 + q) := fun c hc e => by
    by_cases e2 : c = b
    · subst e2; omega
    · have n2 : roomN A c.at_ ≠ 0 := (h.lv _).2 ⟨c, hc, rfl⟩
      have := (h.bl c hc).1
      exact key c hc e2 0 (by omega) (by omega)
  refine ⟨⟨h.mt, h.lv, h.nd, fun c hc => ?_, fun c hc x hx => ?_⟩, fun c hc hne x hx => key c hc hne (x + 1) (by omega)⟩
  · rw [upd_ne _ _ (hd c hc)]; exact h.bl c hc
  · by_cases e : c.at_ + (x + 1) = b.at_ + (1 + q)
    · rw [e, upd_same]; exact hv
    · rw [upd_ne _ _ e]; exact h.rg c hc x hx
theorem Tm.has (h : Tm A wd L T) {b : Tb} (hb : b ∈ T) (k : Int) : hasB A wd (b.at_ : Int) k = (decide (0 ≤ k) && decide (k < b.sz)) := by
  obtain ⟨h1, h2, h3, h4⟩ := h.bl b hb
  have n1 : roomN A b.at_ ≠ 0 := (h.lv _).2 ⟨b, hb, rfl⟩
  have hr : roomI A (b.at_ : Int) ≠ 0 := by unfold roomI; rw [if_pos (by omega), Int.toNat_natCast]; exact n1
  unfold hasB sizI
  rw [if_pos hr, Int.toNat_natCast, h3, (hdr_open h2).2.2.1]
theorem Tm.hasNo (h : Tm A wd L T) {x : Int} (hx : ∀ b ∈ T, (b.at_ : Int) ≠ x) (k : Int) : hasB A wd x k = false := by
  have hr : roomI A x = 0 := by
    by_cases hr : roomI A x = 0
    · exact hr
    · obtain ⟨y, rfl, hy⟩ := room_nat hr
      obtain ⟨b, hb, e⟩ := (h.lv y).1 hy
      exact absurd (by rw [e]) (hx b hb)
  unfold hasB sizI
  rw [if_neg (fun z => z hr)]
  simp
theorem Tm.blk (h : Tm A wd L T) {b : Tb} {t : Nat} (hb : T[t]? = some b) : blockI T (b.at_ : Int) 0 = (t : Int) := by
  have := blockI_some (x := (b.at_ : Int)) T 0 t b hb rfl (fun j c hj hc e => by
    have hjl := (List.getElem?_eq_some_iff.1 hc).1
    have htl := (List.getElem?_eq_some_iff.1 hb).1
    have := h.inj hjl htl (by simp only [List.getD, hc, hb, Option.getD_some]; omega)
    omega)
  rw [this]; omega
end
end Go.Proofs.YtjblmincldaklaaDoor
