/- same: the space has the law's own blocks. -/
import Derived.Test.YtjblmincldaklaaDoorRs
namespace Go.Proofs.YtjblmincldaklaaDoor
open Go.RowKit Go.Proofs.YtjblmincldaklaaDoor.Hp
theorem cnt_past {S : Nat → Bool} {n : Nat} (h : ∀ s, n ≤ s → S s = false) : ∀ d, cntN S (n + d) = cntN S n
  | 0 => rfl
  | d + 1 => by
    rw [← Nat.add_assoc]
    show cntN S (n + d) + (if S (n + d) then 1 else 0) = cntN S n
    rw [h (n + d) (by omega), cnt_past h d]
    rfl
section
variable {N : Nat} {A : Nat → Kd} {wd : Nat → Int} {L : List Rb} {T : List Tb}
theorem Tm.len (h : Tm A wd L T) (hI : Inv N A) : (blkL A N).length = T.length := by
  rw [← List.length_map (f := Tb.at_)]
  refine perm_len ((blkL_sorted hI N).imp fun h => Nat.ne_of_lt h) h.nd fun x => ?_
  rw [blkL_mem hI x N, List.mem_map]
  constructor
  · rintro ⟨_, hr⟩
    obtain ⟨b, hb, e⟩ := (h.lv x).1 hr
    exact ⟨b, hb, e⟩
  · rintro ⟨b, hb, e⟩
    have hr := (h.lv x).2 ⟨b, hb, e⟩
    have := room_in hI hr
    exact ⟨by omega, hr⟩
theorem Tm.head (h : Tm A wd L T) {b : Tb} (hb : b ∈ T) : kinI A wd (b.at_ : Int) = b.kd ∧ sizI A wd (b.at_ : Int) = b.sz ∧ mskI A wd (b.at_ : Int) = b.ms := by
  obtain ⟨h1, h2, h3, h4⟩ := h.bl b hb
  have n1 : roomN A b.at_ ≠ 0 := (h.lv _).2 ⟨b, hb, rfl⟩
  have hr : roomI A (b.at_ : Int) ≠ 0 := by unfold roomI; rw [if_pos (by omega), Int.toNat_natCast]; exact n1
  unfold kinI sizI mskI
  rw [if_pos hr, if_pos hr, if_pos hr, Int.toNat_natCast, h3]
  exact ⟨(hdr_open h2).2.1, (hdr_open h2).2.2.1, (hdr_open h2).2.2.2⟩
theorem Tm.get (h : Tm A wd L T) {b : Tb} (hb : b ∈ T) : getI A wd (b.at_ : Int) (-1) = 0 ∧ getI A wd (b.at_ : Int) b.sz = 0 ∧ ∀ q : Nat, (q : Int) < b.sz → getI A wd (b.at_ : Int) (q : Int) = wd (b.at_ + (q + 1)) := by
  unfold getI
  refine ⟨?_, ?_, fun q hq => ?_⟩
  · rw [h.has hb, if_neg (by simp)]
  · rw [h.has hb, if_neg (by simp)]
  · rw [h.has hb, if_pos (by simp; omega), Int.toNat_natCast, Int.toNat_natCast, show b.at_ + (1 + q) = b.at_ + (q + 1) by omega]
end
end Go.Proofs.YtjblmincldaklaaDoor
