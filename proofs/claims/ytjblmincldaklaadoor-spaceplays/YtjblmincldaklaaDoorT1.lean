/- nth, block. -/
import Derived.Test.YtjblmincldaklaaDoorT0
namespace Go.Proofs.YtjblmincldaklaaDoor
open Go.RowKit Go.Proofs.YtjblmincldaklaaDoor.Hp
variable {w w' : World} {pt pb base N : Nat} {wd : Nat → Int} {L : List Rb} {lv : Value} {T : List Tb} {tv : Value} {al : List Nat} {av : Value} {held : List Int} {dv : Value} {cnt : Nat}
def nthI (al : List Nat) (z : Int) : Int := if al.length = 0 ∨ z < 0 then 0 else ((al.getD (z % al.length).toNat 0 : Nat) : Int)
set_option maxRecDepth 100000 in
set_option maxHeartbeats 1000000 in
theorem nth_any (h : Tw w pt pb base N wd L lv T tv al av held dv cnt) (z : Int) (hz : -9223372036854775808 ≤ z ∧ z < 9223372036854775808) (hl : al.length ≤ 1000) :
    Calls Tryd.prog 22 #[.pointer (some ⟨pt, 0, none⟩), .int .i64 z] w fun e w' => e = .returned (.int .i64 (nthI al z)) ∧ Fr (fun _ => False) w w' := by
  unfold nthI
  have c2 := h.c2.1
  obtain ⟨ao, cp, hf, hg⟩ := own_form h.al
  rw [hf] at c2
  have hcp := own_cap (hf ▸ h.al)
  by_cases h0 : al.length = 0
  · rw [if_pos (.inl h0)]
    rw [h0] at c2
    clear h hf hg
    go_enter Tryd.func22, Tryd.ntmps22
    go_wp2
    all_goals first | (go_ret; exact ⟨rfl, Fr.refl _ _⟩) | skip
  · by_cases hz0 : z < 0
    · rw [if_pos (.inr hz0)]
      obtain ⟨len, hlen⟩ : ∃ len, len = al.length := ⟨_, rfl⟩
      rw [← hlen] at c2 h0 hl hcp
      clear h hf hg hlen
      go_enter Tryd.func22, Tryd.ntmps22
      go_wp2
      all_goals first | (go_ret; exact ⟨rfl, Fr.refl _ _⟩) | skip
    · rw [if_neg (by omega)]
      obtain ⟨g, rfl⟩ := hg (by omega)
      have hm1 := Int.emod_nonneg z (show (al.length : Int) ≠ 0 by omega)
      have hm2 := Int.emod_lt_of_pos z (show (0 : Int) < al.length by omega)
      obtain ⟨r, hr⟩ : ∃ r : Nat, z % (al.length : Int) = r := ⟨(z % (al.length : Int)).toNat, by omega⟩
      have hrl : r < al.length := by omega
      have hc : w.cell? ⟨g, r, none⟩ = some (.int .i64 ((al.getD r 0 : Nat) : Int)) := by
        have := h.al
        rw [hf] at this
        rw [this.cellAt r (by omega)]
        simp [List.getD, List.getElem?_eq_getElem hrl, nv]
      have ht : z.tmod (al.length : Int) = (r : Int) := by rw [Int.tmod_eq_emod_of_nonneg (by omega), hr]
      rw [hr, Int.toNat_natCast]
      generalize ((al.getD r 0 : Nat) : Int) = y at *
      obtain ⟨len, hlen⟩ : ∃ len, len = al.length := ⟨_, rfl⟩
      rw [← hlen] at c2 h0 hl hcp hrl ht
      have hl0 : ¬ (len : Int) = 0 := by omega
      have hwr : IntKind.i64.wrap (r : Int) = r := by rw [IntKind.wrap_i64]; omega
      clear h hf hg hlen hm1 hm2 hr
      go_enter Tryd.func22, Tryd.ntmps22
      have hl0n : ¬ len = 0 := by omega
      go_wp2
      go_region
      go_wp2
      go_ret
      exact ⟨rfl, (Fr.refl _ _).drew⟩
set_option maxRecDepth 100000 in
set_option maxHeartbeats 1000000 in
theorem block_any (h : Tw w pt pb base N wd L lv T tv al av held dv cnt) (x : Int) (hl : T.length ≤ 1000) :
    Calls Tryd.prog 23 #[.pointer (some ⟨pt, 0, none⟩), .int .i64 x] w fun e w' => e = .returned (.int .i64 (blockI T x 0)) ∧ Fr (fun _ => False) w w' := by
  have c1 := h.c1.1
  obtain ⟨ao, cp, hf, hg⟩ := own_form h.tl
  rw [hf] at c1
  obtain ⟨len, hlen⟩ : ∃ len, len = T.length := ⟨_, rfl⟩
  have HCe : Hid (∀ t b, T[t]? = some b → ∃ g, ao = some ⟨g, 0, none⟩ ∧ g < w.heap.size ∧ w.cell? ⟨g, t * 5, none⟩ = some (.int .i64 b.at_) ∧ w.cell? ⟨g, t * 5 + 1, none⟩ = some (.int .i64 b.kd) ∧ w.cell? ⟨g, t * 5 + 2, none⟩ = some (.int .i64 b.sz) ∧ w.cell? ⟨g, t * 5 + 3, none⟩ = some (.int .i64 b.ms) ∧ w.cell? ⟨g, t * 5 + 4, none⟩ = some (.slice (some ⟨b.gw, 0, none⟩) (b.room - 1) (b.room - 1))) := hide fun t b hb => by
    have ht := (List.getElem?_eq_some_iff.1 hb).1
    obtain ⟨g, rfl⟩ := hg (by omega)
    have h1 := h.tl
    rw [hf] at h1
    exact ⟨g, rfl, (h1.lt g rfl).2, (own_row5 h1).2 t b hb⟩
  rw [← hlen] at c1 hl
  have HLn := hide hlen
  clear h hf hg hlen
  go_enter Tryd.func23, Tryd.ntmps23
  go_wp2
  go_loopw [12] (fun i wr => ∃ t : Nat, t ≤ len ∧ i = .int .i64 t ∧ Hid (∀ j c, j < t → T[j]? = some c → (c.at_ : Int) ≠ x) ∧ Hid (Fr (fun _ => False) w wr)) (fun i _ => len - (intOf i).toNat)
  case atStart => exact ⟨0, by omega, rfl, hide (fun j c hj => by omega), hide (Fr.refl _ _)⟩
  case round =>
    obtain ⟨t, ht, rfl, hN, hF⟩ := hrel
    by_cases hlt : t < len
    · obtain ⟨b, hb⟩ : ∃ b, T[t]? = some b := ⟨T[t]'(by have := unhide HLn; omega), by simp⟩
      obtain ⟨g, rfl, hgl, k0, k1, k2, k3, k4⟩ := unhide HCe t b hb
      have d0 := cell_far (unhide hF) hgl k0
      have d1 := cell_far (unhide hF) hgl k1
      have d2 := cell_far (unhide hF) hgl k2
      have d3 := cell_far (unhide hF) hgl k3
      have d4 := cell_far (unhide hF) hgl k4
      have HB := hide hb
      obtain ⟨y, hy⟩ : ∃ y : Int, y = (b.at_ : Int) := ⟨_, rfl⟩
      rw [← hy] at d0
      have HY := hide hy
      clear k0 k1 k2 k3 k4 hb hy
      by_cases e : y = x
      · subst e
        have HE : Hid (blockI T y 0 = (t : Int)) := hide (by have := blockI_some (x := y) T 0 t b (unhide HB) (unhide HY).symm (unhide hN); rw [this]; omega)
        go_wp2
        go_ret
        exact ⟨ret_int (unhide HE).symm, (unhide hF).alloc _⟩
      · have hyx : (y == x) = false := by simpa using e
        have HN2 : Hid (∀ j c, j < t + 1 → T[j]? = some c → (c.at_ : Int) ≠ x) := hide fun j c hj hc => by
          by_cases ej : j = t
          · subst ej
            have := unhide HB
            rw [this] at hc
            cases hc
            rw [← unhide HY]; exact e
          · exact unhide hN j c (by omega) hc
        clear e
        go_wp2
        go_roundw
        case rel => exact ⟨t + 1, by omega, by go_num, HN2, hide ((unhide hF).alloc _)⟩
        case measure => simp [intOf]; omega
    · obtain rfl : t = len := by omega
      have HE : Hid (blockI T x 0 = -1) := hide (blockI_none T 0 fun b hb => by
        obtain ⟨j, hj⟩ := List.getElem?_of_mem hb
        exact unhide hN j b (by have := (List.getElem?_eq_some_iff.1 hj).1; have := unhide HLn; omega) hj)
      go_wp2
      go_ret
      exact ⟨ret_int (unhide HE).symm, unhide hF⟩
end Go.Proofs.YtjblmincldaklaaDoor
