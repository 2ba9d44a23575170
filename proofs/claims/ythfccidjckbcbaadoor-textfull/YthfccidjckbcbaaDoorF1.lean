/- TextFull, walked. -/
import Derived.Test.YthfccidjckbcbaaDoorX6
namespace Go.Proofs.YthfccidjckbcbaaDoor
open Go.RowKit Go.Proofs.YthfccidjckbcbaaDoor.Hp
theorem empty_full {n m : Nat} (hn : 2 ≤ n) : NoPlace n (emptyA n) m ↔ n - 1 < (m + 63) / 64 := by
  constructor
  · rintro (⟨h1, h2, h3⟩ | ⟨h1, h2⟩)
    · exact absurd (show emptyA n 1 = .free by unfold emptyA; rw [if_pos (by omega)]) (h3 1)
    · apply Nat.lt_of_not_le
      intro hle
      obtain ⟨t, h3, h4, h5⟩ := h2 1 (by omega)
      exact h5 (by unfold emptyA; rw [if_pos (by omega)])
  · intro h
    refine .inr ⟨by omega, fun g hg => ⟨0, by omega, by omega, ?_⟩⟩
    unfold emptyA
    rw [if_neg (by omega)]
    intro e; cases e
theorem one_len {n a m : Nat} {A' : Nat → Kd} (hm : 0 < m) (hI' : Inv n A') (g : Goes n (emptyA n) m a A') : (blkL A' n).length = 1 := by
  have h1 : (blkL A' n).Nodup := (blkL_sorted hI' n).imp fun h => by omega
  have hg := room_goes (emptyA_inv n) g
  have hge := roomOfM_ge m
  have he : ∀ y, roomN (emptyA n) y = 0 := fun y => by unfold roomN emptyA; split <;> rfl
  have := perm_len h1 (List.nodup_cons.2 ⟨by simp, List.nodup_nil⟩ : [a].Nodup) fun x => by
    rw [blkL_mem hI' x n, List.mem_singleton]
    constructor
    · rintro ⟨_, h⟩
      rw [hg.2 x] at h
      by_cases e : x = a
      · exact e
      · rw [if_neg e, he] at h; exact absurd rfl h
    · rintro rfl
      have hx : roomN A' x ≠ 0 := by rw [hg.2 x, if_pos rfl]; omega
      have := room_in hI' hx
      exact ⟨by omega, hx⟩
  rw [this]; rfl
theorem none_len (n : Nat) : (blkL (emptyA n) n).length = 0 := by
  have : blkL (emptyA n) n = [] := by
    apply List.eq_nil_iff_forall_not_mem.2
    intro x hx
    exact ((blkL_mem (emptyA_inv n) x n).1 hx).2 (by unfold roomN emptyA; split <;> rfl)
  rw [this]; rfl
/-- A string of zeros. -/
def zeros (k : Nat) : ByteArray := ⟨(List.replicate k (0 : UInt8)).toArray⟩
theorem zeros_size (k : Nat) : (zeros k).size = k := by
  show ((List.replicate k (0 : UInt8)).toArray).size = k
  simp
theorem conv_zeros (W : World) (k : Nat) : (convert 38 9 (.slice (some ⟨W.heap.size, 0, none⟩) k k)).run Tryd.prog (W.alloc (.cells (madeCells #[Value.int .u8 0] k) 5)) = .ok (.string (zeros k)) (W.alloc (.cells (madeCells #[Value.int .u8 0] k) 5)) := by
  have := run_convert_bytes_back (P := Tryd.prog) (W.alloc (.cells (madeCells #[Value.int .u8 0] k) 5)) 38 9 5 ⟨W.heap.size, 0, none⟩ k (List.replicate k 0) Tryd.underlying38 Tryd.underlying5 Tryd.underlying9 (fun j hj => by
    have hj' : j < k := by simpa using hj
    have e : (⟨W.heap.size, 0, none⟩ : Addr).add j = ⟨W.heap.size, j, none⟩ := by unfold Addr.add; split <;> simp_all
    rw [e]
    have := (Row.made W #[Value.int .u8 0] k 5) j hj'
    rw [this.1]
    simp [Nat.mod_one])
  rw [List.length_replicate] at this
  exact this
variable {w0 w w' : World} {B : HB} {n p : Nat} {A A' : Nat → Kd} {wd wd' : Nat → Int} {hv : Value} {held : List Int} {cnt : Nat} {a : Nat} {s : ByteArray}
def fitsB (n k : Nat) : Bool := decide (k ≤ 16384) && decide ((2 + (k + 7) / 8 + 63) / 64 ≤ n - 1)
def FullP (w0 : World) (B : HB) (n p : Nat) (hv : Value) (k : Nat) (e : Ending) (w' : World) : Prop :=
  ∃ (a : Nat) (A' : Nat → Kd) (wd' : Nat → Int) (cnt' : Nat), e = .returned (.tuple #[.int .i64 (a : Int), .bool (fitsB n k)]) ∧ Lw w0 w' B n p A' wd' hv [] cnt' ∧ (fitsB n k = false → a = 0) ∧ (blkL A' n).length = if fitsB n k then 1 else 0
theorem full_new (h : Lw w0 w B n p (emptyA n) wd hv [] 0) (hn : 2 ≤ n) (k : Nat) (hk : 1 ≤ k) (hk2 : k ≤ 70000) :
    Calls Tryd.prog 10 #[.pointer (some ⟨p, 0, none⟩), .string (zeros k)] w fun e w' => FullP w0 B n p hv k e w' := by
  refine (New_to h (by omega) (zeros k) (by rw [zeros_size]; omega)).mono ?_
  have ew : wsz (zeros k) = (k + 7) / 8 := by unfold wsz; rw [zeros_size]
  rintro e w' ⟨v, A', wd', cnt', hN, rfl, hL⟩
  cases hN with
  | nil h => rw [zeros_size] at h; omega
  | long h1 =>
    rw [zeros_size] at h1
    have e : fitsB n k = false := by unfold fitsB; rw [decide_eq_false (by omega)]; rfl
    exact ⟨0, _, _, _, by rw [e]; rfl, hL, fun _ => rfl, by rw [e, none_len]; rfl⟩
  | at_ h1 h2 a A1 g =>
    rw [zeros_size] at h2
    have hp := g.not
    rw [empty_full hn, ew] at hp
    have e : fitsB n k = true := by unfold fitsB; rw [decide_eq_true h2, decide_eq_true (by omega)]; rfl
    exact ⟨a, _, _, _, by rw [e], hL, (fun x => by rw [e] at x; cases x), by rw [e, one_len (by omega) hL.sp.inv g]; rfl⟩
  | gc h1 h2 hn1 rb A1 hg a A2 g =>
    rw [hg.none] at g
    exact absurd hn1 g.not
  | full h1 h2 hn1 rb A1 hg g =>
    rw [zeros_size] at h2
    rw [empty_full hn, ew] at hn1
    have e : fitsB n k = false := by unfold fitsB; rw [decide_eq_false (show ¬ (2 + (k + 7) / 8 + 63) / 64 ≤ n - 1 by omega), Bool.and_false]
    have e2 := hg.none
    subst e2
    exact ⟨0, _, _, _, by rw [e]; rfl, hL, fun _ => rfl, by rw [e, none_len]; rfl⟩
set_option maxRecDepth 100000 in
set_option maxHeartbeats 4000000 in
theorem tfull_any (k q : Int) (w : World) (hV : Vars w) (hk : -9223372036854775808 ≤ k ∧ k < 9223372036854775808) (hq : -9223372036854775808 ≤ q ∧ q < 9223372036854775808) :
    Calls Tryd.prog 5 #[.int .i64 k, .int .i64 q] w fun e w' => e = .returned (.bool true) ∧ Below w.heap.size w w' := by
  have HA := hide (anchor_any w hV)
  have HB : Hid (∀ W, Fr (fun _ => False) w W → Below w.heap.size w W) := hide fun W k => k.below (Nat.le_refl _) (fun _ x => x.elim)
  clear hV
  by_cases hbig : k < 1 ∨ 70000 < k ∨ q < 128 ∨ 16384 < q
  · rcases (show k < 1 ∨ (1 ≤ k ∧ 70000 < k) ∨ (1 ≤ k ∧ k ≤ 70000 ∧ q < 128) ∨ (1 ≤ k ∧ k ≤ 70000 ∧ 128 ≤ q ∧ 16384 < q) by omega) with h1 | ⟨h1, h2⟩ | ⟨h1, h2, h3⟩ | ⟨h1, h2, h3, h4⟩
    all_goals (
      clear hbig
      go_enter Tryd.func5, Tryd.ntmps5
      go_wp2_with fail
      refine (unhide HA).mono ?_
      rintro e w1 ⟨rfl, hF1, _⟩
      have HF1 := hide hF1
      clear hF1
      go_wp2
      go_ret
      exact ⟨rfl, unhide HB _ (unhide HF1)⟩)
  · obtain ⟨x, rfl⟩ := Int.eq_ofNat_of_zero_le (show 0 ≤ k by omega)
    obtain ⟨y, rfl⟩ := Int.eq_ofNat_of_zero_le (show 0 ≤ q by omega)
    have h1 : 1 ≤ x := by omega
    have h2 : x ≤ 70000 := by omega
    have h3 : 128 ≤ y := by omega
    have h4 : y ≤ 16384 := by omega
    clear hbig
    obtain ⟨i1, hi, hz0, hz1, hz2⟩ := info_parts Tryd.info5
    have hmk := fun W => run_make (P := Tryd.prog) W 38 5 i1 _ Tryd.underlying38 hi hz0 .i64 .i64 x x (by omega) (by omega) (by rw [hz2]; omega) (by omega)
    simp only [hz1, Int.toNat_natCast, Nat.mul_one] at hmk
    have hcv := fun W => conv_zeros W x
    go_enter Tryd.func5, Tryd.ntmps5
    go_wp2_with fail
    refine (unhide HA).mono ?_
    rintro e w1 ⟨rfl, hF1, hV1⟩
    have HF1 := hide hF1
    have HN := hide (SNew_any y w1 (by omega) (by omega) hV1)
    clear hF1 hV1
    go_wp2_with fail
    refine (unhide HN).mono ?_
    rintro e w2 ⟨B, p, rfl, hL⟩
    have HL := hide hL
    clear hL
    go_wp2_with fail
    refine (full_new ((unhide HL).quiet ((Fr.refl _ w2).alloc _)) (show 2 ≤ y / 64 by omega) x h1 h2).mono ?_
    rintro e w3 ⟨a, A', wd', cnt', rfl, hL3, ha, hb⟩
    have HL3 := hide hL3
    have hT := Told_any hL3.sp
    rw [hb] at hT
    clear hb hL3
    generalize cntN (fun s => frK (A' s)) (64 * setM (y / 64)) = cn at *
    rcases (show 16384 < x ∨ (x ≤ 16384 ∧ (2 + (x + 7) / 8 + 63) / 64 ≤ y / 64 - 1) ∨ (x ≤ 16384 ∧ y / 64 - 1 < (2 + (x + 7) / 8 + 63) / 64) by omega) with c | ⟨c, c2⟩ | ⟨c, c2⟩
    · have e : fitsB (y / 64) x = false := by unfold fitsB; rw [decide_eq_false (by omega)]; rfl
      obtain rfl := ha e
      rw [e] at hT ⊢
      have c' : ¬ (x : Int) ≤ 16384 := by omega
      have c'' : decide ((x : Int) ≤ 16384) = false := decide_eq_false c'
      have HT := hide hT
      clear hT ha
      go_wp2_with fail
      refine (unhide HT).mono ?_
      rintro e w4 ⟨rfl, hF4⟩
      have HF4 := hide ((unhide HL3).quiet hF4).far
      clear hF4
      go_wp2
      go_ret
      exact ⟨rfl, unhide HB _ ((unhide HF1).trans (unhide HF4))⟩
    · have e : fitsB (y / 64) x = true := by unfold fitsB; rw [decide_eq_true c, decide_eq_true c2]; rfl
      rw [e] at hT ⊢
      have c' : (x : Int) ≤ 16384 := by omega
      have c3 : (2 + ((x : Int) + 7) / 8 + 63) / 64 ≤ (y : Int) / 64 - 1 := by omega
      have HT := hide hT
      clear hT ha
      go_wp2_with fail
      refine (unhide HT).mono ?_
      rintro e w4 ⟨rfl, hF4⟩
      have HF4 := hide ((unhide HL3).quiet hF4).far
      clear hF4
      go_wp2
      go_ret
      exact ⟨rfl, unhide HB _ ((unhide HF1).trans (unhide HF4))⟩
    · have e : fitsB (y / 64) x = false := by unfold fitsB; rw [decide_eq_false (show ¬ (2 + (x + 7) / 8 + 63) / 64 ≤ y / 64 - 1 by omega), Bool.and_false]
      obtain rfl := ha e
      rw [e] at hT ⊢
      have c' : (x : Int) ≤ 16384 := by omega
      have c3 : ¬ (2 + ((x : Int) + 7) / 8 + 63) / 64 ≤ (y : Int) / 64 - 1 := by omega
      have HT := hide hT
      clear hT ha
      go_wp2_with fail
      refine (unhide HT).mono ?_
      rintro e w4 ⟨rfl, hF4⟩
      have HF4 := hide ((unhide HL3).quiet hF4).far
      clear hF4
      go_wp2
      go_ret
      exact ⟨rfl, unhide HB _ ((unhide HF1).trans (unhide HF4))⟩
end Go.Proofs.YthfccidjckbcbaaDoor
