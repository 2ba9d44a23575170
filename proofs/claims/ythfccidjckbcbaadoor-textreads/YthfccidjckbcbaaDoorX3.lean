/- Bytes. -/
import Derived.Test.YthfccidjckbcbaaDoorX2
import Derived.Deep.RegionHeld2
namespace Go.Proofs.YthfccidjckbcbaaDoor
open Go.RowKit Go.Proofs.YthfccidjckbcbaaDoor.Hp
variable {w w' : World} {B : HB} {n p : Nat} {A : Nat → Kd} {wd : Nat → Int} {hv : Value} {held : List Int} {cnt : Nat}
/-- The bytes of a block's words. -/
def bytesL (g : Int → Int) (m : Nat) : List UInt8 := (List.range m).map fun i => byteAt (g (1 + (i / 8 : Nat))) (i % 8)
theorem bytesL_len (g : Int → Int) (m : Nat) : (bytesL g m).length = m := by simp [bytesL]
theorem bytesL_step (g : Int → Int) (k d : Nat) (hd : d ≤ 8) : bytesL g (8 * k) ++ (List.range d).map (byteAt (g (1 + (k : Nat)))) = bytesL g (8 * k + d) := by
  unfold bytesL
  rw [List.range_add, List.map_append, List.map_map]
  congr 1
  apply List.map_congr_left
  intro i hi
  have : i < d := List.mem_range.1 hi
  simp only [Function.comp]
  rw [show (8 * k + i) / 8 = k by omega, show (8 * k + i) % 8 = i by omega]
/-- What Bytes answers. -/
def bytI (A : Nat → Kd) (wd : Nat → Int) (ss : List ByteArray) (z : Int) : ByteArray := if z % 2 ≠ 0 then constI ss z else ⟨(bytesL (getI A wd z) (lenI A wd z)).toArray⟩
structure ByS (w wr : World) (v : Value) (bs : List UInt8) (c : Nat) : Prop where
  own : wr.ownsRow w.heap.size 5 1 v c (bs.map byV)
  fr : Fr (fun _ => False) w wr
theorem conv_own {base c : Nat} {v : Value} {ys : List UInt8} (h : w.ownsRow base 5 1 v c (ys.map byV)) (hl : ys.length = c) : (convert 38 9 v).run Tryd.prog w = .ok (.string ⟨ys.toArray⟩) w := by
  rcases h.2 with ⟨rfl, h0⟩ | ⟨g, cap, cur, rfl, _, hg, _, _, _, ht⟩
  · have : ys = [] := List.eq_nil_of_length_eq_zero (by omega)
    subst this
    exact run_convert_bytes_nil w 38 5 Tryd.underlying38 Tryd.underlying5 0 0 9 Tryd.underlying9
  · have hc := h.cells (g := g) rfl
    rw [← hl]
    refine run_convert_bytes_back (P := Tryd.prog) w 38 9 5 ⟨g, 0, none⟩ cap ys Tryd.underlying38 Tryd.underlying5 Tryd.underlying9 fun j hj => ?_
    exact hc j _ (by rw [List.getElem?_map, List.getElem?_eq_getElem hj]; rfl)
set_option maxRecDepth 100000 in
set_option maxHeartbeats 2000000 in
theorem Bytes_any (h : Sp w B n p A wd hv held cnt) (ao : Option Addr) (len cap : Nat) (ss : List ByteArray) (z : Int) (hm : len ≤ maxLen) (hS : StrsAt w ao len ss) (hz : -9223372036854775808 ≤ z ∧ z < 9223372036854775808) (hg : -9223372036854775808 ≤ getI A wd z 0 ∧ getI A wd z 0 < 9223372036854775808) :
    Calls Tryd.prog 12 #[.pointer (some ⟨p, 0, none⟩), .slice ao len cap, .int .i64 z] w fun e w' => e = .returned (.string (bytI A wd ss z)) ∧ Fr (fun _ => False) w w' := by
  unfold bytI
  by_cases h2 : z % 2 = 0
  · have t2 : z.tmod 2 = 0 := Int.tmod_eq_zero_of_dvd (Int.dvd_of_emod_eq_zero h2)
    have HL := hide (length_any h z hg)
    rw [if_neg (fun x => x h2)]
    have HS := hide h
    have hL := len_le h z
    generalize lenI A wd z = L at *
    have HW : Hid (∀ W, Calls Tryd.prog 22 #[.int .i64 L] W fun e w' => e = .returned (.int .i64 ((L + 7) / 8 : Nat)) ∧ W = w') := hide fun W => (wordsFor_any L W (by omega)).mono fun _ _ h => ⟨h.1, h.2.symm⟩
    obtain ⟨i1, hi, hz0, hz1, hz2⟩ := info_parts Tryd.info5
    clear h hS
    have hmk := fun W => run_make (P := Tryd.prog) W 38 5 i1 _ Tryd.underlying38 hi hz0 .i64 .i64 0 L (by omega) (by omega) (by rw [hz2]; omega) (by omega)
    simp only [hz1, Int.toNat_natCast, Int.toNat_zero] at hmk
    go_enter Tryd.func12, Tryd.ntmps12
    go_wp2_with (first | (go_at_call 25; refine (unhide HL).mono ?_; rintro e w1 ⟨rfl, hF⟩; have HF := hide hF; clear hF) | (go_at_call 22; refine (unhide HW _).mono ?_; rintro e w' ⟨rfl, rfl⟩))
    have HG : Hid (∀ w1 k, Fr (fun _ => False) w w1 → Calls Tryd.prog 14 #[.pointer (some ⟨p, 0, none⟩), .int .i64 z, .int .i64 k] w1 fun e w' => e = .returned (.int .i64 (getI A wd z k)) ∧ Fr (fun _ => False) w1 w') := hide fun w1 k hF => Get_any ((unhide HS).quiet hF) z k
    go_loopw [8, 23] (fun v i wr => ∃ k : Nat, k ≤ (L + 7) / 8 ∧ i = .int .i64 k ∧ ∃ (c : Nat) (ao1 : Option Addr) (cp1 : Nat), v = .slice ao1 c cp1 ∧ c = min (8 * k) L ∧ Hid (ByS w wr (.slice ao1 c cp1) (bytesL (getI A wd z) c) c)) (fun _ i _ => (L + 7) / 8 - (intOf i).toNat)
    case atStart =>
      refine ⟨0, Nat.zero_le _, rfl, 0, _, _, rfl, by simp, hide ⟨?_, (unhide HF).alloc _⟩⟩
      have := World.ownsRow_made (base := w.heap.size) (e := 5) (size := 1) w1 (madeCells #[Value.int IntKind.u8 0] L) L (unhide HF).size (by unfold maxLen; omega) (by rw [size_madeCells, Nat.mul_one])
      simpa [bytesL] using this
    case round =>
      obtain ⟨k, hk, rfl, c, ao1, cp1, rfl, hc, hB⟩ := hrel
      by_cases hlt : k < (L + 7) / 8
      · obtain rfl : c = 8 * k := by omega
        obtain ⟨d, hd, hd1⟩ : ∃ d : Nat, d = min 8 (L - 8 * k) ∧ 1 ≤ d := ⟨_, rfl, by omega⟩
        have HD : Hid ((d : Int) = min 8 ((L : Int) - 8 * (k : Int))) := hide (by omega)
        have hd8 : d ≤ 8 := by omega
        have hdL : 8 * k + d ≤ L := by omega
        have HM : Hid (8 * k + d = min (8 * (k + 1)) L) := hide (by omega)
        clear hd hc
        have HG1 := hide (unhide HG wr (1 + (k : Int)) (unhide hB).fr)
        have HU : Hid (∀ W (m : Int), Fr (fun _ => False) wr W → m = d → Calls Tryd.prog 26 #[.slice ao1 (8 * k) cp1, .int .i64 (getI A wd z (1 + (k : Int))), .int .i64 m] W fun e w' => ∃ ao2 cp2, e = .returned (.slice ao2 (8 * k + d) cp2) ∧ ByS w w' (.slice ao2 (8 * k + d) cp2) (bytesL (getI A wd z) (8 * k + d)) (8 * k + d)) := hide fun W m hW hm => by
          subst hm
          have hb := unhide hB
          have e0 := bytesL_len (getI A wd z) (8 * k)
          have := unpack_any w.heap.size ao1 cp1 (bytesL (getI A wd z) (8 * k)) (getI A wd z (1 + (k : Int))) d W (by rw [e0]; exact own_blk hb.own fun g hg => hW.block g (hb.own.lt g hg).2 id) (Nat.le_trans hb.fr.size hW.size) (by omega) (by rw [e0]; omega)
          rw [e0, bytesL_step _ _ _ (by omega)] at this
          refine this.mono ?_
          rintro e w' ⟨ao2, cp2, rfl, ho, hF, _⟩
          rw [bytesL_len] at ho ⊢
          exact ⟨ao2, cp2, rfl, ho, (hb.fr.trans hW).up hF fun j hj => (hb.own.lt j hj).1⟩
        go_wp2_with (first | (go_at_call 14; refine (unhide HG1).mono ?_; rintro e w2 ⟨rfl, hF2⟩; have HF2 := hide hF2; clear hF2) | (go_at_call 26; refine (unhide HU _ _ (unhide HF2) (by have := unhide HD; first | omega | (split <;> omega))).mono ?_; rintro e w3 ⟨ao2, cp2, rfl, hB3⟩; have HB3 := hide hB3; clear hB3))
        all_goals (
          go_roundw
          case rel => exact ⟨k + 1, by omega, by go_num, _, _, _, rfl, unhide HM, HB3⟩
          case measure => simp [intOf]; omega)
      · have hge : ¬ (k : Int) < ((L + 7) / 8 : Nat) := by omega
        have hge2 : decide ((k : Int) < ((L + 7) / 8 : Nat)) = false := decide_eq_false hge
        obtain rfl : c = L := by omega
        have HC := hide (conv_own (unhide hB).own (bytesL_len _ _))
        have hcv := unhide HC
        clear hc hlt
        go_wp2
        go_ret
        exact ⟨rfl, (unhide hB).fr⟩
  · have t2 : z.tmod 2 ≠ 0 := fun e => h2 (Int.emod_eq_zero_of_dvd (Int.dvd_of_tmod_eq_zero e))
    rw [if_pos h2]
    have HC := hide (constant_any ao len cap ss z w hm hS hz)
    clear h hS
    go_enter Tryd.func12, Tryd.ntmps12
    go_wp2_with (first | (go_at_call 24; refine (unhide HC).mono ?_; rintro e w1 ⟨rfl, hF⟩; have HF := hide hF; clear hF))
    go_ret
    exact ⟨rfl, by rw [unhide HF]; exact Fr.refl _ _⟩
end Go.Proofs.YthfccidjckbcbaaDoor
