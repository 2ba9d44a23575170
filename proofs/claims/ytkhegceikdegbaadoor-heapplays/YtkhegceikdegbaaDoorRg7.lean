/- HeapPlays, walked, from a contract of step. -/
import Derived.Test.YtkhegceikdegbaaDoorRg5
namespace Go.Proofs.YtkhegceikdegbaaDoor
open Go.RowKit Go.Proofs.YtkhegceikdegbaaDoor.Hp
def StepAll : Prop := ∀ (w0 w : World) (B : HB) (pb base N : Nat) (A : Nat → Kd) (wd : Nat → Int) (L : List Rb) (lv : Value) (kd n k v : Int), Pl w0 w B pb base N A wd L lv → Ps w0 B pb base → 2 ≤ N → N ≤ 64 → L.length ≤ 4000 → (-9223372036854775808 ≤ n ∧ n < 9223372036854775808) → (-9223372036854775808 ≤ k ∧ k < 9223372036854775808) →
  Calls Tryd.prog 11 #[B.ptr, .pointer (some ⟨pb, 0, none⟩), .agg #[.int .i64 kd, .int .i64 n, .int .i64 k, .int .i64 v]] w fun e w' => StepP w0 B pb base N L e w'
set_option maxRecDepth 100000 in
set_option maxHeartbeats 8000000 in
theorem plays_big (hst : StepAll) (xw N : Nat) (a0 : Option Addr) (len0 cap0 : Nat) (f : Nat → Int × Int × Int × Int) (w : World) (hV : Vars w) (hx1 : 128 ≤ xw) (hx2 : xw ≤ 4096) (hN : xw / 64 = N) (hl : len0 ≤ 200)
    (hr : ∀ j, (-9223372036854775808 ≤ (f j).2.1 ∧ (f j).2.1 < 9223372036854775808) ∧ (-9223372036854775808 ≤ (f j).2.2.1 ∧ (f j).2.2.1 < 9223372036854775808))
    (hz : ∀ j, j < len0 → ∃ b off, a0 = some ⟨b, off, none⟩ ∧ b < w.heap.size ∧ w.cell? ⟨b, off + j * 4, none⟩ = some (.int .i64 (f j).1) ∧ w.cell? ⟨b, off + j * 4 + 1, none⟩ = some (.int .i64 (f j).2.1) ∧ w.cell? ⟨b, off + j * 4 + 2, none⟩ = some (.int .i64 (f j).2.2.1) ∧ w.cell? ⟨b, off + j * 4 + 3, none⟩ = some (.int .i64 (f j).2.2.2)) :
    Calls Tryd.prog 3 #[.int .i64 xw, .slice a0 len0 cap0] w fun e w' => e = .returned (.bool true) ∧ Below w.heap.size w w' := by
  have HSt := hide hst
  have HAn := hide (anchor_any w hV)
  have HZ := hide hz
  have HRg := hide hr
  have hsz := hV.size
  have hn2 : 2 ≤ N := by omega
  have hn3 : N ≤ 64 := by omega
  clear hV hz hr hst
  go_enter Tryd.func3, Tryd.ntmps3
  go_wp2_with fail
  refine (unhide HAn).mono ?_
  rintro e w1 ⟨rfl, hF1, hV1⟩
  have HN := hide (New_any xw w1 (by omega) (by omega))
  have HF1 := hide hF1
  have HV1 := hide hV1
  clear hF1 hV1 HAn
  go_wp2_with fail
  refine (unhide HN).mono ?_
  rintro e w2 ⟨B, rfl, hlo, hF2, hA2⟩
  rw [hN] at hA2
  have HNr := hide (NewR_any xw w2 (by omega) (by omega))
  rw [hN] at HNr
  have HF2 := hide hF2
  have HA2 := hide hA2
  have Hlo := hide hlo
  clear hlo hF2 hA2 HN
  go_wp2_with fail
  refine (unhide HNr).mono ?_
  rintro e w3 ⟨rfl, hR3, hF3⟩
  have s1 := (unhide HF1).size
  have s2 := (unhide HF2).size
  have s3 := hF3.size
  have hpb : w2.heap.size < w3.heap.size := World.block_lt_of_cell? w3 ⟨w2.heap.size, 0, none⟩ hR3.cN
  have HPs : Hid (Ps w B w2.heap.size w3.heap.size) := hide ⟨fun j hj => ⟨by have := unhide Hlo j hj; omega, by have := (unhide HA2).lt hj; omega⟩, by omega, hpb, fun hb => by have := (unhide HA2).lt hb; omega, hsz⟩
  have HPl : Hid (Pl w w3 B w2.heap.size w3.heap.size N (emptyA N) _ [] (.slice none 0 0)) := hide ⟨(unhide HA2).quiet hF3, emptyA_inv N, ((unhide HV1).fr (unhide HF2) id id).fr hF3 id id, hR3, ⟨List.Pairwise.nil, fun b hb => by simp at hb, fun x hx => absurd (by unfold roomN emptyA; split <;> rfl) hx⟩, ((unhide HF1).trans (unhide HF2)).trans hF3, Nat.le_refl _, fun b hb => by simp at hb, List.Pairwise.nil⟩
  have HSz : Hid (w.heap.size ≤ w3.heap.size) := hide (by omega)
  obtain ⟨base, hbase⟩ : ∃ base, base = w3.heap.size := ⟨_, rfl⟩
  rw [← hbase] at HPs HPl HSz
  clear hbase hR3 hF3 s1 s2 s3 hpb HF1 HF2 HV1 HA2 Hlo HNr hN
  generalize w2.heap.size = pb at *
  unfold HB.ptr
  go_wp2
  go_loopw [40] (fun t wr => ∃ i : Nat, i ≤ len0 ∧ t = .int .i64 i ∧ ∃ A wd L lv, L.length ≤ i ∧ Hid (Pl w wr B pb base N A wd L lv)) (fun t _ => len0 - (intOf t).toNat)
  case atStart => exact ⟨0, by omega, rfl, _, _, _, _, Nat.le_refl _, HPl⟩
  case round =>
    clear HPl
    obtain ⟨i, hi, rfl, A, wd, L, lv, hLi, hPl⟩ := hrel
    by_cases hlt : i < len0
    · obtain ⟨b, off, ha0, hbw, k0, k1, k2, k3⟩ := unhide HZ i hlt
      subst ha0
      have hbl := (unhide hPl).far.block b hbw id
      have c0 := (World.cell?_of_block (w := w) (a := ⟨b, off + i * 4, none⟩) hbl).trans k0
      have c1 := (World.cell?_of_block (w := w) (a := ⟨b, off + i * 4 + 1, none⟩) hbl).trans k1
      have c2 := (World.cell?_of_block (w := w) (a := ⟨b, off + i * 4 + 2, none⟩) hbl).trans k2
      have c3 := (World.cell?_of_block (w := w) (a := ⟨b, off + i * 4 + 3, none⟩) hbl).trans k3
      obtain ⟨r1, r2⟩ := unhide HRg i
      clear hbl k0 k1 k2 k3
      generalize (f i).1 = kd at *
      generalize (f i).2.1 = n at *
      generalize (f i).2.2.1 = k at *
      generalize (f i).2.2.2 = v at *
      have HC := hide (unhide HSt w (wr.alloc (.cells #[.int .i64 kd, .int .i64 n, .int .i64 k, .int .i64 v] 30)) B pb base N A wd L lv kd n k v ((unhide hPl).quiet ((Fr.refl _ wr).alloc _)) (unhide HPs) hn2 hn3 (by omega) r1 r2)
      unfold HB.ptr at HC
      go_wp2_with fail
      refine (unhide HC).mono ?_
      rintro e w4 ⟨rfl, A', wd', L', lv', hP4, hl4⟩
      have HSa := hide (same_any w w4 B pb base N A' wd' L' lv' hP4 hn2 hn3 (by omega))
      unfold HB.ptr at HSa
      have HP4 := hide hP4
      clear HC hP4
      go_wp2_with fail
      refine (unhide HSa).mono ?_
      rintro e w5 ⟨rfl, hF5⟩
      have HP5 := hide ((unhide HP4).quiet hF5)
      clear HSa hF5
      go_wp2
      go_roundw
      case rel => exact ⟨i + 1, by omega, by go_num, A', wd', L', lv', by omega, HP5⟩
      case measure => simp [intOf]; omega
    · have hB := (unhide hPl).far.below (n := w.heap.size) (Nat.le_refl _) (fun _ x => x.elim)
      have HB := hide hB
      go_wp2
      go_ret
      exact ⟨rfl, unhide HB⟩
end Go.Proofs.YtkhegceikdegbaaDoor
