/- The reference's Quote. -/
import Derived.Test.YtipnefogflpkhaaDoorAi1
set_option linter.unusedVariables false
set_option linter.unusedSimpArgs false
namespace Go.Proofs.YtipnefogflpkhaaDoor
open Go.RowKit
theorem conv_c (w : World) (c : UInt8) : (convert 43 9 (.slice (some ⟨w.heap.size, 0, none⟩) 1 1)).run Tryd.prog (w.alloc (.cells #[.int .u8 (c.toNat : Int)] 5)) = .ok (.string ⟨#[c]⟩) (w.alloc (.cells #[.int .u8 (c.toNat : Int)] 5)) := by
  have h := conv_z (w.alloc (.cells #[.int .u8 (c.toNat : Int)] 5)) w.heap.size c.toNat (by omega) (by have := c.toNat_lt; omega) (new_cell w _ 5)
  have e : UInt8.ofNat ((c.toNat : Int)).toNat = c := by simp
  rw [e] at h
  exact h
/-- A text under way: its bytes are l. -/
def Tx (l : List UInt8) (x : ByteArray) : Prop := x.data.toList = l
theorem Tx.app {l m l' : List UInt8} {x y : ByteArray} (h : Tx l x) (k : Tx m y) (e : l ++ m = l') : Tx l' (x ++ y) := by
  unfold Tx at *
  subst h k
  rw [← e]
  simp [ByteArray.data_append]
theorem Tx.size {l : List UInt8} {x : ByteArray} (h : Tx l x) : x.size = l.length := by
  unfold Tx at h
  rw [← h]
  exact Array.length_toList.symm
theorem Tx.eq {l : List UInt8} {x : ByteArray} (h : Tx l x) : x = ⟨l.toArray⟩ := by
  unfold Tx at h
  subst h
  simp
theorem Tx.mk (l : List UInt8) : Tx l ⟨l.toArray⟩ := rfl
theorem Tx.prp {l : List UInt8} {x : ByteArray} (h : Tx l x) {w w' : World} (hg : w.grownBy w' none) : PrP l w (.returned (.string x)) w' := ⟨by rw [h.eq], hg⟩
set_option maxRecDepth 100000 in
set_option maxHeartbeats 4000000 in
theorem Quote_r (s : ByteArray) (w : World) (hs : s.size ≤ 1000000) : Calls Tryd.prog 7 #[.string s] w fun e w' => PrP (quotedT s) w e w' := by
  have hcv := conv_c
  obtain ⟨T, hT⟩ : ∃ T : Nat → List UInt8, ∀ i, [34] ++ cat (quoT s) i = T i := ⟨_, fun _ => rfl⟩
  have hend : T s.size ++ [34] = quotedT s := by rw [← hT]; rfl
  have HTl : Hid (∀ i, i ≤ s.size → (T i).length ≤ 2000002) := hide (fun i hi => by
    have h1 := cat_le (quoT s) hi
    have hle := quotedT_le s
    rw [← hend, ← hT] at hle
    rw [← hT]
    simp only [List.length_append] at hle ⊢
    omega)
  have HTs : Hid (∀ i (h : i < s.size), T i ++ escB s[i] = T (i + 1)) := hide (fun i h => by rw [← hT, ← hT, cat_succ, quoT_at h, List.append_assoc])
  have HEnd := hide hend
  have HT0 : Hid (Tx (T 0) ⟨#[34]⟩) := hide (by rw [← hT]; rfl)
  clear hT hend
  go_enter Tryd.func7, Tryd.ntmps7
  go_wp2
  go_loopw [3, 4] (fun t i wr => ∃ (j : Nat) (x : ByteArray), j ≤ s.size ∧ i = .int .i64 j ∧ t = .string x ∧ Hid (Tx (T j) x) ∧ Hid (w.grownBy wr none)) (fun _ i _ => s.size - (intOf i).toNat)
  case atStart => exact ⟨0, ⟨#[34]⟩, Nat.zero_le _, rfl, rfl, HT0, hide (World.grownBy.refl _ _)⟩
  case round =>
    obtain ⟨j, x, hj, rfl, rfl, hQ, hB⟩ := hrel
    have hxs : x.size ≤ 2000002 := by rw [(unhide hQ).size]; exact (unhide HTl) j hj
    by_cases hlt : j < s.size
    · have hji : (j : Int) < (s.size : Int) := by omega
      have HT := hide ((unhide HTs) j hlt)
      by_cases h10 : s[j] = 10
      · have hb10 : ((s[j].toNat : Int) == 10) = true := by rw [h10]; rfl
        have HQ2 : Hid (Tx (T (j + 1)) (x ++ ⟨#[92, 110]⟩)) := hide ((unhide hQ).app (m := [92, 110]) rfl (by rw [← unhide HT, h10]; rfl))
        clear h10 hQ HT
        go_wp2
        go_roundw
        case rel => exact ⟨j + 1, _, by omega, by simp, rfl, HQ2, hB⟩
        case measure => simp [intOf]; omega
      · have hb10 : ((s[j].toNat : Int) == 10) = false := ne_byte (k := 10) h10 (by decide)
        by_cases h34 : s[j] = 34
        · have hb34 : ((s[j].toNat : Int) == 34) = true := by rw [h34]; rfl
          have HQ2 : Hid (Tx (T (j + 1)) (x ++ (⟨#[92]⟩ : ByteArray) ++ ⟨#[s[j]]⟩)) := hide (((unhide hQ).app (m := [92]) (l' := T j ++ [92]) (y := ⟨#[92]⟩) rfl rfl).app (m := [s[j]]) rfl (by rw [← unhide HT, h34, List.append_assoc]; rfl))
          have HG : Hid (∀ o, w.grownBy (wr.alloc o) none) := hide fun o => (unhide hB).trans (World.grownBy_alloc wr o none)
          clear h10 hQ HT h34
          go_wp2
          go_roundw
          case rel => exact ⟨j + 1, _, by omega, by simp, rfl, HQ2, hide ((unhide HG) _)⟩
          case measure => simp [intOf]; omega
        · have hb34 : ((s[j].toNat : Int) == 34) = false := ne_byte (k := 34) h34 (by decide)
          by_cases h92 : s[j] = 92
          · have hb92 : ((s[j].toNat : Int) == 92) = true := by rw [h92]; rfl
            have HQ2 : Hid (Tx (T (j + 1)) (x ++ (⟨#[92]⟩ : ByteArray) ++ ⟨#[s[j]]⟩)) := hide (((unhide hQ).app (m := [92]) (l' := T j ++ [92]) (y := ⟨#[92]⟩) rfl rfl).app (m := [s[j]]) rfl (by rw [← unhide HT, h92, List.append_assoc]; rfl))
            have HG : Hid (∀ o, w.grownBy (wr.alloc o) none) := hide fun o => (unhide hB).trans (World.grownBy_alloc wr o none)
            clear h10 hQ HT h92 h34
            go_wp2
            go_roundw
            case rel => exact ⟨j + 1, _, by omega, by simp, rfl, HQ2, hide ((unhide HG) _)⟩
            case measure => simp [intOf]; omega
          · have hb92 : ((s[j].toNat : Int) == 92) = false := ne_byte (k := 92) h92 (by decide)
            have HQ2 : Hid (Tx (T (j + 1)) (x ++ (⟨#[s[j]]⟩ : ByteArray))) := hide ((unhide hQ).app (m := [s[j]]) rfl (by rw [← unhide HT]; unfold escB; rw [if_neg h10, if_neg (fun h => h.elim h34 h92)]))
            have HG : Hid (∀ o, w.grownBy (wr.alloc o) none) := hide fun o => (unhide hB).trans (World.grownBy_alloc wr o none)
            clear h10 hQ HT h34 h92
            go_wp2
            go_roundw
            case rel => exact ⟨j + 1, _, by omega, by simp, rfl, HQ2, hide ((unhide HG) _)⟩
            case measure => simp [intOf]; omega
    · have hji : ¬ (j : Int) < (s.size : Int) := by omega
      obtain rfl : j = s.size := by omega
      have HX : Hid (PrP (quotedT s) w (.returned (.string (x ++ ⟨#[34]⟩))) wr) := hide (((unhide hQ).app (m := [34]) (y := ⟨#[34]⟩) rfl (unhide HEnd)).prp (unhide hB))
      clear hQ
      go_wp2
      go_ret
      exact unhide HX
end Go.Proofs.YtipnefogflpkhaaDoor
