/- Contract of strings.IndexAny at a comma and a closing bracket. -/
import Derived.Test.YtpmpjbnnjdpbnaaDoorIx
namespace Go.Proofs.YtpmpjbnnjdpbnaaDoor
open Go.RowKit Go.Proofs.YtpmpjbnnjdpbnaaDoor.Lx

set_option maxRecDepth 1000000 in
set_option maxHeartbeats 4000000 in
theorem ia_short (s : ByteArray) (w : World) (h8 : s.size ≤ 8) :
    Calls Tryd.prog 52 #[.string s, .string ⟨#[44, 41]⟩] w fun e w' => e = .returned (.int .i64 (Lib.indexAny s.data.toList [44, 41])) ∧ Below w.heap.size w w' := by
  have h8z : decide ((8 : Int) < (s.size : Int)) = false := decide_eq_false (by omega)
  go_enter Tryd.func52, Tryd.ntmps52
  go_wp2_with (first | (go_at_call 56; refine (Tryd.strings_shouldUseASCIISet _ _).mono ?_; rintro e w' ⟨rfl, hw⟩; rw [hw, h8z]; clear hw))
  go_loopg [9, 10] s.size (fun g _ _ wx => ∃ i : Nat, g = s.size - i ∧ i ≤ s.size ∧ wx.heap[w.heap.size]? = some (.stringIter s i) ∧ Below w.heap.size w wx ∧ Lib.NoAny s.data.toList [44, 41] i)
  case atStart => exact ⟨0, by omega, by omega, World.iter_heap w s 0, (Below.refl _ _).alloc (Nat.le_refl _) _, Lib.NoAny.zero _ _⟩
  case round =>
    obtain ⟨i, hg, hi, hit, hbl, hno⟩ := hrel
    have HI := hide hit
    have HB := hide hbl
    have HN := hide hno
    clear hno hbl
    by_cases hlt : i < s.size
    · obtain ⟨x, hx⟩ : ∃ x : UInt8, s[i]'hlt = x := ⟨_, rfl⟩
      have hxl : s.data.toList[i]? = some x := by rw [← hx]; exact Lib.data_getElem? s i hlt
      have Hx := hide hxl
      have hnx : ∀ ty, (Instr.next (.pointer (some ⟨w.heap.size, 0, none⟩)) true ty).run Tryd.prog wr = .ok (.tuple #[.bool true, .int .i64 i, .int .i32 (Utf8.decode s i).1]) (setIt wr w.heap.size s (i + (Utf8.decode s i).2)) := fun ty => next_gen w.heap.size s i wr ty hit hlt
      by_cases ha : x.toNat < 128
      · rw [decode_ascii s i hlt (by rw [hx]; exact ha), hx] at hnx
        simp only at hnx
        have HBN := hide (setIt_below s (i + 1) (unhide HB))
        have HIN := hide (setIt_blk hit (i + 1))
        clear hxl hx hit
        have hback : ((x.toNat : Int)).toNat.toUInt8 = x := by simp
        have hcon := Lib.contains_iff_indexByte [44, 41] x
        cases hin : ([44, 41] : List UInt8).contains x
        · rw [hin] at hcon
          have hltz : ¬ ((0 : Int) ≤ Lib.indexByte [44, 41] x) := of_decide_eq_false hcon.symm
          clear hcon
          go_wp2_with (first | (go_at_call 55; refine (Tryd.strings_IndexRune_ascii _ _ _ (by omega) (by omega)).mono ?_; rintro e w' ⟨rfl, hw⟩; rw [hw, hback]; clear hw))
          go_roundg (s.size - (i + 1))
          case measure => omega
          case rel => exact ⟨i + 1, rfl, by omega, unhide HIN, unhide HBN, (unhide HN).succ (unhide Hx) hin⟩
        · rw [hin] at hcon
          have hge : (0 : Int) ≤ Lib.indexByte [44, 41] x := of_decide_eq_true hcon.symm
          clear hcon
          go_wp2_with (first | (go_at_call 55; refine (Tryd.strings_IndexRune_ascii _ _ _ (by omega) (by omega)).mono ?_; rintro e w' ⟨rfl, hw⟩; rw [hw, hback]; clear hw))
          go_ret
          exact ⟨by rw [Lib.indexAny_hit (unhide HN) (unhide Hx) hin]; rfl, unhide HBN⟩
      · obtain ⟨d1, d2, d3, d4, d5⟩ := dec_na s i x hxl hlt (by omega)
        generalize Utf8.decode s i = d at hnx d1 d2 d3 d4 d5
        have HBN := hide (setIt_below s (i + d.2) (unhide HB))
        have HIN := hide (setIt_blk hit (i + d.2))
        have HD5 := hide d5
        have hsz : w.heap.size < (setIt wr w.heap.size s (i + d.2)).heap.size := (Array.getElem?_eq_some_iff.1 (unhide HIN)).1
        clear hxl hx hit d5
        go_wp2_with (first | (go_at_call 55; refine (ir_na _ _ (by omega) d2).mono ?_; rintro e w3 ⟨rfl, hb3⟩; have HB3 := hide hb3; clear hb3))
        go_roundg (s.size - (i + d.2))
        case measure => omega
        case rel =>
          refine ⟨i + d.2, rfl, d4, ((unhide HB3).block _ hsz).trans (unhide HIN), (unhide HBN).trans ((unhide HB3).mono (by omega)), ?_⟩
          intro j b hj hb
          by_cases hji : j < i
          · exact unhide HN j b hji hb
          · have := unhide HD5 j b (by omega) hj hb
            have n1 : b ≠ 44 := by rintro rfl; revert this; decide
            have n2 : b ≠ 41 := by rintro rfl; revert this; decide
            simp [n1, n2]
    · have hnx : ∀ ty, (Instr.next (.pointer (some ⟨w.heap.size, 0, none⟩)) true ty).run Tryd.prog wr = .ok (.tuple #[.bool false]) wr := fun ty => next_fin w.heap.size s i wr ty hit hlt
      clear hit
      go_wp2
      go_ret
      have e : i = s.size := by omega
      exact ⟨by rw [Lib.indexAny_none (by rw [← Lib.size_eq, ← e]; exact unhide HN)]; rfl, unhide HB⟩
theorem ia_any (s : ByteArray) (w : World) (hs : s.size ≤ 1000000) :
    Calls Tryd.prog 52 #[.string s, .string ⟨#[44, 41]⟩] w fun e w' => e = .returned (.int .i64 (Lib.indexAny s.data.toList [44, 41])) ∧ Below w.heap.size w w' := by
  by_cases h8 : s.size ≤ 8
  · exact ia_short s w h8
  · refine (Tryd.strings_IndexAny_long (by intro w; kernel_rfl) s ⟨#[44, 41]⟩ w (by decide) (by omega) (by omega) (by decide) ?_).mono ?_
    · intro j b hb
      have hl := (List.getElem?_eq_some_iff.1 hb).1
      match j, hb, hl with
      | 0, hb, _ => simp at hb; subst hb; decide
      | 1, hb, _ => simp at hb; subst hb; decide
    · rintro e w' ⟨rfl, rfl⟩
      exact ⟨rfl, ((Below.refl _ _).alloc (Nat.le_refl _) _).alloc (by simp) _⟩
end Go.Proofs.YtpmpjbnnjdpbnaaDoor
