/- The writer: lists of numbers, texts, lists of flags. -/
import Derived.Test.YtfkjjljhabjcjaaDoorCw4
namespace Go.Proofs.YtfkjjljhabjcjaaDoor
open Go.RowKit Go.Proofs.YtfkjjljhabjcjaaDoor.Cx
set_option maxRecDepth 100000 in
set_option maxHeartbeats 1000000 in
theorem ints_w (base wp : Nat) (bs : List UInt8) (l : List Int) (a : Option Addr) (cap : Nat) (w : World) (h : WrS w wp base bs) (hwp : base ≤ wp) (hr : RowOf numC 1 (· < base) w l a) (hl : bs.length + (encL encN l).length ≤ 1000000000) :
    Calls Tryd.prog 50 #[.pointer (some ⟨wp, 0, none⟩), .slice a l.length cap, .func (.func 38) #[.pointer (some ⟨wp, 0, none⟩)] #[]] w fun e w' => WrP base wp bs (encL encN l) w e w' := by
  rw [encL, List.length_append] at hl
  have hb : base ≤ w.heap.size := by obtain ⟨_, _, _, _, _, _, h5⟩ := h; exact h5
  have hll := hr.1
  have HC := hide (size_w base wp bs l.length w h (by omega) (by omega))
  have HR := hide hr
  have HL := hide hl
  clear h hl hr
  go_enter Tryd.func50, Tryd.ntmps50
  go_wp2_with fail
  refine (unhide HC).mono ?_
  intro e w1 hp
  obtain rfl := hp.1
  have HP := hide hp.2
  clear hp HC
  go_wp2
  go_loopw [15] (fun t wr => ∃ i : Nat, i ≤ l.length ∧ t = .int .i64 i ∧ Hid (WrS wr wp base (bs ++ sz l.length ++ (l.take i).flatMap encN) ∧ WFr base wp w wr)) (fun t _ => l.length - (intOf t).toNat)
  case atStart => exact ⟨0, by omega, rfl, hide ⟨by simpa using (unhide HP).1, (unhide HP).2⟩⟩
  case round =>
    obtain ⟨i, hi, rfl, hI⟩ := hrel
    by_cases hlt : i < l.length
    · obtain ⟨b, off, cs, rfl, hS, hC, _, hcell⟩ := (WFr.row numG (unhide hI).2 hwp hb (unhide HR)).2 i hlt
      have hcs : cs = [.int .i64 l[i]] := hC.2
      subst hcs
      have hc0 : wr.cell? ⟨b, off + i, none⟩ = some (.int .i64 l[i]) := by have := hcell 0 _ rfl; simpa using this
      have HX := hide (number_w base wp (bs ++ sz l.length ++ (l.take i).flatMap encN) l[i] wr (unhide hI).1 hC.1 (by
        have h1 := unhide HL
        have h2 := part_len encN hlt
        simp only [List.length_append]; omega))
      have HN : Hid ((l.take (i + 1)).flatMap encN = (l.take i).flatMap encN ++ encN l[i]) := hide (part_next encN hlt)
      clear hcell hC
      generalize l[i] = x at *
      go_wp2_with fail
      refine (unhide HX).mono ?_
      intro e w2 hp
      obtain rfl := hp.1
      have HQ := hide hp.2
      clear hp HX
      go_wp2
      go_roundw
      case rel => exact ⟨i + 1, by omega, rfl, hide ⟨by rw [unhide HN, ← List.append_assoc]; exact (unhide HQ).1, (unhide hI).2.trans (unhide HQ).2⟩⟩
      case measure => simp [intOf]; omega
    · obtain rfl : i = l.length := by omega
      go_wp2
      go_end0
      exact ⟨rfl, by have := (unhide hI).1; rwa [List.take_length, List.append_assoc] at this, (unhide hI).2⟩
set_option maxRecDepth 100000 in
set_option maxHeartbeats 1000000 in
theorem texts_w (base wp : Nat) (bs : List UInt8) (l : List ByteArray) (a : Option Addr) (cap : Nat) (w : World) (h : WrS w wp base bs) (hwp : base ≤ wp) (hr : RowOf textC 1 (· < base) w l a) (hl : bs.length + (encL encT l).length ≤ 1000000000) :
    Calls Tryd.prog 30 #[.pointer (some ⟨wp, 0, none⟩), .slice a l.length cap, .func (.func 31) #[.pointer (some ⟨wp, 0, none⟩)] #[]] w fun e w' => WrP base wp bs (encL encT l) w e w' := by
  rw [encL, List.length_append] at hl
  have hb : base ≤ w.heap.size := by obtain ⟨_, _, _, _, _, _, h5⟩ := h; exact h5
  have hll := hr.1
  have HC := hide (size_w base wp bs l.length w h (by omega) (by omega))
  have HR := hide hr
  have HL := hide hl
  clear h hl hr
  go_enter Tryd.func30, Tryd.ntmps30
  go_wp2_with fail
  refine (unhide HC).mono ?_
  intro e w1 hp
  obtain rfl := hp.1
  have HP := hide hp.2
  clear hp HC
  go_wp2
  go_loopw [15] (fun t wr => ∃ i : Nat, i ≤ l.length ∧ t = .int .i64 i ∧ Hid (WrS wr wp base (bs ++ sz l.length ++ (l.take i).flatMap encT) ∧ WFr base wp w wr)) (fun t _ => l.length - (intOf t).toNat)
  case atStart => exact ⟨0, by omega, rfl, hide ⟨by simpa using (unhide HP).1, (unhide HP).2⟩⟩
  case round =>
    obtain ⟨i, hi, rfl, hI⟩ := hrel
    by_cases hlt : i < l.length
    · obtain ⟨b, off, cs, rfl, hS, hC, _, hcell⟩ := (WFr.row textG (unhide hI).2 hwp hb (unhide HR)).2 i hlt
      have hcs : cs = [.string l[i]] := hC.2
      subst hcs
      have hc0 : wr.cell? ⟨b, off + i, none⟩ = some (.string l[i]) := by have := hcell 0 _ rfl; simpa using this
      have HX := hide (text_w base wp (bs ++ sz l.length ++ (l.take i).flatMap encT) l[i] wr (unhide hI).1 hC.1 (by
        have h1 := unhide HL
        have h2 := part_len encT hlt
        simp only [List.length_append]; omega))
      have HN : Hid ((l.take (i + 1)).flatMap encT = (l.take i).flatMap encT ++ encT l[i]) := hide (part_next encT hlt)
      clear hcell hC
      generalize l[i] = x at *
      go_wp2_with fail
      refine (unhide HX).mono ?_
      intro e w2 hp
      obtain rfl := hp.1
      have HQ := hide hp.2
      clear hp HX
      go_wp2
      go_roundw
      case rel => exact ⟨i + 1, by omega, rfl, hide ⟨by rw [unhide HN, ← List.append_assoc]; exact (unhide HQ).1, (unhide hI).2.trans (unhide HQ).2⟩⟩
      case measure => simp [intOf]; omega
    · obtain rfl : i = l.length := by omega
      go_wp2
      go_end0
      exact ⟨rfl, by have := (unhide hI).1; rwa [List.take_length, List.append_assoc] at this, (unhide hI).2⟩
set_option maxRecDepth 100000 in
set_option maxHeartbeats 1000000 in
theorem flags_w (base wp : Nat) (bs : List UInt8) (l : List Bool) (a : Option Addr) (cap : Nat) (w : World) (h : WrS w wp base bs) (hwp : base ≤ wp) (hr : RowOf flagC 1 (· < base) w l a) (hl : bs.length + (encL encB l).length ≤ 1000000000) :
    Calls Tryd.prog 35 #[.pointer (some ⟨wp, 0, none⟩), .slice a l.length cap] w fun e w' => WrP base wp bs (encL encB l) w e w' := by
  have HC := hide (bools_w base wp bs l a cap w h hwp hr hl)
  clear h hl hr
  go_enter Tryd.func35, Tryd.ntmps35
  go_wp2_with fail
  refine (unhide HC).mono ?_
  intro e w1 hp
  obtain rfl := hp.1
  have HP := hide hp
  clear hp HC
  go_wp2
  go_end0
  exact unhide HP
set_option maxRecDepth 100000 in
set_option maxHeartbeats 1000000 in
theorem structs_w (base wp : Nat) (bs : List UInt8) (l : List (List Bool)) (a : Option Addr) (cap : Nat) (w : World) (h : WrS w wp base bs) (hwp : base ≤ wp) (hr : RowOf (listC flagC 1) 1 (· < base) w l a) (hl : bs.length + (encL (encL encB) l).length ≤ 1000000000) :
    Calls Tryd.prog 34 #[.pointer (some ⟨wp, 0, none⟩), .slice a l.length cap, .func (.func 35) #[.pointer (some ⟨wp, 0, none⟩)] #[]] w fun e w' => WrP base wp bs (encL (encL encB) l) w e w' := by
  rw [encL, List.length_append] at hl
  have hb : base ≤ w.heap.size := by obtain ⟨_, _, _, _, _, _, h5⟩ := h; exact h5
  have hll := hr.1
  have HC := hide (size_w base wp bs l.length w h (by omega) (by omega))
  have HR := hide hr
  have HL := hide hl
  clear h hl hr
  go_enter Tryd.func34, Tryd.ntmps34
  go_wp2_with fail
  refine (unhide HC).mono ?_
  intro e w1 hp
  obtain rfl := hp.1
  have HP := hide hp.2
  clear hp HC
  go_wp2
  go_loopw [15] (fun t wr => ∃ i : Nat, i ≤ l.length ∧ t = .int .i64 i ∧ Hid (WrS wr wp base (bs ++ sz l.length ++ (l.take i).flatMap (encL encB)) ∧ WFr base wp w wr)) (fun t _ => l.length - (intOf t).toNat)
  case atStart => exact ⟨0, by omega, rfl, hide ⟨by simpa using (unhide HP).1, (unhide HP).2⟩⟩
  case round =>
    obtain ⟨i, hi, rfl, hI⟩ := hrel
    by_cases hlt : i < l.length
    · obtain ⟨b, off, cs, rfl, hS, hC, _, hcell⟩ := (WFr.row (listG flagG 1) (unhide hI).2 hwp hb (unhide HR)).2 i hlt
      obtain ⟨aa, cc, rfl, hrr⟩ := hC
      have hc0 : wr.cell? ⟨b, off + i, none⟩ = some (.slice aa l[i].length cc) := by have := hcell 0 _ rfl; simpa using this
      have HX := hide (flags_w base wp (bs ++ sz l.length ++ (l.take i).flatMap (encL encB)) l[i] aa cc wr (unhide hI).1 hwp hrr (by
        have h1 := unhide HL
        have h2 := part_len (encL encB) hlt
        simp only [List.length_append]; omega))
      have HN : Hid ((l.take (i + 1)).flatMap (encL encB) = (l.take i).flatMap (encL encB) ++ (encL encB) l[i]) := hide (part_next (encL encB) hlt)
      clear hcell hrr
      generalize l[i] = x at *
      go_wp2_with fail
      refine (unhide HX).mono ?_
      intro e w2 hp
      obtain rfl := hp.1
      have HQ := hide hp.2
      clear hp HX
      go_wp2
      go_roundw
      case rel => exact ⟨i + 1, by omega, rfl, hide ⟨by rw [unhide HN, ← List.append_assoc]; exact (unhide HQ).1, (unhide hI).2.trans (unhide HQ).2⟩⟩
      case measure => simp [intOf]; omega
    · obtain rfl : i = l.length := by omega
      go_wp2
      go_end0
      exact ⟨rfl, by have := (unhide hI).1; rwa [List.take_length, List.append_assoc] at this, (unhide hI).2⟩
end Go.Proofs.YtfkjjljhabjcjaaDoor
