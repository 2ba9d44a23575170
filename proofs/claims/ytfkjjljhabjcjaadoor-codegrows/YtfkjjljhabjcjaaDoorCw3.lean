/- The writer: numbers, texts. -/
import Derived.Test.YtfkjjljhabjcjaaDoorCw2
import Derived.Laws.Bits64b
namespace Go.Proofs.YtfkjjljhabjcjaaDoor
open Go.RowKit Go.Proofs.YtfkjjljhabjcjaaDoor.Cx
theorem zig_lt {z : Int} (hz : okN z) : zig z < 18446744073709551616 := by
  obtain ⟨h1, h2⟩ := hz
  unfold zig
  split <;> omega
theorem zig_bits {z : Int} (hz : okN z) : bits BinOp.xor IntKind.u64 (IntKind.u64.wrap (IntKind.u64.wrap z * 2)) (IntKind.u64.wrap (z / 9223372036854775808)) = ((zig z : Nat) : Int) := by
  obtain ⟨h1, h2⟩ := hz
  by_cases h0 : 0 ≤ z
  · have e1 : IntKind.u64.wrap (IntKind.u64.wrap z * 2) = (((2 * z).toNat : Nat) : Int) := by rw [IntKind.wrap_u64, IntKind.wrap_u64]; omega
    have e2 : IntKind.u64.wrap (z / 9223372036854775808) = ((0 : Nat) : Int) := by rw [IntKind.wrap_u64]; omega
    rw [e1, e2, bits_xor_u64_nat _ _ (by omega) (by omega), Nat.xor_zero]
    unfold zig
    rw [if_pos h0]
  · have e1 : IntKind.u64.wrap (IntKind.u64.wrap z * 2) = (((2 * z + 18446744073709551616).toNat : Nat) : Int) := by rw [IntKind.wrap_u64, IntKind.wrap_u64]; omega
    have e2 : IntKind.u64.wrap (z / 9223372036854775808) = ((2 ^ 64 - 1 : Nat) : Int) := by rw [IntKind.wrap_u64]; omega
    rw [e1, e2, bits_xor_u64_nat _ _ (by omega) (by omega), Nat.xor_comm, Lib.xor_ones64 _ (by omega)]
    unfold zig
    rw [if_neg h0]
    omega
set_option maxRecDepth 100000 in
set_option maxHeartbeats 1000000 in
theorem number_w (base wp : Nat) (bs : List UInt8) (z : Int) (w : World) (h : WrS w wp base bs) (hz : okN z) (hl : bs.length + (encN z).length ≤ 1000000000) :
    Calls Tryd.prog 38 #[.pointer (some ⟨wp, 0, none⟩), .int .i64 z] w fun e w' => WrP base wp bs (encN z) w e w' := by
  have HC := hide (size_w base wp bs (zig z) w h (zig_lt hz) hl)
  rw [← zig_bits hz] at HC
  obtain ⟨h1, h2⟩ := hz
  clear h hl
  go_enter Tryd.func38, Tryd.ntmps38
  go_wp2_with fail
  refine (unhide HC).mono ?_
  intro e w' hp
  obtain rfl := hp.1
  have HP := hide hp
  clear hp
  go_wp2
  go_end0
  exact unhide HP
theorem WrS.push0 {w w1 : World} {wp base g cp cap : Nat} {ao : Option Addr} {bs news : List UInt8} (h4 : Ty w wp 56) (hc : w.cell? ⟨wp, 0, none⟩ = some (.slice ao bs.length cp)) (h2 : w.frozen? ⟨wp, 0, none⟩ = false) (h3 : w.ownsRow base 5 1 (.slice ao bs.length cp) bs.length (bs.map byteV)) (h5 : base ≤ w.heap.size)
    (ho : w1.ownsRow base 5 1 (.slice (some ⟨g, 0, none⟩) (bs.length + news.length) cap) (bs.length + news.length) (bs.map byteV ++ news.map byteV)) (hg : w.grownBy w1 (Value.slice ao bs.length cp).ownBlock) :
    w1.cell? ⟨wp, 0, none⟩ = some (.slice ao bs.length cp) ∧ w1.frozen? ⟨wp, 0, none⟩ = false ∧ WrS (w1.setCell ⟨wp, 0, none⟩ (.slice (some ⟨g, 0, none⟩) (bs.length + news.length) cap)) wp base (bs ++ news) ∧ WFr base wp w w1 := by
  have hF : WFr base wp w w1 := WFr.grown hg h3
  have hne : some wp ≠ (Value.slice ao bs.length cp).ownBlock := fun e => (h4.ne (by decide)) (Ty.own h3 e.symm)
  have hblk : w1.heap[wp]? = w.heap[wp]? := hg.block wp h4.lt hne
  have hc1 : w1.cell? ⟨wp, 0, none⟩ = some (.slice ao bs.length cp) := (World.cell?_of_block (w := w) (a := ⟨wp, 0, none⟩) hblk).trans hc
  have hT : Ty w1 wp 56 := h4.same hblk
  have hwg : wp ≠ g := fun e => (hT.ne (by decide)) (Ty.own ho (by rw [e]; rfl))
  refine ⟨hc1, (World.frozen?_of_block (w := w) (a := ⟨wp, 0, none⟩) hblk).trans h2, ⟨some ⟨g, 0, none⟩, cap, ?_, ?_, ?_, hT.setCell _ _, ?_⟩, hF⟩
  · rw [List.length_append]; exact World.cell?_setCell_same _ _ _ hc1
  · rw [World.frozen?_setCell]; exact (World.frozen?_of_block (w := w) (a := ⟨wp, 0, none⟩) hblk).trans h2
  · rw [List.length_append, List.map_append]
    exact own_blk ho fun x hx => Below.heap_setCell _ _ _ _ (fun e => by
      have : g = x := by simpa [Value.ownBlock] using hx
      exact hwg (e.symm.trans this.symm))
  · have := hF.size
    simp [World.setCell]
    omega
theorem str_bytes (s : ByteArray) : Lib.strCells s = s.data.toList.map byteV := rfl
theorem encT_len (s : ByteArray) : (encT s).length = (sz s.size).length + s.size := by
  unfold encT
  rw [List.length_append, Array.length_toList]; rfl
set_option maxRecDepth 100000 in
set_option maxHeartbeats 1000000 in
theorem text_w (base wp : Nat) (bs : List UInt8) (s : ByteArray) (w : World) (h : WrS w wp base bs) (hs : s.size ≤ 281474976710656) (hl : bs.length + (encT s).length ≤ 1000000000) :
    Calls Tryd.prog 31 #[.pointer (some ⟨wp, 0, none⟩), .string s] w fun e w' => WrP base wp bs (encT s) w e w' := by
  rw [encT_len] at hl
  have HC := hide (size_w base wp bs s.size w h (by omega) (by omega))
  have hl1 : (bs ++ sz s.size).length + s.size ≤ 1000000000 := by rw [List.length_append]; omega
  have hl0 : 0 < (bs ++ sz s.size).length := by have := sz_pos s.size; rw [List.length_append]; omega
  clear h hl
  go_enter Tryd.func31, Tryd.ntmps31
  go_wp2_with fail
  refine (unhide HC).mono ?_
  intro e w' hp
  obtain rfl := hp.1
  have HE : Hid (∀ W, WrS W wp base (bs ++ sz s.size ++ s.data.toList) → WFr base wp w' W → WrP base wp bs (encT s) w (.returned (.tuple #[])) W) := hide fun W h1 h2 => ⟨rfl, by rw [encT, ← List.append_assoc]; exact h1, hp.2.2.trans h2⟩
  obtain ⟨ao, cp, hc, hf, ho, hT, hb⟩ := hp.2.1
  clear hp HC
  generalize bs ++ sz s.size = b1 at *
  have HO := hide ho
  have HP : Hid (∀ v' w1, w1.ownsRow base 5 1 v' (b1.length + s.size) (b1.map byteV ++ Lib.strCells s) → w'.grownBy w1 (Value.slice ao b1.length cp).ownBlock → ∃ g cap, v' = .slice (some ⟨g, 0, none⟩) (b1.length + s.size) cap ∧ w1.cell? ⟨wp, 0, none⟩ = some (.slice ao b1.length cp) ∧ w1.frozen? ⟨wp, 0, none⟩ = false ∧ Hid (WrS (w1.setCell ⟨wp, 0, none⟩ (.slice (some ⟨g, 0, none⟩) (b1.length + s.size) cap)) wp base (b1 ++ s.data.toList) ∧ WFr base wp w' w1)) := by
    refine hide fun v' w1 h1 h2 => ?_
    obtain ⟨g, cap, rfl, _, _⟩ := h1.form (by omega)
    have hsl : s.data.toList.length = s.size := by rw [Array.length_toList]; rfl
    have hp := WrS.push0 (news := s.data.toList) (g := g) (cap := cap) hT hc hf ho hb (by rw [hsl]; exact h1) h2
    rw [hsl] at hp
    exact ⟨g, cap, rfl, hp.1, hp.2.1, hide hp.2.2⟩
  clear ho hT
  obtain ⟨i1, hi, hz0, hz1, hz2⟩ := info_parts Tryd.info5
  go_wp2_with (first | (at_builtin; refine Lib.wpList_append_own_string _ rfl (.tmp 13) (.tmp 14) 32 9 rfl base 5 i1 Tryd.underlying32 Tryd.underlying9 hi hz0 hz1 hz2 (.slice ao b1.length cp) b1.length (b1.map byteV) rfl (unhide HO) s rfl (by unfold maxLen; omega) (by omega) hb ?_; intro v' w1 hown hgrow _; obtain ⟨g, cap, rfl, hc1, hf1, HQ⟩ := (unhide HP) v' w1 hown hgrow; clear hown hgrow))
  go_end0
  exact unhide HE _ (unhide HQ).1 ((unhide HQ).2.setCell _ rfl _)
end Go.Proofs.YtfkjjljhabjcjaaDoor
