/- The writer: lists of instructions. -/
import Derived.Test.YtfkjjljhabjcjaaDoorCw6
namespace Go.Proofs.YtfkjjljhabjcjaaDoor
open Go.RowKit Go.Proofs.YtfkjjljhabjcjaaDoor.Cx
set_option maxRecDepth 100000 in
set_option maxHeartbeats 2000000 in
theorem code_w (base wp : Nat) (bs : List UInt8) (l : List Ins) (a : Option Addr) (cap : Nat) (w : World) (h : WrS w wp base bs) (hwp : base ≤ wp) (hr : RowOf insC 6 (· < base) w l a) (hl : bs.length + (encL encI l).length ≤ 1000000000) :
    Calls Tryd.prog 47 #[.pointer (some ⟨wp, 0, none⟩), .slice a l.length cap, .func (.func 48) #[.pointer (some ⟨wp, 0, none⟩)] #[]] w fun e w' => WrP base wp bs (encL encI l) w e w' := by
  rw [encL, List.length_append] at hl
  have hb : base ≤ w.heap.size := by obtain ⟨_, _, _, _, _, _, h5⟩ := h; exact h5
  have hll := hr.1
  have HC := hide (size_w base wp bs l.length w h (by omega) (by omega))
  have HR := hide hr
  have HL := hide hl
  clear h hl hr
  go_enter Tryd.func47, Tryd.ntmps47
  go_wp2_with fail
  refine (unhide HC).mono ?_
  intro e w1 hp
  obtain rfl := hp.1
  have HP := hide hp.2
  clear hp HC
  go_wp2
  go_loopw [15] (fun t wr => ∃ i : Nat, i ≤ l.length ∧ t = .int .i64 i ∧ Hid (WrS wr wp base (bs ++ sz l.length ++ (l.take i).flatMap encI) ∧ WFr base wp w wr)) (fun t _ => l.length - (intOf t).toNat)
  case atStart => exact ⟨0, by omega, rfl, hide ⟨by simpa using (unhide HP).1, (unhide HP).2⟩⟩
  case round =>
    obtain ⟨i, hi, rfl, hI⟩ := hrel
    by_cases hlt : i < l.length
    · obtain ⟨b, off, cs, rfl, hS, hC, _, hcell⟩ := (WFr.row insG (unhide hI).2 hwp hb (unhide HR)).2 i hlt
      have HI := hide hC
      obtain ⟨_, aa, cc, rfl, hrr⟩ := hC
      have hc0 : wr.cell? ⟨b, off + i * 6, none⟩ = some (.int .i64 l[i].op) := by have := hcell 0 _ rfl; simpa using this
      have hc1 : wr.cell? ⟨b, off + i * 6 + 1, none⟩ = some (.int .i64 l[i].a) := by have := hcell 1 _ rfl; simpa using this
      have hc2 : wr.cell? ⟨b, off + i * 6 + 2, none⟩ = some (.int .i64 l[i].b) := by have := hcell 2 _ rfl; simpa using this
      have hc3 : wr.cell? ⟨b, off + i * 6 + 3, none⟩ = some (.int .i64 l[i].c) := by have := hcell 3 _ rfl; simpa using this
      have hc4 : wr.cell? ⟨b, off + i * 6 + 4, none⟩ = some (.int .i64 l[i].d) := by have := hcell 4 _ rfl; simpa using this
      have hc5 : wr.cell? ⟨b, off + i * 6 + 5, none⟩ = some (.slice aa l[i].list.length cc) := by have := hcell 5 _ rfl; simpa using this
      have hbr : base ≤ wr.heap.size := by have := (unhide hI).2.size; omega
      have HX : Hid (∀ W, WFr base wp wr W → WrS W wp base (bs ++ sz l.length ++ (l.take i).flatMap encI) → Calls Tryd.prog 48 #[.pointer (some ⟨wp, 0, none⟩), .agg #[(.int .i64 l[i].op), (.int .i64 l[i].a), (.int .i64 l[i].b), (.int .i64 l[i].c), (.int .i64 l[i].d), (.slice aa l[i].list.length cc)]] W fun e w' => WrP base wp (bs ++ sz l.length ++ (l.take i).flatMap encI) (encI l[i]) W e w') := hide fun W hW hS => instr_w base wp (bs ++ sz l.length ++ (l.take i).flatMap encI) l[i] _ W hS hwp (WFr.item insG hW hwp hbr (unhide HI)) (by
        have h1 := unhide HL
        have h2 := part_len encI hlt
        simp only [List.length_append]; omega)
      have HN : Hid ((l.take (i + 1)).flatMap encI = (l.take i).flatMap encI ++ encI l[i]) := hide (part_next encI hlt)
      clear hcell HI hrr
      generalize l[i] = x at *
      go_wp2_with fail
      refine ((unhide HX) _ ((WFr.refl _ _ _).alloc _) ((unhide hI).1.alloc _)).mono ?_
      intro e w2 hp
      obtain rfl := hp.1
      have HQ := hide hp.2
      clear hp HX
      go_wp2
      go_roundw
      case rel => exact ⟨i + 1, by omega, rfl, hide ⟨by rw [unhide HN, ← List.append_assoc]; exact (unhide HQ).1, (unhide hI).2.trans (((WFr.refl _ _ _).alloc _).trans (unhide HQ).2)⟩⟩
      case measure => simp [intOf]; omega
    · obtain rfl : i = l.length := by omega
      go_wp2
      go_end0
      exact ⟨rfl, by have := (unhide hI).1; rwa [List.take_length, List.append_assoc] at this, (unhide hI).2⟩
end Go.Proofs.YtfkjjljhabjcjaaDoor
