/- The writer: lists. -/
import Derived.Test.YtfkjjljhabjcjaaDoorCw3
namespace Go.Proofs.YtfkjjljhabjcjaaDoor
open Go.RowKit Go.Proofs.YtfkjjljhabjcjaaDoor.Cx
theorem WFr.row {α : Type} {C : (Nat → Prop) → World → α → List Value → Prop} (g : Gd C) {base wp size : Nat} {w w' : World} (h : WFr base wp w w') (hw : base ≤ wp) (hs : base ≤ w.heap.size) {l : List α} {a : Option Addr} (hr : RowOf C size (· < base) w l a) : RowOf C size (· < base) w' l a :=
  g.rowS (fun k hk => h.block k (by omega) (by omega) (.inl hk)) hr
theorem WFr.item {α : Type} {C : (Nat → Prop) → World → α → List Value → Prop} (g : Gd C) {base wp : Nat} {w w' : World} (h : WFr base wp w w') (hw : base ≤ wp) (hs : base ≤ w.heap.size) {x : α} {cs : List Value} (hr : C (· < base) w x cs) : C (· < base) w' x cs :=
  g.same (fun k hk => h.block k (by omega) (by omega) (.inl hk)) hr
theorem part_len {α : Type} (f : α → List UInt8) {l : List α} {i : Nat} (h : i < l.length) : ((l.take i).flatMap f).length + (f l[i]).length ≤ (l.flatMap f).length := by
  have e : l = l.take i ++ l[i] :: l.drop (i + 1) := by rw [← List.drop_eq_getElem_cons h, List.take_append_drop]
  have := congrArg (fun l => (l.flatMap f).length) e
  simp only [List.flatMap_append, List.flatMap_cons, List.length_append] at this
  omega
theorem part_next {α : Type} (f : α → List UInt8) {l : List α} {i : Nat} (h : i < l.length) : (l.take (i + 1)).flatMap f = (l.take i).flatMap f ++ f l[i] := by
  rw [List.take_add_one, List.getElem?_eq_getElem h, List.flatMap_append]
  simp
set_option maxRecDepth 100000 in
set_option maxHeartbeats 1000000 in
theorem bools_w (base wp : Nat) (bs : List UInt8) (l : List Bool) (a : Option Addr) (cap : Nat) (w : World) (h : WrS w wp base bs) (hwp : base ≤ wp) (hr : RowOf flagC 1 (· < base) w l a) (hl : bs.length + (encL encB l).length ≤ 1000000000) :
    Calls Tryd.prog 32 #[.pointer (some ⟨wp, 0, none⟩), .slice a l.length cap, .func (.func 33) #[.pointer (some ⟨wp, 0, none⟩)] #[]] w fun e w' => WrP base wp bs (encL encB l) w e w' := by
  rw [encL, List.length_append] at hl
  have hb : base ≤ w.heap.size := by obtain ⟨_, _, _, _, _, _, h5⟩ := h; exact h5
  have hll := hr.1
  have HC := hide (size_w base wp bs l.length w h (by omega) (by omega))
  have HR := hide hr
  have HL := hide hl
  clear h hl hr
  go_enter Tryd.func32, Tryd.ntmps32
  go_wp2_with fail
  refine (unhide HC).mono ?_
  intro e w1 hp
  obtain rfl := hp.1
  have HP := hide hp.2
  clear hp HC
  go_wp2
  go_loopw [15] (fun t wr => ∃ i : Nat, i ≤ l.length ∧ t = .int .i64 i ∧ Hid (WrS wr wp base (bs ++ sz l.length ++ (l.take i).flatMap encB) ∧ WFr base wp w wr)) (fun t _ => l.length - (intOf t).toNat)
  case atStart => exact ⟨0, by omega, rfl, hide ⟨by simpa using (unhide HP).1, (unhide HP).2⟩⟩
  case round =>
    obtain ⟨i, hi, rfl, hI⟩ := hrel
    by_cases hlt : i < l.length
    · obtain ⟨b, off, cs, rfl, hS, hC, _, hcell⟩ := (WFr.row flagG (unhide hI).2 hwp hb (unhide HR)).2 i hlt
      have hcs : cs = [.bool l[i]] := hC
      subst hcs
      have hc0 : wr.cell? ⟨b, off + i, none⟩ = some (.bool l[i]) := by have := hcell 0 _ rfl; simpa using this
      have HX := hide (flag_w base wp (bs ++ sz l.length ++ (l.take i).flatMap encB) l[i] wr (unhide hI).1 (by
        have h1 := unhide HL
        have h2 := part_len encB hlt
        simp only [List.length_append]; omega))
      have HN : Hid ((l.take (i + 1)).flatMap encB = (l.take i).flatMap encB ++ encB l[i]) := hide (part_next encB hlt)
      clear hcell hC
      generalize l[i] = x at *
      go_wp2_with fail
      refine (unhide HX).mono ?_
      intro e w2 hp
      obtain rfl := hp.1
      have HQ := hide hp.2
      clear hp HX
      go_wp2
      go_roundw
      case rel => exact ⟨i + 1, by omega, rfl, hide ⟨by rw [unhide HN, ← List.append_assoc]; exact (unhide HQ).1, (unhide hI).2.trans (unhide HQ).2⟩⟩
      case measure => simp [intOf]; omega
    · obtain rfl : i = l.length := by omega
      go_wp2
      go_end0
      exact ⟨rfl, by have := (unhide hI).1; rwa [List.take_length, List.append_assoc] at this, (unhide hI).2⟩
end Go.Proofs.YtfkjjljhabjcjaaDoor
