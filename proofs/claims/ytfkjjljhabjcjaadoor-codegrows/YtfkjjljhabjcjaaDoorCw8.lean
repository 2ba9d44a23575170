/- The writer: functions. -/
import Derived.Test.YtfkjjljhabjcjaaDoorCw7
namespace Go.Proofs.YtfkjjljhabjcjaaDoor
open Go.RowKit Go.Proofs.YtfkjjljhabjcjaaDoor.Cx
set_option maxRecDepth 100000 in
set_option maxHeartbeats 2000000 in
theorem func_w (base wp : Nat) (bs : List UInt8) (x : Fnc) (cs : List Value) (w : World) (h : WrS w wp base bs) (hwp : base ≤ wp) (hC : fncC (· < base) w x cs) (hl : bs.length + (encF x).length ≤ 1000000000) :
    Calls Tryd.prog 37 #[.pointer (some ⟨wp, 0, none⟩), .agg cs.toArray] w fun e w' => WrP base wp bs (encF x) w e w' := by
  have hb : base ≤ w.heap.size := by obtain ⟨_, _, _, _, _, _, h5⟩ := h; exact h5
  obtain ⟨⟨o0, o1, o2⟩, a1, c1, a2, c2, rfl, hr, hk⟩ := hC
  have henc : encF x = encT x.name ++ (encL encB x.refs ++ (encN x.params ++ (encN x.captures ++ (encB x.result ++ encL encI x.code)))) := by simp only [encF, encFt, enc2, Fnc.tup]
  rw [henc]
  rw [henc] at hl
  simp only [List.length_append] at hl
  have HL := hide hl
  have H0 : Stg w wp base w.heap.size 38 [.string x.name, .slice a1 x.refs.length c1, .int .i64 x.params, .int .i64 x.captures, .bool x.result, .slice a2 x.code.length c2] bs (w.alloc (.cells [.string x.name, .slice a1 x.refs.length c1, .int .i64 x.params, .int .i64 x.captures, .bool x.result, .slice a2 x.code.length c2].toArray 38)) := Stg.start h (by decide)
  clear h hl henc
  go_enter Tryd.func37, Tryd.ntmps37
  have bx0 := H0.box 0 _ rfl
  have G0 := hide H0
  clear H0
  go_wp2_with fail
  refine (text_w base wp _ x.name _ (unhide G0).wr o0 (by have := unhide HL; (try simp only [List.length_append]); omega)).mono ?_
  intro e w1 hp
  obtain rfl := hp.1
  have H1 := (unhide G0).next hp
  clear hp bx0
  have bx1 := H1.box 1 _ rfl
  have G1 := hide H1
  clear H1
  go_wp2_with fail
  refine (flags_w base wp _ x.refs a1 c1 _ (unhide G1).wr hwp (WFr.row flagG (unhide G1).fr hwp hb hr) (by have := unhide HL; (try simp only [List.length_append]); omega)).mono ?_
  intro e w2 hp
  obtain rfl := hp.1
  have H2 := (unhide G1).next hp
  clear hp bx1
  have bx2 := H2.box 2 _ rfl
  have G2 := hide H2
  clear H2
  go_wp2_with fail
  refine (number_w base wp _ x.params _ (unhide G2).wr o1 (by have := unhide HL; (try simp only [List.length_append]); omega)).mono ?_
  intro e w3 hp
  obtain rfl := hp.1
  have H3 := (unhide G2).next hp
  clear hp bx2
  have bx3 := H3.box 3 _ rfl
  have G3 := hide H3
  clear H3
  go_wp2_with fail
  refine (number_w base wp _ x.captures _ (unhide G3).wr o2 (by have := unhide HL; (try simp only [List.length_append]); omega)).mono ?_
  intro e w4 hp
  obtain rfl := hp.1
  have H4 := (unhide G3).next hp
  clear hp bx3
  have bx4 := H4.box 4 _ rfl
  have G4 := hide H4
  clear H4
  go_wp2_with fail
  refine (flag_w base wp _ x.result _ (unhide G4).wr (by have := unhide HL; (try simp only [List.length_append]); omega)).mono ?_
  intro e w5 hp
  obtain rfl := hp.1
  have H5 := (unhide G4).next hp
  clear hp bx4
  have bx5 := H5.box 5 _ rfl
  have G5 := hide H5
  clear H5
  go_wp2_with fail
  refine (code_w base wp _ x.code a2 c2 _ (unhide G5).wr hwp (WFr.row insG (unhide G5).fr hwp hb hk) (by have := unhide HL; (try simp only [List.length_append]); omega)).mono ?_
  intro e w6 hp
  obtain rfl := hp.1
  have H6 := (unhide G5).next hp
  clear hp bx5
  have GE := hide H6
  clear H6
  go_wp2
  go_end0
  exact ⟨rfl, by have := (unhide GE).wr; simpa only [List.append_assoc] using this, (unhide GE).fr⟩
set_option maxRecDepth 100000 in
set_option maxHeartbeats 2000000 in
theorem funcs_w (base wp : Nat) (bs : List UInt8) (l : List Fnc) (a : Option Addr) (cap : Nat) (w : World) (h : WrS w wp base bs) (hwp : base ≤ wp) (hr : RowOf fncC 6 (· < base) w l a) (hl : bs.length + (encL encF l).length ≤ 1000000000) :
    Calls Tryd.prog 36 #[.pointer (some ⟨wp, 0, none⟩), .slice a l.length cap, .func (.func 37) #[.pointer (some ⟨wp, 0, none⟩)] #[]] w fun e w' => WrP base wp bs (encL encF l) w e w' := by
  rw [encL, List.length_append] at hl
  have hb : base ≤ w.heap.size := by obtain ⟨_, _, _, _, _, _, h5⟩ := h; exact h5
  have hll := hr.1
  have HC := hide (size_w base wp bs l.length w h (by omega) (by omega))
  have HR := hide hr
  have HL := hide hl
  clear h hl hr
  go_enter Tryd.func36, Tryd.ntmps36
  go_wp2_with fail
  refine (unhide HC).mono ?_
  intro e w1 hp
  obtain rfl := hp.1
  have HP := hide hp.2
  clear hp HC
  go_wp2
  go_loopw [15] (fun t wr => ∃ i : Nat, i ≤ l.length ∧ t = .int .i64 i ∧ Hid (WrS wr wp base (bs ++ sz l.length ++ (l.take i).flatMap encF) ∧ WFr base wp w wr)) (fun t _ => l.length - (intOf t).toNat)
  case atStart => exact ⟨0, by omega, rfl, hide ⟨by simpa using (unhide HP).1, (unhide HP).2⟩⟩
  case round =>
    obtain ⟨i, hi, rfl, hI⟩ := hrel
    by_cases hlt : i < l.length
    · obtain ⟨b, off, cs, rfl, hS, hC, _, hcell⟩ := (WFr.row fncG (unhide hI).2 hwp hb (unhide HR)).2 i hlt
      have HI := hide hC
      obtain ⟨_, aa, cc, ab, cd, rfl, hrr, hkk⟩ := hC
      have hc0 : wr.cell? ⟨b, off + i * 6, none⟩ = some (.string l[i].name) := by have := hcell 0 _ rfl; simpa using this
      have hc1 : wr.cell? ⟨b, off + i * 6 + 1, none⟩ = some (.slice aa l[i].refs.length cc) := by have := hcell 1 _ rfl; simpa using this
      have hc2 : wr.cell? ⟨b, off + i * 6 + 2, none⟩ = some (.int .i64 l[i].params) := by have := hcell 2 _ rfl; simpa using this
      have hc3 : wr.cell? ⟨b, off + i * 6 + 3, none⟩ = some (.int .i64 l[i].captures) := by have := hcell 3 _ rfl; simpa using this
      have hc4 : wr.cell? ⟨b, off + i * 6 + 4, none⟩ = some (.bool l[i].result) := by have := hcell 4 _ rfl; simpa using this
      have hc5 : wr.cell? ⟨b, off + i * 6 + 5, none⟩ = some (.slice ab l[i].code.length cd) := by have := hcell 5 _ rfl; simpa using this
      have hbr : base ≤ wr.heap.size := by have := (unhide hI).2.size; omega
      have HX : Hid (∀ W, WFr base wp wr W → WrS W wp base (bs ++ sz l.length ++ (l.take i).flatMap encF) → Calls Tryd.prog 37 #[.pointer (some ⟨wp, 0, none⟩), .agg #[(.string l[i].name), (.slice aa l[i].refs.length cc), (.int .i64 l[i].params), (.int .i64 l[i].captures), (.bool l[i].result), (.slice ab l[i].code.length cd)]] W fun e w' => WrP base wp (bs ++ sz l.length ++ (l.take i).flatMap encF) (encF l[i]) W e w') := hide fun W hW hS => func_w base wp (bs ++ sz l.length ++ (l.take i).flatMap encF) l[i] _ W hS hwp (WFr.item fncG hW hwp hbr (unhide HI)) (by
        have h1 := unhide HL
        have h2 := part_len encF hlt
        simp only [List.length_append]; omega)
      have HN : Hid ((l.take (i + 1)).flatMap encF = (l.take i).flatMap encF ++ encF l[i]) := hide (part_next encF hlt)
      clear hcell HI hrr hkk
      generalize l[i] = x at *
      go_wp2_with fail
      refine ((unhide HX) _ ((WFr.refl _ _ _).alloc _) ((unhide hI).1.alloc _)).mono ?_
      intro e w2 hp
      obtain rfl := hp.1
      have HQ := hide hp.2
      clear hp HX
      go_wp2
      go_roundw
      case rel => exact ⟨i + 1, by omega, rfl, hide ⟨by rw [unhide HN, ← List.append_assoc]; exact (unhide HQ).1, (unhide hI).2.trans (((WFr.refl _ _ _).alloc _).trans (unhide HQ).2)⟩⟩
      case measure => simp [intOf]; omega
    · obtain rfl : i = l.length := by omega
      go_wp2
      go_end0
      exact ⟨rfl, by have := (unhide hI).1; rwa [List.take_length, List.append_assoc] at this, (unhide hI).2⟩
end Go.Proofs.YtfkjjljhabjcjaaDoor
