/- The writer: programs. -/
import Derived.Test.YtfkjjljhabjcjaaDoorCw8
namespace Go.Proofs.YtfkjjljhabjcjaaDoor
open Go.RowKit Go.Proofs.YtfkjjljhabjcjaaDoor.Cx
set_option maxRecDepth 100000 in
set_option maxHeartbeats 2000000 in
theorem program_w (base wp : Nat) (bs : List UInt8) (x : Prg) (cs : List Value) (w : World) (h : WrS w wp base bs) (hwp : base ≤ wp) (hC : prgC (· < base) w x cs) (hl : bs.length + (encP x).length ≤ 1000000000) :
    Calls Tryd.prog 18 #[.pointer (some ⟨wp, 0, none⟩), .agg cs.toArray] w fun e w' => WrP base wp bs (encP x) w e w' := by
  have hb : base ≤ w.heap.size := by obtain ⟨_, _, _, _, _, _, h5⟩ := h; exact h5
  obtain ⟨o0, a1, c1, a2, c2, a3, c3, a4, c4, rfl, h1, h2, h3, h4⟩ := hC
  have henc : encP x = encL encT x.texts ++ (encL encB x.globals ++ (encL (encL encB) x.structs ++ (encL encF x.funcs ++ encN x.main))) := by simp only [encP, encPt, enc2, Prg.tup]
  rw [henc]
  rw [henc] at hl
  simp only [List.length_append] at hl
  have HL := hide hl
  have H0 : Stg w wp base w.heap.size 27 [.slice a1 x.texts.length c1, .slice a2 x.globals.length c2, .slice a3 x.structs.length c3, .slice a4 x.funcs.length c4, .int .i64 x.main] bs (w.alloc (.cells [.slice a1 x.texts.length c1, .slice a2 x.globals.length c2, .slice a3 x.structs.length c3, .slice a4 x.funcs.length c4, .int .i64 x.main].toArray 27)) := Stg.start h (by decide)
  clear h hl henc
  go_enter Tryd.func18, Tryd.ntmps18
  have bx0 := H0.box 0 _ rfl
  have G0 := hide H0
  clear H0
  go_wp2_with fail
  refine (texts_w base wp _ x.texts a1 c1 _ (unhide G0).wr hwp (WFr.row textG (unhide G0).fr hwp hb h1) (by have := unhide HL; (try simp only [List.length_append]); omega)).mono ?_
  intro e w1 hp
  obtain rfl := hp.1
  have H1 := (unhide G0).next hp
  clear hp bx0
  have bx1 := H1.box 1 _ rfl
  have G1 := hide H1
  clear H1
  go_wp2_with fail
  refine (bools_w base wp _ x.globals a2 c2 _ (unhide G1).wr hwp (WFr.row flagG (unhide G1).fr hwp hb h2) (by have := unhide HL; (try simp only [List.length_append]); omega)).mono ?_
  intro e w2 hp
  obtain rfl := hp.1
  have H2 := (unhide G1).next hp
  clear hp bx1
  have bx2 := H2.box 2 _ rfl
  have G2 := hide H2
  clear H2
  go_wp2_with fail
  refine (structs_w base wp _ x.structs a3 c3 _ (unhide G2).wr hwp (WFr.row (listG flagG 1) (unhide G2).fr hwp hb h3) (by have := unhide HL; (try simp only [List.length_append]); omega)).mono ?_
  intro e w3 hp
  obtain rfl := hp.1
  have H3 := (unhide G2).next hp
  clear hp bx2
  have bx3 := H3.box 3 _ rfl
  have G3 := hide H3
  clear H3
  go_wp2_with fail
  refine (funcs_w base wp _ x.funcs a4 c4 _ (unhide G3).wr hwp (WFr.row fncG (unhide G3).fr hwp hb h4) (by have := unhide HL; (try simp only [List.length_append]); omega)).mono ?_
  intro e w4 hp
  obtain rfl := hp.1
  have H4 := (unhide G3).next hp
  clear hp bx3
  have bx4 := H4.box 4 _ rfl
  have G4 := hide H4
  clear H4
  go_wp2_with fail
  refine (number_w base wp _ x.main _ (unhide G4).wr o0 (by have := unhide HL; (try simp only [List.length_append]); omega)).mono ?_
  intro e w5 hp
  obtain rfl := hp.1
  have H5 := (unhide G4).next hp
  clear hp bx4
  have GE := hide H5
  clear H5
  go_wp2
  go_end0
  exact ⟨rfl, by have := (unhide GE).wr; simpa only [List.append_assoc] using this, (unhide GE).fr⟩
end Go.Proofs.YtfkjjljhabjcjaaDoor
