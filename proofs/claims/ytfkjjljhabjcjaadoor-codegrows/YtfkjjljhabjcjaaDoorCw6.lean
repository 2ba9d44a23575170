/- The writer: instructions. -/
import Derived.Test.YtfkjjljhabjcjaaDoorCw5
namespace Go.Proofs.YtfkjjljhabjcjaaDoor
open Go.RowKit Go.Proofs.YtfkjjljhabjcjaaDoor.Cx
/-- Between the fields of a struct that lies in the block B: what is written, what is kept. -/
structure Stg (w : World) (wp base B t : Nat) (cs : List Value) (bs : List UInt8) (W : World) : Prop where
  wr : WrS W wp base bs
  fr : WFr base wp w W
  box : ∀ k u, cs[k]? = some u → W.cell? ⟨B, k, none⟩ = some u
  ty : Ty W B t
  ne : B ≠ wp
  t5 : t ≠ 5
theorem Stg.next {w W W' : World} {wp base B t : Nat} {cs : List Value} {bs news : List UInt8} {e : Ending} (h : Stg w wp base B t cs bs W) (hp : WrP base wp bs news W e W') : Stg w wp base B t cs (bs ++ news) W' :=
  ⟨hp.2.1, h.fr.trans hp.2.2, fun k u hk => hp.2.2.cell (h.box k u hk) h.ne (.inr (h.ty.ne h.t5)), hp.2.2.ty h.ty h.ne h.t5, h.ne, h.t5⟩
theorem Stg.start {w : World} {wp base t : Nat} {cs : List Value} {bs : List UInt8} (h : WrS w wp base bs) (ht : t ≠ 5) : Stg w wp base w.heap.size t cs bs (w.alloc (.cells cs.toArray t)) :=
  ⟨h.alloc _, (WFr.refl _ _ _).alloc _, fun k u hk => by rw [World.cell?_alloc_at _ _ _ _ rfl]; simpa using hk, Ty.new _ _ _, by
    obtain ⟨_, _, _, _, _, h4, _⟩ := h
    have := h4.lt
    omega, ht⟩
set_option maxRecDepth 100000 in
set_option maxHeartbeats 2000000 in
theorem instr_w (base wp : Nat) (bs : List UInt8) (x : Ins) (cs : List Value) (w : World) (h : WrS w wp base bs) (hwp : base ≤ wp) (hC : insC (· < base) w x cs) (hl : bs.length + (encI x).length ≤ 1000000000) :
    Calls Tryd.prog 48 #[.pointer (some ⟨wp, 0, none⟩), .agg cs.toArray] w fun e w' => WrP base wp bs (encI x) w e w' := by
  have hb : base ≤ w.heap.size := by obtain ⟨_, _, _, _, _, _, h5⟩ := h; exact h5
  obtain ⟨⟨o0, o1, o2, o3, o4⟩, a, cap, rfl, hr⟩ := hC
  have henc : encI x = encN x.op ++ (encN x.a ++ (encN x.b ++ (encN x.c ++ (encN x.d ++ encL encN x.list)))) := by simp only [encI, encIt, enc2, Ins.tup]
  rw [henc]
  rw [henc] at hl
  simp only [List.length_append] at hl
  have HL := hide hl
  have H0 : Stg w wp base w.heap.size 43 [.int .i64 x.op, .int .i64 x.a, .int .i64 x.b, .int .i64 x.c, .int .i64 x.d, .slice a x.list.length cap] bs (w.alloc (.cells [.int .i64 x.op, .int .i64 x.a, .int .i64 x.b, .int .i64 x.c, .int .i64 x.d, .slice a x.list.length cap].toArray 43)) := Stg.start h (by decide)
  clear h hl henc
  go_enter Tryd.func48, Tryd.ntmps48
  have bx0 := H0.box 0 _ rfl
  have G0 := hide H0
  clear H0
  go_wp2_with fail
  refine (number_w base wp _ x.op _ (unhide G0).wr o0 (by have := unhide HL; (try simp only [List.length_append]); omega)).mono ?_
  intro e w1 hp
  obtain rfl := hp.1
  have H1 := (unhide G0).next hp
  clear hp bx0
  have bx1 := H1.box 1 _ rfl
  have G1 := hide H1
  clear H1
  go_wp2_with fail
  refine (number_w base wp _ x.a _ (unhide G1).wr o1 (by have := unhide HL; (try simp only [List.length_append]); omega)).mono ?_
  intro e w2 hp
  obtain rfl := hp.1
  have H2 := (unhide G1).next hp
  clear hp bx1
  have bx2 := H2.box 2 _ rfl
  have G2 := hide H2
  clear H2
  go_wp2_with fail
  refine (number_w base wp _ x.b _ (unhide G2).wr o2 (by have := unhide HL; (try simp only [List.length_append]); omega)).mono ?_
  intro e w3 hp
  obtain rfl := hp.1
  have H3 := (unhide G2).next hp
  clear hp bx2
  have bx3 := H3.box 3 _ rfl
  have G3 := hide H3
  clear H3
  go_wp2_with fail
  refine (number_w base wp _ x.c _ (unhide G3).wr o3 (by have := unhide HL; (try simp only [List.length_append]); omega)).mono ?_
  intro e w4 hp
  obtain rfl := hp.1
  have H4 := (unhide G3).next hp
  clear hp bx3
  have bx4 := H4.box 4 _ rfl
  have G4 := hide H4
  clear H4
  go_wp2_with fail
  refine (number_w base wp _ x.d _ (unhide G4).wr o4 (by have := unhide HL; (try simp only [List.length_append]); omega)).mono ?_
  intro e w5 hp
  obtain rfl := hp.1
  have H5 := (unhide G4).next hp
  clear hp bx4
  have bx5 := H5.box 5 _ rfl
  have G5 := hide H5
  clear H5
  go_wp2_with fail
  refine (ints_w base wp _ x.list a cap _ (unhide G5).wr hwp (WFr.row numG (unhide G5).fr hwp hb hr) (by have := unhide HL; (try simp only [List.length_append]); omega)).mono ?_
  intro e w6 hp
  obtain rfl := hp.1
  have H6 := (unhide G5).next hp
  clear hp bx5
  have GE := hide H6
  clear H6
  go_wp2
  go_end0
  exact ⟨rfl, by have := (unhide GE).wr; simpa only [List.append_assoc] using this, (unhide GE).fr⟩
end Go.Proofs.YtfkjjljhabjcjaaDoor
