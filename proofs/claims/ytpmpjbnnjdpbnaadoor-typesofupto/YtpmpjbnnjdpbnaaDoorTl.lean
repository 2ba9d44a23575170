/- The law TypesOf, walked. -/
import Derived.Test.YtpmpjbnnjdpbnaaDoorTb
import Derived.Test.YtpmpjbnnjdpbnaaDoorTy9
set_option linter.unusedVariables false
set_option linter.unusedSimpArgs false
namespace Go.Proofs.YtpmpjbnnjdpbnaaDoor
open Go.RowKit Go.Proofs.YtpmpjbnnjdpbnaaDoor.Lx

theorem new_builder (N : Nat) (w : World) (hN : N ≤ w.heap.size) : Lib.IsBuilderF 52 5 N w.heap.size (Lib.byteCells []) (w.alloc (.cells #[.pointer none, .slice none 0 0] 52)) :=
  .inl ⟨hN, .slice none 0 0, heap_alloc_new' _ _ rfl, ⟨rfl, .inl ⟨rfl, rfl⟩⟩, by simp [Value.ownBlock]⟩
theorem TrC.up {N M : Nat} {w : World} (h : N ≤ M) : ∀ {n : Nat} {t : Tr} {cs : List Value}, TrC N w n t cs → TrC M w n t cs := by
  intro n
  induction n with
  | zero => intro t cs hc; exact hc.elim
  | succ n ih =>
    intro t cs hc
    cases t with
    | mk kd tx nm ps ty rf kids =>
      obtain ⟨a, cp, e, hl, hm, hr⟩ := hc
      refine ⟨a, cp, e, hl, hm, fun j hj => ?_⟩
      obtain ⟨b, off, cs', e1, hb, hc', hx⟩ := hr j hj
      exact ⟨b, off, cs', e1, by omega, ih hc', hx⟩
theorem KidsT.up {N M : Nat} {w : World} {n : Nat} {kids : List Tr} {a : Option Addr} (h : KidsT N w n kids a) (hM : N ≤ M) : KidsT M w n kids a :=
  ⟨h.1, fun j hj => by
    obtain ⟨b, off, cs', e1, hb, hc', hx⟩ := h.2 j hj
    exact ⟨b, off, cs', e1, by omega, hc'.up hM, hx⟩⟩
theorem nb2 (N : Nat) (w : World) (o : Obj) (hN : N ≤ w.heap.size) : Lib.IsBuilderF 52 5 N (w.heap.size + 1) (Lib.byteCells []) ((w.alloc o).alloc (.cells #[.pointer none, .slice none 0 0] 52)) := by
  have h := new_builder N (w.alloc o) (by simp; omega)
  have e : (w.alloc o).heap.size = w.heap.size + 1 := by simp
  rw [e] at h
  exact h
set_option maxRecDepth 100000 in
set_option maxHeartbeats 1000000 in
theorem of25_w (N n : Nat) (kd : Int) (tx : ByteArray) (nm ps : Int) (ty : ByteArray) (rf : Int) (kids : List Tr) (a : Option Addr) (cp : Nat) (w : World) (hk : KidsT N w n kids a) (hN : N ≤ w.heap.size) (hcp : kids.length ≤ cp) (hwt : wt (n + 1) (.mk kd tx nm ps ty rf kids) ≤ 2097152) :
    Calls Tryd.prog 25 #[.agg #[.int .i64 kd, .string tx, .int .i64 nm, .int .i64 ps, .string ty, .int .i64 rf, .slice a kids.length cp]] w fun e w' => (∃ s : ByteArray, e = .returned (.string s) ∧ s.toList = ofT (n + 1) (.mk kd tx nm ps ty rf kids)) ∧ Below N w w' := by
  have HK := hide hk
  have HW := hide hwt
  clear hk hwt
  go_enter Tryd.func25, Tryd.ntmps25
  go_wp2_with (first
    | (go_at_call 37; refine (wr_w N n kd tx nm ps ty rf kids a cp (w.heap.size + 1) [] _ ((unhide HK).below (((Below.refl N w).alloc hN _).alloc (by simp; omega) _)) (by simp; omega) hcp (nb2 N w _ hN) (by have := unhide HW; simp only [List.length_nil]; omega)).mono ?_; rintro e w2 ⟨rfl, h2⟩; rw [Wrote, List.nil_append] at h2; have H2 := hide h2; have HB2 := hide ((((Below.refl N w).alloc hN _).alloc (by simp; omega) _).trans h2.2.1); clear h2)
    | (go_at_call 38; refine (Tryd.Builder_String_any_k N (w.heap.size + 1) _ _ (unhide H2).1 (by have := (unhide HB2).size; omega)).mono ?_; rintro e w3 ⟨rfl, h3, h4, h5⟩; have HB3 := hide ((unhide HB2).trans h4); clear h3 h4 h5))
  go_ret
  exact ⟨⟨_, rfl, mk_toL2 _⟩, unhide HB3⟩
set_option maxRecDepth 100000 in
set_option maxHeartbeats 1000000 in
theorem typesOf_w (n : Nat) (kd : Int) (tx : ByteArray) (nm ps : Int) (ty : ByteArray) (rf : Int) (kids : List Tr) (a : Option Addr) (cp : Nat) (w : World) (hv : Vars w) (hk : KidsT w.heap.size w n kids a) (hcp : kids.length ≤ cp) (hwt : wt (n + 1) (.mk kd tx nm ps ty rf kids) ≤ 2097152) :
    Calls Tryd.prog 5 #[.agg #[.int .i64 kd, .string tx, .int .i64 nm, .int .i64 ps, .string ty, .int .i64 rf, .slice a kids.length cp]] w fun e w' => e = .returned (.bool true) ∧ Below w.heap.size w w' := by
  have HA := hide fun o => anchor_any (w.alloc o) (hv.in ((Below.refl _ w).alloc (Nat.le_refl _) o))
  have HK := hide hk
  have HW := hide hwt
  clear hv hk hwt
  go_enter Tryd.func5, Tryd.ntmps5
  go_wp2_with (first
    | (go_at_call 8; refine (unhide HA _).mono ?_; rintro e w1 ⟨rfl, hb1⟩; have hbl := blk_keep hb1; have x0 := blk_cell hbl 0; have x1 := blk_cell hbl 1; have x2 := blk_cell hbl 2; have x3 := blk_cell hbl 3; have x4 := blk_cell hbl 4; have x5 := blk_cell hbl 5; have x6 := blk_cell hbl 6; simp at x0 x1 x2 x3 x4 x5 x6; have HL1 := hide hbl; have HB1 := hide (bt2 ((Below.refl _ _).alloc (Nat.le_refl _) _) hb1); clear hb1 hbl)
    | (go_at_call 24; refine (great_w w.heap.size n kd tx nm ps ty rf kids a cp _ _ _ ((unhide HK).below (unhide HB1)) (unhide HB1).size hcp).mono ?_; rintro e w2 ⟨⟨r, rfl⟩, hb2⟩; have hbl2 := (hb2.block _ (blk_lt (unhide HL1))).trans (unhide HL1); clear x0 x1 x2 x3 x4 x5 x6; have x0 := blk_cell hbl2 0; have x1 := blk_cell hbl2 1; have x2 := blk_cell hbl2 2; have x3 := blk_cell hbl2 3; have x4 := blk_cell hbl2 4; have x5 := blk_cell hbl2 5; have x6 := blk_cell hbl2 6; simp at x0 x1 x2 x3 x4 x5 x6; have HL2 := hide hbl2; have HB2 := hide (bt2 (unhide HB1) hb2); clear hb2 hbl2))
  · go_ret
    exact ⟨rfl, unhide HB2⟩
  · have HC : Hid (∀ W, Below w2.heap.size w2 W → W.cell? ⟨w.heap.size, 0, none⟩ = some (.int .i64 kd) ∧ W.cell? ⟨w.heap.size, 1, none⟩ = some (.string tx) ∧ W.cell? ⟨w.heap.size, 2, none⟩ = some (.int .i64 nm) ∧ W.cell? ⟨w.heap.size, 3, none⟩ = some (.int .i64 ps) ∧ W.cell? ⟨w.heap.size, 4, none⟩ = some (.string ty) ∧ W.cell? ⟨w.heap.size, 5, none⟩ = some (.int .i64 rf) ∧ W.cell? ⟨w.heap.size, 6, none⟩ = some (.slice a kids.length cp)) := by
      intro W hW
      have hl := (hW.block _ (blk_lt (unhide HL2))).trans (unhide HL2)
      exact ⟨blk_cell hl 0, blk_cell hl 1, blk_cell hl 2, blk_cell hl 3, blk_cell hl 4, blk_cell hl 5, blk_cell hl 6⟩
    have hs2 := (unhide HB2).size
    have H25 : Hid (∀ W, Below w2.heap.size w2 W → Calls Tryd.prog 25 #[.agg #[.int .i64 kd, .string tx, .int .i64 nm, .int .i64 ps, .string ty, .int .i64 rf, .slice a kids.length cp]] W fun e w' => (∃ s : ByteArray, e = .returned (.string s) ∧ s.toList = ofT (n + 1) (.mk kd tx nm ps ty rf kids)) ∧ Below w2.heap.size w2 w') := by
      intro W hW
      refine (of25_w w2.heap.size n kd tx nm ps ty rf kids a cp W ((((unhide HK).below (unhide HB2)).up hs2).below hW) hW.size hcp (unhide HW)).mono ?_
      rintro e w' ⟨h1, h2⟩
      exact ⟨h1, hW.trans h2⟩
    have H26 : Hid (∀ W, Below w2.heap.size w2 W → Calls Tryd.prog 26 #[.agg #[.int .i64 kd, .string tx, .int .i64 nm, .int .i64 ps, .string ty, .int .i64 rf, .slice a kids.length cp]] W fun e w' => (∃ s : ByteArray, e = .returned (.string s) ∧ s.toList = ofT (n + 1) (.mk kd tx nm ps ty rf kids)) ∧ Below w2.heap.size w2 w') := by
      intro W hW
      refine (of_w w2.heap.size n kd tx nm ps ty rf kids a cp W ((((unhide HK).below (unhide HB2)).up hs2).below hW) hW.size hcp (unhide HW)).mono ?_
      rintro e w' ⟨h1, h2⟩
      exact ⟨h1, hW.trans (h2.mono hW.size)⟩
    go_region_held2 (fun W => W.cell? ⟨w.heap.size, 0, none⟩ = some (.int .i64 kd) ∧ W.cell? ⟨w.heap.size, 1, none⟩ = some (.string tx) ∧ W.cell? ⟨w.heap.size, 2, none⟩ = some (.int .i64 nm) ∧ W.cell? ⟨w.heap.size, 3, none⟩ = some (.int .i64 ps) ∧ W.cell? ⟨w.heap.size, 4, none⟩ = some (.string ty) ∧ W.cell? ⟨w.heap.size, 5, none⟩ = some (.int .i64 rf) ∧ W.cell? ⟨w.heap.size, 6, none⟩ = some (.slice a kids.length cp)) (go_keep) (first
      | (go_at_call 25; refine (unhide H25 _ (by (repeat' (first | exact Below.refl _ _ | refine Below.drew ?_)))).mono ?_; rintro e w3 ⟨⟨s3, rfl, hs3⟩, hb3⟩; have HS3 := hide hs3; have HB3 := hide hb3; clear hs3 hb3; obtain ⟨f0, f1, f2, f3, f4, f5, f6⟩ := unhide HC _ (unhide HB3))
      | (go_at_call 26; refine (unhide H26 _ (Below.trans (unhide HB3) (by (repeat' (first | exact Below.refl _ _ | refine Below.drew ?_))))).mono ?_; rintro e w4 ⟨⟨s4, rfl, hs4⟩, hb4⟩; have HS4 := hide hs4; have HB4 := hide hb4; clear hs4 hb4; obtain ⟨g0, g1, g2, g3, g4, g5, g6⟩ := unhide HC _ (unhide HB4)))
    have he : (s3.toList == s4.toList) = true := by rw [unhide HS3, unhide HS4]; exact beq_self_eq_true _
    rw [he]
    go_wp2
    go_ret
    exact ⟨rfl, bt2 (unhide HB2) (unhide HB4)⟩
end Go.Proofs.YtpmpjbnnjdpbnaaDoor
