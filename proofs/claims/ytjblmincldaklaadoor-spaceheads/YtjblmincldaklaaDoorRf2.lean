/- The document's heap: add. -/
import Derived.Test.YtjblmincldaklaaDoorRf1
namespace Go.Proofs.YtjblmincldaklaaDoor
open Go.RowKit Go.Proofs.YtjblmincldaklaaDoor.Hp
def ins (b : Rb) : List Rb → List Rb
  | [] => [b]
  | c :: L => if b.at_ < c.at_ then b :: c :: L else c :: ins b L
theorem rbAll_snoc (L : List Rb) (b : Rb) : rbAll L ++ rbCells b = rbAll (L ++ [b]) := by simp [rbAll]
theorem rb_one (b : Rb) : ∀ u ∈ rbCells b, u.oneCell' = true := by intro u hu; simp [rbCells] at hu; rcases hu with rfl | rfl | rfl <;> rfl
theorem rb_news {w : World} (b : Rb) : ∀ j u, (rbCells b)[j]? = some u → (w.alloc (.cells #[.int .i64 b.at_, .int .i64 b.room, .slice (some ⟨b.gw, 0, none⟩) b.room b.room] 79)).cell? ((⟨w.heap.size, 0, none⟩ : Addr).add j) = some u := by
  intro j u hj
  match j, hj with
  | 0, hj => simp [rbCells] at hj; subst hj; simp [Addr.add]
  | 1, hj => simp [rbCells] at hj; subst hj; simp [Addr.add]
  | 2, hj => simp [rbCells] at hj; subst hj; simp [Addr.add]
  | j + 3, hj => simp [rbCells] at hj
theorem rb_news2 {w : World} (H : Nat) (hH : w.heap.size = H) (b : Rb) : ∀ j u, (rbCells b)[j]? = some u → (w.alloc (.cells #[.int .i64 b.at_, .int .i64 b.room, .slice (some ⟨b.gw, 0, none⟩) b.room b.room] 79)).cell? ((⟨H, 0, none⟩ : Addr).add j) = some u := by
  subst hH; exact rb_news b
theorem Tryd.info79 : (Tryd.prog.info? 79).map (fun i => (i.zero, i.size, i.bytes)) = some (some (.agg #[.int .i64 0, .int .i64 0, .slice none 0 0]), 3, 40) := by kernel_rfl
/-- What has been put out so far: at, room of the new block; done: it is in, its words lie in gw. -/
def Out (L : List Rb) (a r i : Nat) (done : Bool) (gw : Nat) (O : List Rb) : Prop :=
  if done then O ++ L.drop i = ins ⟨a, r, gw⟩ L else O = L.take i ∧ ∀ gw, ins ⟨a, r, gw⟩ L = L.take i ++ ins ⟨a, r, gw⟩ (L.drop i)
theorem drop_at {L : List Rb} {i : Nat} {c : Rb} (h : L[i]? = some c) : L.drop i = c :: L.drop (i + 1) := by
  have hl : i < L.length := by
    rcases Nat.lt_or_ge i L.length with h1 | h1
    · exact h1
    · rw [List.getElem?_eq_none h1] at h; cases h
  rw [List.drop_eq_getElem_cons hl]
  rw [List.getElem?_eq_getElem hl] at h
  rw [Option.some.inj h]
theorem take_at {L : List Rb} {i : Nat} {c : Rb} (h : L[i]? = some c) : L.take (i + 1) = L.take i ++ [c] := by
  rw [List.take_add_one, h]; rfl
theorem Out.start (L : List Rb) (a r gw : Nat) : Out L a r 0 false gw [] := by unfold Out; simp
theorem Out.skip {L O : List Rb} {a r i gw : Nat} {c : Rb} (h : Out L a r i false gw O) (hc : L[i]? = some c) (hle : c.at_ ≤ a) : Out L a r (i + 1) false gw (O ++ [c]) := by
  unfold Out at *
  simp only [Bool.false_eq_true, if_false] at *
  obtain ⟨h1, h2⟩ := h
  refine ⟨by rw [h1, take_at hc], fun g => ?_⟩
  rw [h2 g, drop_at hc, take_at hc, ins, if_neg (by simp; omega)]
  simp
theorem Out.put {L O : List Rb} {a r i gw gw' : Nat} {c : Rb} (h : Out L a r i false gw O) (hc : L[i]? = some c) (hlt : a < c.at_) : Out L a r i true gw' (O ++ [⟨a, r, gw'⟩]) := by
  unfold Out at *
  simp only [Bool.false_eq_true, if_false, if_true] at *
  obtain ⟨h1, h2⟩ := h
  rw [h2 gw', drop_at hc, ins, if_pos hlt, h1]
  simp
theorem Out.move {L O : List Rb} {a r i gw : Nat} {c : Rb} (h : Out L a r i true gw O) (hc : L[i]? = some c) : Out L a r (i + 1) true gw (O ++ [c]) := by
  unfold Out at *
  simp only [if_true] at *
  rw [← h, drop_at hc]; simp
theorem Out.endT {L O : List Rb} {a r gw : Nat} (h : Out L a r L.length true gw O) : O = ins ⟨a, r, gw⟩ L := by
  unfold Out at h
  simpa using h
theorem Out.endF {L O : List Rb} {a r gw gw' : Nat} (h : Out L a r L.length false gw O) : O ++ [⟨a, r, gw'⟩] = ins ⟨a, r, gw'⟩ L := by
  unfold Out at h
  simp only [Bool.false_eq_true, if_false] at h
  rw [h.2 gw', h.1]; simp [ins]
theorem ins_len (b : Rb) : ∀ L, (ins b L).length = L.length + 1
  | [] => rfl
  | c :: L => by
    unfold ins
    split
    · simp
    · simp [ins_len b L]
theorem mem_ins {b x : Rb} : ∀ {L : List Rb}, x ∈ ins b L ↔ x = b ∨ x ∈ L
  | [] => by simp [ins]
  | c :: L => by
    unfold ins
    split
    · simp
    · simp only [List.mem_cons, mem_ins (L := L)]
      constructor
      · rintro (h | h | h)
        · exact .inr (.inl h)
        · exact .inl h
        · exact .inr (.inr h)
      · rintro (h | h | h)
        · exact .inr (.inl h)
        · exact .inl h
        · exact .inr (.inr h)
/-- The state of the out slice in memory. -/
structure OutAt (w0 w : World) (O : List Rb) (v : Value) (done : Bool) (gw r : Nat) : Prop where
  own : w.ownsRow w0.heap.size 79 3 v O.length (rbAll O)
  far : Fr (fun _ => False) w0 w
  words : done = true → w0.heap.size ≤ gw ∧ v.ownBlock ≠ some gw ∧ gw < w.heap.size ∧ Row w gw r (fun _ => .int .i64 0)
theorem own_low {w : World} {base base' e size n : Nat} {v : Value} {xs : List Value} (hb : base' ≤ base) (h : w.ownsRow base e size v n xs) : w.ownsRow base' e size v n xs := by
  refine ⟨h.1, ?_⟩
  rcases h.2 with h2 | ⟨g, cap, cur, e1, e2, r⟩
  · exact .inl h2
  · exact .inr ⟨g, cap, cur, e1, Nat.le_trans hb e2, r⟩
/-- Behind an append of one block. -/
theorem OutAt.push {w0 w w1 : World} {O : List Rb} {v : Value} {done : Bool} {gw r g cap : Nat} (h : OutAt w0 w O v done gw r) (b : Rb) (o : Obj)
    (ho : w1.ownsRow w0.heap.size 79 3 (.slice (some ⟨g, 0, none⟩) (O.length + 1) cap) (O.length + 1) (rbAll O ++ rbCells b)) (hg : (w.alloc o).grownBy w1 v.ownBlock) (hat : v.ownBlock = some g ∨ g = w.heap.size + 1) :
    OutAt w0 w1 (O ++ [b]) (.slice (some ⟨g, 0, none⟩) (O.length + 1) cap) done gw r := by
  have hF : Fr (fun j => some j = v.ownBlock) w w1 := ((Fr.refl _ w).alloc o).trans (Fr.grown hg)
  have hlo : ∀ j, some j = v.ownBlock → w0.heap.size ≤ j := fun j e => (h.own.lt j e.symm).1
  refine ⟨by rw [List.length_append, ← rbAll_snoc]; exact ho, h.far.up hF hlo, fun hd => ?_⟩
  obtain ⟨k1, k2, k3, k4⟩ := h.words hd
  refine ⟨k1, fun e => ?_, Nat.lt_of_lt_of_le k3 hF.size, k4.fr hF (fun e => k2 e.symm)⟩
  have eg : g = gw := by simpa [Value.ownBlock] using e
  rcases hat with h1 | h1
  · exact k2 (by rw [h1, eg])
  · omega
/-- Behind the making of the new block's words. -/
theorem OutAt.make {w0 w : World} {O : List Rb} {v : Value} {gw0 r : Nat} (h : OutAt w0 w O v false gw0 r) : OutAt w0 (w.alloc (.cells (madeCells #[.int .i64 0] r) 3)) O v true w.heap.size r := by
  refine ⟨h.own.alloc _, h.far.alloc _, fun _ => ⟨h.far.size, fun e => ?_, by simp, (Row.made w #[.int .i64 0] r 3).ext fun i _ => by simp [Nat.mod_one]⟩⟩
  have := (h.own.lt _ e).2
  omega
def AddP (w0 : World) (pb base N a r : Nat) (L : List Rb) (e : Ending) (w' : World) : Prop :=
  e = .returned (.int .i64 (a : Int)) ∧ ∃ gw lv, RefAt w' pb base N (ins ⟨a, r, gw⟩ L) lv ∧ w0.heap.size ≤ gw ∧ gw < w'.heap.size ∧ Row w' gw r (fun _ => .int .i64 0) ∧ (∀ g, lv.ownBlock = some g → w0.heap.size ≤ g ∧ g ≠ gw) ∧ Fr (· = pb) w0 w'
theorem AddP.of {w0 w : World} {pb base N a r gw g cap : Nat} {L : List Rb} {lv0 : Value} (h : RefAt w0 pb base N L lv0) (hb : base ≤ w0.heap.size) (hr : a + r ≤ 1048576) (hf : L.length + 1 ≤ 100000) (ho : OutAt w0 w (ins ⟨a, r, gw⟩ L) (.slice (some ⟨g, 0, none⟩) (L.length + 1) cap) true gw r) :
    AddP w0 pb base N a r L (.returned (.int .i64 (a : Int))) (w.setCell ⟨pb, 1, none⟩ (.slice (some ⟨g, 0, none⟩) (L.length + 1) cap)) := by
  have hpb : pb < w0.heap.size := World.block_lt_of_cell? w0 ⟨pb, 0, none⟩ h.cN
  obtain ⟨k1, k2, k3, k4⟩ := ho.words rfl
  have h2 := h.quiet ho.far
  have hg : w0.heap.size ≤ g := (ho.own.lt g rfl).1
  have hS : Fr (· = pb) w (w.setCell ⟨pb, 1, none⟩ (.slice (some ⟨g, 0, none⟩) (L.length + 1) cap)) := (Fr.refl (· = pb) w).setCell (p := ⟨pb, 1, none⟩) rfl _
  refine ⟨rfl, gw, _, ⟨?_, World.cell?_setCell_same _ _ _ h2.cL, by rw [World.frozen?_setCell]; exact h2.fL, ?_, by rw [ins_len]; exact hf, fun b hb' => ?_⟩, k1, Nat.lt_of_lt_of_le k3 hS.size, k4.fr hS (by omega), fun x hx => ?_, (ho.far.mono fun _ x => x.elim).trans hS⟩
  · rw [World.cell?_setCell_other _ _ _ _ (by intro e; injection e with _ e2; cases e2)]; exact h2.cN
  · rw [ins_len]
    have := own_low hb ho.own
    rw [ins_len] at this
    exact own_blk this (fun x hx => hS.block x (ho.own.lt x hx).2 (fun e => by
      have : x = g := by simpa [Value.ownBlock] using hx.symm
      omega))
  · rcases mem_ins.1 hb' with e | e
    · subst e; exact hr
    · exact h.ats b e
  · have : x = g := by simpa [Value.ownBlock] using hx.symm
    subst this
    exact ⟨hg, fun e => k2 (by rw [← e]; rfl)⟩
set_option maxRecDepth 100000 in
set_option maxHeartbeats 4000000 in
theorem add_ref (pb base N a r : Nat) (L : List Rb) (lv : Value) (w : World) (h : RefAt w pb base N L lv) (hb : base ≤ w.heap.size) (hr : a + r ≤ 1048576) (hf : L.length ≤ 5000) :
    Calls Tryd.prog 52 #[.pointer (some ⟨pb, 0, none⟩), .int .i64 a, .int .i64 r] w fun e w' => AddP w pb base N a r L e w' := by
  obtain ⟨ao, cp, rfl, hg⟩ := h.form
  have H := hide h
  have HG := hide hg
  have HEnd : Hid (∀ w1 gw g cap, OutAt w w1 (ins ⟨a, r, gw⟩ L) (.slice (some ⟨g, 0, none⟩) (L.length + 1) cap) true gw r → AddP w pb base N a r L (.returned (.int .i64 (a : Int))) (w1.setCell ⟨pb, 1, none⟩ (.slice (some ⟨g, 0, none⟩) (L.length + 1) cap))) := hide fun w1 gw g cap ho => AddP.of h hb hr (by omega) ho
  have hmk := fun W => make34 W r (by omega)
  have H0 : Hid (OutAt w w [] (.slice none 0 0) false 0 r) := hide ⟨by have := World.ownsRow_nil w w.heap.size 79 3; exact this, Fr.refl _ _, fun h => by cases h⟩
  have hZ : Hid (∀ W : World, Row.made W #[.int .i64 0] r 3 = Row.made W #[.int .i64 0] r 3) := hide fun _ => rfl
  clear h hg hZ
  obtain ⟨i1, hi, hz0, hz1, hz2⟩ := info_parts Tryd.info79
  go_enter Tryd.func52, Tryd.ntmps52
  go_wp2
  go_loopw [7, 8, 9] (fun v d t wr => ∃ i : Nat, i ≤ L.length ∧ t = .int .i64 i ∧ ∃ (done : Bool) (gw : Nat) (O : List Rb) (ao : Option Addr) (n cp : Nat), d = .bool done ∧ v = .slice ao n cp ∧ Hid (n = O.length ∧ O.length = i + if done then 1 else 0) ∧ Hid (Out L a r i done gw O) ∧ Hid (OutAt w wr O (.slice ao n cp) done gw r)) (fun _ _ t _ => L.length - (intOf t).toNat)
  case atStart => exact ⟨0, by omega, rfl, false, 0, [], none, 0, 0, rfl, rfl, hide ⟨rfl, rfl⟩, hide (Out.start L a r 0), H0⟩
  case round =>
    obtain ⟨i, hi', rfl, done, gw, O, ao1, n, cp1, rfl, rfl, hOl, hO, hOA⟩ := hrel
    have hR := (unhide H).quiet (unhide hOA).far
    have cL := hR.cL
    have fL := hR.fL
    obtain ⟨rfl, hOl2⟩ := unhide hOl
    have hOn : O.length ≤ 5001 := by rw [hOl2]; split <;> omega
    have HOl2 := hide hOl2
    have hsz := (unhide hOA).far.size
    clear hOl hOl2
    by_cases hlt : i < L.length
    · obtain ⟨g, hg⟩ := unhide HG (by omega)
      subst hg
      obtain ⟨c, hc⟩ : ∃ c, L[i]? = some c := ⟨L[i], by simp [hlt]⟩
      obtain ⟨c0, c1, c2⟩ := hR.cells hc
      have HCc := hide hc
      clear hc hR
      cases done with
      | true =>
        go_wp2_with (first | (at_builtin; refine wpList_append_lies _ rfl (.tmp 41) (.tmp 49) 57 rfl w.heap.size 79 i1 (.agg #[.int .i64 0, .int .i64 0, .slice none 0 0]) 3 40 Tryd.underlying57 hi hz0 hz1 hz2 rfl (by decide) (.slice ao1 O.length cp1) O.length (rbAll O) rfl ((unhide hOA).own.alloc _) ⟨wr.heap.size, 0, none⟩ 1 1 (rbCells c) rfl rfl (rb_news c) (rb_one c) (by decide) (by unfold maxLen; omega) (by omega) (by simp; omega) _ rfl ?_))
        intro g2 cap2 w2 ho2 hg2 hat2 _
        have HN := hide ((unhide hOA).push c _ ho2 hg2 (by simpa using hat2))
        clear ho2 hg2 hat2
        go_wp2
        go_roundw
        case rel => exact ⟨i + 1, by omega, by go_num, true, gw, O ++ [c], _, _, _, rfl, rfl, hide ⟨by simp, by have := unhide HOl2; simp at this ⊢; omega⟩, hide ((unhide hO).move (unhide HCc)), HN⟩
        case measure => simp [intOf]; omega
      | false =>
        by_cases hac : a < c.at_
        · have HMk := hide (unhide hOA).make
          go_wp2_with (first | (at_builtin; refine wpList_append_lies _ rfl (.tmp 33) (.tmp 39) 57 rfl w.heap.size 79 i1 (.agg #[.int .i64 0, .int .i64 0, .slice none 0 0]) 3 40 Tryd.underlying57 hi hz0 hz1 hz2 rfl (by decide) (.slice ao1 O.length cp1) O.length (rbAll O) rfl ((unhide HMk).own.alloc _) ⟨wr.heap.size + 1, 0, none⟩ 1 1 (rbCells ⟨a, r, wr.heap.size⟩) rfl rfl (rb_news2 _ (by simp) ⟨a, r, wr.heap.size⟩) (rb_one ⟨a, r, wr.heap.size⟩) (by decide) (by unfold maxLen; omega) (by omega) (by simp; omega) _ rfl ?_))
          intro g2 cap2 w2 ho2 hg2 hat2 _
          have hN := (unhide HMk).push ⟨a, r, wr.heap.size⟩ _ ho2 hg2 (by simpa using hat2)
          have HN := hide hN
          have hR2 := (unhide H).quiet hN.far
          have cL2 := hR2.cL
          have fL2 := hR2.fL
          obtain ⟨d0, d1, d2⟩ := hR2.cells (unhide HCc)
          have hsz2 := hN.far.size
          clear ho2 hg2 hat2 hN hR2 cL fL c0 c1 c2
          go_wp2_with (first | (at_builtin; refine wpList_append_lies _ rfl (.tmp 41) (.tmp 49) 57 rfl w.heap.size 79 i1 (.agg #[.int .i64 0, .int .i64 0, .slice none 0 0]) 3 40 Tryd.underlying57 hi hz0 hz1 hz2 rfl (by decide) (.slice (some ⟨g2, 0, none⟩) (O.length + 1) cap2) (O.length + 1) (rbAll (O ++ [⟨a, r, wr.heap.size⟩])) rfl (by have := (unhide HN).own; rw [List.length_append] at this; exact this.alloc _) ⟨w2.heap.size, 0, none⟩ 1 1 (rbCells c) rfl rfl (rb_news c) (rb_one c) (by decide) (by unfold maxLen;  omega) (by  omega) (by simp; omega) _ rfl ?_))
          intro g3 cap3 w3 ho3 hg3 hat3 _
          have HN3 := hide ((unhide HN).push c _ (by rw [List.length_append]; exact ho3) hg3 (by simpa using hat3))
          rw [List.length_append] at HN3
          clear ho3 hg3 hat3
          go_wp2
          go_roundw
          case rel => exact ⟨i + 1, by omega, by go_num, true, wr.heap.size, (O ++ [⟨a, r, wr.heap.size⟩]) ++ [c], _, _, _, rfl, rfl, hide ⟨by simp, by have := unhide HOl2; simp at this ⊢; omega⟩, hide (((unhide hO).put (unhide HCc) hac).move (unhide HCc)), HN3⟩
          case measure => simp [intOf]; omega
        · go_wp2_with (first | (at_builtin; refine wpList_append_lies _ rfl (.tmp 41) (.tmp 49) 57 rfl w.heap.size 79 i1 (.agg #[.int .i64 0, .int .i64 0, .slice none 0 0]) 3 40 Tryd.underlying57 hi hz0 hz1 hz2 rfl (by decide) (.slice ao1 O.length cp1) O.length (rbAll O) rfl ((unhide hOA).own.alloc _) ⟨wr.heap.size, 0, none⟩ 1 1 (rbCells c) rfl rfl (rb_news c) (rb_one c) (by decide) (by unfold maxLen; omega) (by omega) (by simp; omega) _ rfl ?_))
          intro g2 cap2 w2 ho2 hg2 hat2 _
          have HN := hide ((unhide hOA).push c _ ho2 hg2 (by simpa using hat2))
          clear ho2 hg2 hat2
          go_wp2
          go_roundw
          case rel => exact ⟨i + 1, by omega, by go_num, false, gw, O ++ [c], _, _, _, rfl, rfl, hide ⟨by simp, by have := unhide HOl2; simp at this ⊢; omega⟩, hide ((unhide hO).skip (unhide HCc) (by omega)), HN⟩
          case measure => simp [intOf]; omega
    · have ei : i = L.length := by omega
      subst ei
      cases done with
      | true =>
        obtain ⟨ao2, cp2, hv2, hg2⟩ := own_form (unhide hOA).own
        obtain ⟨g, hg⟩ := hg2 (by rw [unhide HOl2]; simp)
        obtain ⟨rfl, rfl⟩ : ao1 = ao2 ∧ cp1 = cp2 := by injection hv2 with h1 h2 h3; exact ⟨h1, h3⟩
        subst hg
        have HF : Hid (AddP w pb base N a r L (.returned (.int .i64 (a : Int))) (wr.setCell ⟨pb, 1, none⟩ (.slice (some ⟨g, 0, none⟩) O.length cp1))) := hide (by
          have e := (unhide hO).endT
          have hl := ins_len ⟨a, r, gw⟩ L
          rw [← e] at hl
          have hx := unhide hOA
          rw [hl] at hx ⊢
          rw [e] at hx
          exact unhide HEnd wr gw g cp1 hx)
        clear hv2 hg2
        go_wp2
        go_ret
        exact unhide HF
      | false =>
        have HMk := hide (unhide hOA).make
        go_wp2_with (first | (at_builtin; refine wpList_append_lies _ rfl (.tmp 53) (.tmp 59) 57 rfl w.heap.size 79 i1 (.agg #[.int .i64 0, .int .i64 0, .slice none 0 0]) 3 40 Tryd.underlying57 hi hz0 hz1 hz2 rfl (by decide) (.slice ao1 O.length cp1) O.length (rbAll O) rfl ((unhide HMk).own.alloc _) ⟨wr.heap.size + 1, 0, none⟩ 1 1 (rbCells ⟨a, r, wr.heap.size⟩) rfl rfl (rb_news2 _ (by simp) ⟨a, r, wr.heap.size⟩) (rb_one ⟨a, r, wr.heap.size⟩) (by decide) (by unfold maxLen; omega) (by omega) (by simp; omega) _ rfl ?_))
        intro g2 cap2 w2 ho2 hg2 hat2 _
        have hN := (unhide HMk).push ⟨a, r, wr.heap.size⟩ _ ho2 hg2 (by simpa using hat2)
        have HF : Hid (AddP w pb base N a r L (.returned (.int .i64 (a : Int))) (w2.setCell ⟨pb, 1, none⟩ (.slice (some ⟨g2, 0, none⟩) (O.length + 1) cap2))) := hide (by
          have hl := unhide HOl2
          simp at hl
          have hx := hN
          rw [hl] at hx ⊢
          rw [(unhide hO).endF] at hx
          exact unhide HEnd w2 wr.heap.size g2 cap2 hx)
        have hR2 := (unhide H).quiet hN.far
        have cL2 := hR2.cL
        have fL2 := hR2.fL
        clear ho2 hg2 hat2 hN hR2 cL fL
        go_wp2
        go_ret
        exact unhide HF
end Go.Proofs.YtjblmincldaklaaDoor
