/- The law's own collection. -/
import Derived.Test.YtjblmincldaklaaDoorT2
namespace Go.Proofs.YtjblmincldaklaaDoor
open Go.RowKit Go.Proofs.YtjblmincldaklaaDoor.Hp
variable {w w' : World} {pt pb base N : Nat} {A : Nat → Kd} {wd : Nat → Int} {L : List Rb} {lv : Value} {T : List Tb} {tv : Value} {al : List Nat} {av : Value} {held : List Int} {dv : Value} {cnt : Nat}
def chT (A : Nat → Kd) (wd : Nat → Int) (T : List Tb) (k : Nat) : List Int := kids A wd ((T.getD k tbD).at_ : Int)
def MarkT (A : Nat → Kd) (wd : Nat → Int) (T : List Tb) (held : List Int) (M : Nat → Bool) : Prop := ∀ i, i < T.length → (M i = true ↔ RchI T.length (fun i => ((T.getD i tbD).at_ : Int)) (chT A wd T) held i)
/-- Reached, of the law's own lists. -/
theorem treached_any (h : Tw w pt pb base N wd L lv T tv al av held dv cnt) (hm : Tm A wd L T) (hI : Inv N A) (hl : T.length ≤ 1000) (hh : held.length ≤ 900) (hN : N ≤ 512) {ta da : Option Addr} {tc dc : Nat} (et : tv = .slice ta T.length tc) (ed : dv = .slice da held.length dc) :
    Calls Tryd.prog 40 #[.pointer (some ⟨pb, 0, none⟩), .slice ta T.length tc, .slice da held.length dc] w fun e w' => ∃ gm M, e = .returned (.slice (some ⟨gm, 0, none⟩) T.length T.length) ∧ Sr w w' gm T.length M ∧ MarkT A wd T held M := by
  subst et ed
  have hg : ∃ gl, (0 < T.length → ta = some ⟨gl, 0, none⟩) := by
    obtain ⟨_, _, e, hg⟩ := own_form h.tl
    cases e
    by_cases h0 : 0 < T.length
    · obtain ⟨g, e⟩ := hg h0
      exact ⟨g, fun _ => e⟩
    · exact ⟨0, fun x => absurd x h0⟩
  obtain ⟨gl, hgl⟩ := hg
  have hrow : Row w gl (5 * T.length) (lcell (fun i => lbT (T.getD i tbD))) := by
    intro i hi
    have h0 : 0 < T.length := by omega
    have hta := hgl h0
    subst hta
    have ht : i / 5 < T.length := by omega
    have hb2 : (T.map lbT)[i / 5]? = some (lbT (T.getD (i / 5) tbD)) := by rw [List.getElem?_map, (tb_in ht).2]; rfl
    refine ⟨?_, ?_⟩
    · rw [h.tl.cellAt i (by omega), show (lbAll (T.map lbT))[i]? = (lbAll (T.map lbT))[(i / 5) * 5 + i % 5]? by rw [show (i / 5) * 5 + i % 5 = i by omega], lbAll_get _ _ _ _ hb2 (by omega), lcell]
      generalize lbT (T.getD (i / 5) tbD) = bb
      have h5 : i % 5 < (lbCells bb).length := by simp [lbCells]; omega
      rw [List.getD, List.getElem?_eq_getElem h5]; rfl
    · rcases h.tl.2 with ⟨h2, _⟩ | ⟨g', cap, cur, h2, _, h4, _⟩
      · cases h2
      · cases h2
        simp [World.frozen?, h4]
  have := ReachedR_any w pb ta tc T.length (fun i => lbT (T.getD i tbD)) gl da dc held (chT A wd T) hgl hrow hl ?_ ?_ ?_ ?_
  · exact this.mono fun e w' ⟨gm, M, h1, h2, h3⟩ => ⟨gm, M, h1, h2, h3⟩
  · intro W hW k hk
    obtain ⟨hb, _⟩ := tb_in hk
    obtain ⟨r1, r2, r3, r4⟩ := hm.bl _ hb
    obtain ⟨s1, s2, s3⟩ := (h.quiet hW).ws _ hb
    have hin := room_in hI (x := (T.getD k tbD).at_) ((hm.lv _).2 ⟨_, hb, rfl⟩)
    have hc := ChildrenR_any W pb base N L lv A (T.getD k tbD).at_ (T.getD k tbD).kd (T.getD k tbD).sz (T.getD k tbD).ms (some ⟨(T.getD k tbD).gw, 0, none⟩) ((T.getD k tbD).room - 1) ((T.getD k tbD).room - 1) (fun q => wd ((T.getD k tbD).at_ + (q + 1))) (h.quiet hW).ref hm.mt hI (fun _ => by unfold Right at r2; omega) (by omega) (hm.rg _ hb) (fun j hj => ⟨_, 0, rfl, s2.lt (by omega), by rw [Nat.zero_add]; exact (s2 j hj).1⟩)
    rw [hm.kidsOf hb] at hc
    exact hc
  · intro k hk
    unfold chT
    have := kids_few (n := N) wd ((T.getD k tbD).at_ : Int) hI
    unfold maxLen; omega
  · unfold maxLen; omega
  · intro j hj
    obtain ⟨b, e, _, hb, hc⟩ := own_cells h.dl j hj
    exact ⟨b, 0, e, hb, by rw [Nat.zero_add]; exact hc⟩
theorem Tryd.info62 : (Tryd.prog.info? 62).map (fun i => (i.zero, i.size, i.bytes)) = some (some (.agg #[.int .i64 0, .int .i64 0, .int .i64 0, .int .i64 0, .slice none 0 0]), 5, 56) := by kernel_rfl
/-- What a collection of the law's own leaves. -/
def TColP (w : World) (pt pb base N : Nat) (A : Nat → Kd) (wd : Nat → Int) (L : List Rb) (lv : Value) (T : List Tb) (tv : Value) (al : List Nat) (av : Value) (held : List Int) (dv : Value) (cnt : Nat) (e : Ending) (w' : World) : Prop :=
  ∃ M lv' tv', MarkT A wd T held M ∧ e = .returned (.int .i64 ((goneL T M T.length).length : Nat)) ∧ Tw w' pt pb base N wd (cutL L (goneL T M T.length)) lv' (keepT T M T.length) tv' al av held dv (cnt + 1) ∧ Fr (TwK pt pb lv T tv av dv) w w' ∧ ∀ k, TwK pt pb lv' (keepT T M T.length) tv' av dv k → TwK pt pb lv T tv av dv k ∨ w.heap.size ≤ k
/-- While it goes through the list. -/
structure Cl (w W1 wr : World) (pb base N : Nat) (L : List Rb) (lv : Value) (T : List Tb) (M : Nat → Bool) (k : Nat) (lf : Value) (lv1 : Value) : Prop where
  ref : RefAt wr pb base N (cutL L (goneL T M k)) lv1
  ol : ∀ g, lv1.ownBlock = some g → lv.ownBlock = some g ∨ W1.heap.size ≤ g
  row : wr.ownsRow W1.heap.size 62 5 lf (keepT T M k).length (lbAll ((keepT T M k).map lbT))
  fr : Fr (· = pb) W1 wr
theorem Fr.upK {K J : Nat → Prop} {w0 w w' : World} (h : Fr K w0 w) (k : Fr J w w') (hk : ∀ b, J b → w0.heap.size ≤ b) : Fr K w0 w' :=
  ⟨k.os.trans h.os, k.tape.trans h.tape, k.output.trans h.output, Nat.le_trans h.size k.size, fun i hi hn => (k.block i (Nat.lt_of_lt_of_le hi h.size) (fun e => by have := hk i e; omega)).trans (h.block i hi hn)⟩
theorem Tw.count (h : Tw w pt pb base N wd L lv T tv al av held dv cnt) : Tw (w.setCell ⟨pt, 4, none⟩ (.int .i64 ((cnt : Int) + 1))) pt pb base N wd L lv T tv al av held dv (cnt + 1) := by
  obtain ⟨s1, s2, s3, s4, s5, s6⟩ := h.st
  have k : Fr (· = pt) w (w.setCell ⟨pt, 4, none⟩ (.int .i64 ((cnt : Int) + 1))) := (Fr.refl (· = pt) w).setCell (p := ⟨pt, 4, none⟩) rfl _
  have oth : ∀ i u, i ≠ 4 → w.cell? ⟨pt, i, none⟩ = some u → (w.setCell ⟨pt, 4, none⟩ (.int .i64 ((cnt : Int) + 1))).cell? ⟨pt, i, none⟩ = some u := fun i u hi hu => by
    rw [World.cell?_setCell_other _ _ _ _ (by intro e; injection e with _ e2; exact hi e2.symm)]; exact hu
  have fz : ∀ i, w.frozen? ⟨pt, i, none⟩ = false → (w.setCell ⟨pt, 4, none⟩ (.int .i64 ((cnt : Int) + 1))).frozen? ⟨pt, i, none⟩ = false := fun i hu => by rw [World.frozen?_setCell]; exact hu
  exact ⟨oth 0 _ (by omega) h.c0, ⟨oth 1 _ (by omega) h.c1.1, fz 1 h.c1.2⟩, ⟨oth 2 _ (by omega) h.c2.1, fz 2 h.c2.2⟩, ⟨oth 3 _ (by omega) h.c3.1, fz 3 h.c3.2⟩, ⟨by rw [World.cell?_setCell_same _ _ _ h.c4.1]; simp, fz 4 h.c4.2⟩,
    h.ref.fr k (Ne.symm s3) (fun g hg e => by have := (h.ref.own.lt g hg).1; omega),
    own_blk h.tl (fun g hg => k.block g (h.tl.lt g hg).2 (fun e => by have := (h.tl.lt g hg).1; omega)),
    own_blk h.al (fun g hg => k.block g (h.al.lt g hg).2 (fun e => by have := (h.al.lt g hg).1; omega)),
    own_blk h.dl (fun g hg => k.block g (h.dl.lt g hg).2 (fun e => by have := (h.dl.lt g hg).1; omega)),
    ⟨s1, s2, s3, s4, s5, Nat.le_trans s6 k.size⟩,
    fun b hb => ⟨(h.ws b hb).1, (h.ws b hb).2.1.fr k (fun e => by have := (h.ws b hb).1; omega), (h.ws b hb).2.2⟩, h.gd, h.ga, h.ad, h.gl⟩
theorem own_diff {w : World} {b1 b2 e1 e2 s1 s2 n1 n2 : Nat} {u v : Value} {xs ys : List Value} (h : w.ownsRow b1 e1 s1 u n1 xs) (k : w.ownsRow b2 e2 s2 v n2 ys) (he : e1 ≠ e2) (g : Nat) (hu : u.ownBlock = some g) : v.ownBlock ≠ some g := by
  intro hv
  rcases h.2 with ⟨rfl, _⟩ | ⟨g1, c1, cur1, rfl, _, h1, _⟩
  · simp [Value.ownBlock] at hu
  · rcases k.2 with ⟨rfl, _⟩ | ⟨g2, c2, cur2, rfl, _, h2, _⟩
    · simp [Value.ownBlock] at hv
    · simp [Value.ownBlock] at hu hv
      subst hu hv
      rw [h1] at h2
      simp at h2
      exact he h2.2
theorem Cl.quiet {W1 wr wq : World} {M : Nat → Bool} {k : Nat} {lf lv1 : Value} (h : Cl w W1 wr pb base N L lv T M k lf lv1) (q : Fr (fun _ => False) wr wq) : Cl w W1 wq pb base N L lv T M k lf lv1 :=
  ⟨h.ref.quiet q, h.ol, own_blk h.row (fun g hg => q.block g (h.row.lt g hg).2 id), h.fr.trans (q.mono fun _ x => x.elim)⟩
theorem Cl.keep {W1 wr w5 : World} {M : Nat → Bool} {k : Nat} {lf lf' lv1 : Value} (h : Cl w W1 wr pb base N L lv T M k lf lv1) (hp : pb < W1.heap.size) (hM : M k = true) (ho : w5.ownsRow W1.heap.size 62 5 lf' ((keepT T M k).length + 1) (lbAll ((keepT T M k).map lbT) ++ lbCells (lbT (T.getD k tbD)))) (hg : wr.grownBy w5 lf.ownBlock) : Cl w W1 w5 pb base N L lv T M (k + 1) lf' lv1 := by
  have eg : goneL T M (k + 1) = goneL T M k := by rw [goneL, if_pos hM, List.append_nil]
  have ek : keepT T M (k + 1) = keepT T M k ++ [T.getD k tbD] := by rw [keepT, if_pos hM]
  have hlo : ∀ j, lf.ownBlock = some j → W1.heap.size ≤ j := fun j e => (h.row.lt j e).1
  refine ⟨?_, h.ol, ?_, h.fr.upK (Fr.grown hg) (fun j e => hlo j e.symm)⟩
  · rw [eg]
    exact h.ref.fr (Fr.grown hg) (fun e => by have := hlo pb e.symm; omega) (fun g hgv e => own_diff h.ref.own h.row (by decide) g hgv e.symm)
  · rw [ek, List.length_append, List.map_append, show lbAll ((keepT T M k).map lbT ++ [T.getD k tbD].map lbT) = lbAll ((keepT T M k).map lbT) ++ lbCells (lbT (T.getD k tbD)) by simp [lbAll]]
    exact ho
theorem Cl.free {W1 wr w5 : World} {M : Nat → Bool} {k i : Nat} {lf lv1 : Value} {e : Ending} (h : Cl w W1 wr pb base N L lv T M k lf lv1) (hp : pb < W1.heap.size) (hM : M k = false) (hs : L.Pairwise (fun a b => a.at_ < b.at_)) {b : Rb} (hb : (cutL L (goneL T M k))[i]? = some b) (hx : b.at_ = (T.getD k tbD).at_) (hf : RFreeP wr pb base N (cutL L (goneL T M k)) i e w5) : ∃ lv2, Cl w W1 w5 pb base N L lv T M (k + 1) lf lv2 := by
  have eg : goneL T M (k + 1) = goneL T M k ++ [(T.getD k tbD).at_] := by rw [goneL, hM]; rfl
  have ek : keepT T M (k + 1) = keepT T M k := by rw [keepT, hM]; simp
  obtain ⟨_, lv2, hr, hlo, hF⟩ := hf
  refine ⟨lv2, ?_, fun g hg => .inr (Nat.le_trans h.fr.size (hlo g hg)), ?_, h.fr.trans hF⟩
  · rw [eg, ← cut_snoc, ← cut_one _ i b (cut_sorted hs _) hb hx]; exact hr
  · rw [ek]
    exact own_blk h.row (fun g hg => hF.block g (h.row.lt g hg).2 (fun e => by have := (h.row.lt g hg).1; omega))
/-- Behind it. -/
theorem Cl.done {W1 wr : World} {M : Nat → Bool} {lf lv1 : Value} (h : Tw W1 pt pb base N wd L lv T tv al av held dv cnt) (hc : Cl w W1 wr pb base N L lv T M T.length lf lv1) :
    Tw (wr.setCell ⟨pt, 1, none⟩ lf) pt pb base N wd (cutL L (goneL T M T.length)) lv1 (keepT T M T.length) lf al av held dv cnt ∧ Fr (TwK pt pb lv T tv av dv) W1 (wr.setCell ⟨pt, 1, none⟩ lf) ∧ ∀ k, TwK pt pb lv1 (keepT T M T.length) lf av dv k → TwK pt pb lv T tv av dv k ∨ W1.heap.size ≤ k := by
  obtain ⟨s1, s2, s3, s4, s5, s6⟩ := h.st
  have hbW := s6
  have hq := hc.fr
  have k1 : Fr (· = pt) wr (wr.setCell ⟨pt, 1, none⟩ lf) := (Fr.refl (· = pt) wr).setCell (p := ⟨pt, 1, none⟩) rfl _
  have hk2 : Fr (fun j => j = pb ∨ j = pt) W1 (wr.setCell ⟨pt, 1, none⟩ lf) := (hq.mono fun _ e => .inl e).trans (k1.mono fun _ e => .inr e)
  have e : wr.heap[pt]? = W1.heap[pt]? := hq.block pt (by omega) s3
  have c : ∀ i u, i ≠ 1 → W1.cell? ⟨pt, i, none⟩ = some u → (wr.setCell ⟨pt, 1, none⟩ lf).cell? ⟨pt, i, none⟩ = some u := fun i u hi hu => by
    rw [World.cell?_setCell_other _ _ _ _ (by intro e; injection e with _ e2; exact hi e2.symm)]; exact (World.cell?_of_block (w := W1) (a := ⟨pt, i, none⟩) e).trans hu
  have f : ∀ i, W1.frozen? ⟨pt, i, none⟩ = false → (wr.setCell ⟨pt, 1, none⟩ lf).frozen? ⟨pt, i, none⟩ = false := fun i hu => by rw [World.frozen?_setCell]; exact (World.frozen?_of_block (w := W1) (a := ⟨pt, i, none⟩) e).trans hu
  have hks := keep_sub (T := T) (M := M) T.length (Nat.le_refl _)
  rw [List.take_length] at hks
  have hsub : ∀ b ∈ keepT T M T.length, b ∈ T := fun b hb => hks.subset hb
  have hgw : ∀ b ∈ T, b.gw < W1.heap.size := fun b hb => by
    obtain ⟨_, h2, h3⟩ := h.ws b hb
    exact h2.lt (by omega)
  have low : ∀ (v : Value) (n : Nat) (xs : List Value), W1.ownsRow base 3 1 v n xs → (wr.setCell ⟨pt, 1, none⟩ lf).ownsRow base 3 1 v n xs := fun v n xs ho => own_blk ho (fun g hg => hk2.block g (ho.lt g hg).2 (fun e => by have := (ho.lt g hg).1; omega))
  refine ⟨⟨c 0 _ (by omega) h.c0, ⟨World.cell?_setCell_same _ _ _ ((World.cell?_of_block (w := W1) (a := ⟨pt, 1, none⟩) e).trans h.c1.1), f 1 h.c1.2⟩, ⟨c 2 _ (by omega) h.c2.1, f 2 h.c2.2⟩, ⟨c 3 _ (by omega) h.c3.1, f 3 h.c3.2⟩, ⟨c 4 _ (by omega) h.c4.1, f 4 h.c4.2⟩,
    hc.ref.fr k1 (Ne.symm s3) (fun g hg e => by have := (hc.ref.own.lt g hg).1; omega), ?_, low _ _ _ h.al, low _ _ _ h.dl, ⟨s1, s2, s3, s4, s5, Nat.le_trans s6 hk2.size⟩, fun b hb => ?_, ?_, fun b hb => h.ga b (hsub b hb), h.ad, fun b hb => ⟨fun e => ?_, fun e => ?_⟩⟩, hk2.mono fun j e => by rcases e with e | e; exact .inr (.inl e); exact .inl e, fun k hk => ?_⟩
  · exact own_low hbW (own_blk hc.row (fun g hg => k1.block g (hc.row.lt g hg).2 (fun e => by have := (hc.row.lt g hg).1; omega)))
  · obtain ⟨h1, h2, h3⟩ := h.ws b (hsub b hb)
    exact ⟨h1, h2.fr hk2 (fun e => by omega), h3⟩
  · exact h.gd.sublist (hks.map _)
  · rcases hc.ol _ e with e2 | e2
    · exact (h.gl b (hsub b hb)).1 e2
    · have := hgw b (hsub b hb); omega
  · have := (hc.row.lt _ e).1
    have := hgw b (hsub b hb); omega
  · rcases hk with hk | hk | hk | hk | hk | hk | ⟨b, hb, e⟩
    · exact .inl (.inl hk)
    · exact .inl (.inr (.inl hk))
    · rcases hc.ol _ hk with e2 | e2
      · exact .inl (.inr (.inr (.inl e2)))
      · exact .inr e2
    · exact .inr (hc.row.lt _ hk).1
    · exact .inl (.inr (.inr (.inr (.inr (.inl hk)))))
    · exact .inl (.inr (.inr (.inr (.inr (.inr (.inl hk))))))
    · exact .inl (.inr (.inr (.inr (.inr (.inr (.inr ⟨b, hsub b hb, e⟩))))))
set_option maxRecDepth 100000 in
set_option maxHeartbeats 4000000 in
theorem tcollect_any (h : Tw w pt pb base N wd L lv T tv al av held dv cnt) (hm : Tm A wd L T) (hI : Inv N A) (hl : T.length ≤ 1000) (hL : L.length ≤ 5000) (hh : held.length ≤ 900) (hN : N ≤ 512) (hc : cnt < 100000) :
    Calls Tryd.prog 24 #[.pointer (some ⟨pt, 0, none⟩)] w fun e w' => TColP w pt pb base N A wd L lv T tv al av held dv cnt e w' := by
  obtain ⟨ta, tc, et, hta⟩ := own_form h.tl
  obtain ⟨da, dc, ed, _⟩ := own_form h.dl
  have c0 := h.c0
  have c1 := h.c1.1
  have c3 := h.c3.1
  have c4 := h.c4.1
  have f4 := h.c4.2
  rw [et] at c1
  rw [ed] at c3
  obtain ⟨n, hn⟩ : ∃ n, n = T.length := ⟨_, rfl⟩
  obtain ⟨m, hmm⟩ : ∃ m, m = held.length := ⟨_, rfl⟩
  have HR : Hid (∀ W, Fr (fun _ => False) w W → Calls Tryd.prog 40 #[.pointer (some ⟨pb, 0, none⟩), .slice ta n tc, .slice da m dc] W fun e w' => ∃ gm M, e = .returned (.slice (some ⟨gm, 0, none⟩) n n) ∧ Sr W w' gm n M ∧ MarkT A wd T held M) := hide fun W hW => by rw [hn, hmm]; exact treached_any (h.quiet hW) hm hI hl hh hN et ed
  rw [← hn] at c1 hl
  rw [← hmm] at c3
  have HT := hide h
  have HTm := hide hm
  have HLn := hide hn
  have HHn := hide hmm
  clear h hm hn hmm hh
  go_enter Tryd.func24, Tryd.ntmps24
  go_wp2
  go_region_held2 (fun w' => w'.cell? ⟨pt, 0, none⟩ = some (.pointer (some ⟨pb, 0, none⟩)) ∧ w'.cell? ⟨pt, 1, none⟩ = some (.slice ta n tc) ∧ w'.cell? ⟨pt, 3, none⟩ = some (.slice da m dc)) (go_keep) (first | (go_at_call 40; refine (unhide HR _ (by first | exact Fr.refl _ _ | exact (Fr.refl _ _).drew)).mono ?_; rintro e w2 ⟨gm, M, rfl, hS, hM⟩; have hF2 := Fr.trans (show Fr (fun _ => False) w _ by first | exact Fr.refl _ _ | exact (Fr.refl _ _).drew) hS.far; have hT2 := (unhide HT).quiet hF2; have d0 := hT2.c0; have d1 := hT2.c1.1; have d3 := hT2.c3.1; have d4 := hT2.c4.1; have e4 := hT2.c4.2; rw [et] at d1; rw [ed] at d3; rw [← unhide HLn] at d1; rw [← unhide HHn] at d3; have HS := hide hS; have HM := hide hM; have HF2 := hide hF2; have HT2 := hide hT2; clear hS hM hF2 hT2))
  all_goals go_wp2
  have HC1 : Hid (Tw (w2.setCell ⟨pt, 4, none⟩ (.int .i64 ((cnt : Int) + 1))) pt pb base N wd L lv T tv al av held dv (cnt + 1)) := hide (unhide HT2).count
  have hst := (unhide HT).st
  have hgmlo : w.heap.size ≤ gm := (unhide HS).lo
  have HG1 : Hid (Row (w2.setCell ⟨pt, 4, none⟩ (.int .i64 ((cnt : Int) + 1))) gm n (fun i => .bool (M i))) := hide ((unhide HS).row.fr ((Fr.refl (· = pt) w2).setCell (p := ⟨pt, 4, none⟩) rfl _) (by omega))
  have HF3 : Hid (Fr (· = pt) w (w2.setCell ⟨pt, 4, none⟩ (.int .i64 ((cnt : Int) + 1)))) := hide (((unhide HF2).mono fun _ x => x.elim).trans ((Fr.refl (· = pt) w2).setCell (p := ⟨pt, 4, none⟩) rfl _))
  generalize w2.setCell ⟨pt, 4, none⟩ (.int .i64 ((cnt : Int) + 1)) = W1 at *
  have hW1 := (unhide HF3).size
  have HEnd : Hid (∀ wr lf lv1 gc, gc = (goneL T M T.length).length → Cl w W1 wr pb base N L lv T M T.length lf lv1 → TColP w pt pb base N A wd L lv T tv al av held dv cnt (.returned (.int .i64 (gc : Int))) (wr.setCell ⟨pt, 1, none⟩ lf)) := hide fun wr lf lv1 gc e1 hcl => by
    obtain ⟨q1, q2, q3⟩ := Cl.done (unhide HC1) hcl
    subst e1
    refine ⟨M, lv1, lf, unhide HM, rfl, q1, ((unhide HF3).mono fun j e => .inl e).trans q2, fun k hk => ?_⟩
    rcases q3 k hk with e | e
    · exact .inl e
    · exact .inr (by omega)
  have HCl0 : Hid (Cl w W1 W1 pb base N L lv T M 0 (.slice none 0 0) lv) := hide ⟨by
      have : cutL L (goneL T M 0) = L := by unfold cutL; rw [List.filter_eq_self]; intro b _; simp [goneL]
      rw [this]; exact (unhide HC1).ref, fun g hg => .inl hg, World.ownsRow_nil _ _ _ _, Fr.refl _ _⟩
  have HTc : Hid (∀ t b, T[t]? = some b → ∃ g, ta = some ⟨g, 0, none⟩ ∧ g < W1.heap.size ∧ g ≠ pb ∧ W1.cell? ⟨g, t * 5, none⟩ = some (.int .i64 b.at_) ∧ W1.cell? ⟨g, t * 5 + 1, none⟩ = some (.int .i64 b.kd) ∧ W1.cell? ⟨g, t * 5 + 2, none⟩ = some (.int .i64 b.sz) ∧ W1.cell? ⟨g, t * 5 + 3, none⟩ = some (.int .i64 b.ms) ∧ W1.cell? ⟨g, t * 5 + 4, none⟩ = some (.slice (some ⟨b.gw, 0, none⟩) (b.room - 1) (b.room - 1))) := hide fun t b hb => by
    have ht := (List.getElem?_eq_some_iff.1 hb).1
    obtain ⟨g, rfl⟩ := hta (by omega)
    have h1 := (unhide HC1).tl
    rw [et] at h1
    have h2 := h1.lt g rfl
    exact ⟨g, rfl, h2.2, by omega, (own_row5 h1).2 t b hb⟩
  have hpbW : pb < W1.heap.size := by have := (unhide HC1).st; omega
  have hgmW : gm < W1.heap.size ∨ n = 0 := by
    by_cases h0 : n = 0
    · exact .inr h0
    · exact .inl ((unhide HG1).lt (by omega))
  clear HR HT2 HS HF2 hta
  obtain ⟨i1, hi1, hz0, hz1, hz2⟩ := info_parts Tryd.info62
  go_loopw [4, 5, 33] (fun lf g i wr => ∃ k : Nat, k ≤ n ∧ i = .int .i64 k ∧ ∃ (c gc : Nat) (la : Option Addr) (lc : Nat) (lv1 : Value), lf = .slice la c lc ∧ g = .int .i64 gc ∧ gc ≤ k ∧ c ≤ k ∧ Hid (c = (keepT T M k).length ∧ gc = (goneL T M k).length) ∧ Hid (Cl w W1 wr pb base N L lv T M k (.slice la c lc) lv1)) (fun _ _ i _ => n - (intOf i).toNat)
  case atStart => exact ⟨0, by omega, rfl, 0, 0, none, 0, lv, rfl, rfl, by omega, by omega, hide ⟨rfl, rfl⟩, HCl0⟩
  case round =>
    obtain ⟨k, hk, rfl, c, gc, la, lc, lv1, rfl, rfl, hgk, hck, hLe, hCl⟩ := hrel
    by_cases hlt : k < n
    · have hkT : k < T.length := by have := unhide HLn; omega
      obtain ⟨b, hb⟩ : ∃ b, b = T.getD k tbD := ⟨_, rfl⟩
      have hbT := (tb_in hkT).2
      rw [← hb] at hbT
      obtain ⟨g, rfl, hgl, hgp, k0, k1, k2, k3, k4⟩ := unhide HTc k b hbT
      have hFr := (unhide hCl).fr
      have far : ∀ i u, W1.cell? ⟨g, i, none⟩ = some u → wr.cell? ⟨g, i, none⟩ = some u := fun i u hu => (World.cell?_of_block (w := W1) (a := ⟨g, i, none⟩) (hFr.block g hgl hgp)).trans hu
      have d0 := far _ _ k0
      have d1 := far _ _ k1
      have d2 := far _ _ k2
      have d3 := far _ _ k3
      have d4 := far _ _ k4
      have dm : wr.cell? ⟨gm, k, none⟩ = some (.bool (M k)) := ((unhide HG1).fr hFr (by omega) k hlt).1
      have HB := hide hb
      clear k0 k1 k2 k3 k4 far hFr
      cases hMk : M k with
      | true =>
        rw [hMk] at dm
        have HMk := hide hMk
        clear hMk hb
        have dm2 : (wr.alloc (Obj.cells #[Value.int IntKind.i64 (b.at_ : Int), Value.int IntKind.i64 b.kd, Value.int IntKind.i64 b.sz, Value.int IntKind.i64 b.ms, Value.slice (some ⟨b.gw, 0, none⟩) (b.room - 1) (b.room - 1)] 62)).cell? ⟨gm, k, none⟩ = some (.bool true) := (World.cell?_alloc_some wr ⟨gm, k, none⟩ _ (by rw [dm]; rfl)).trans dm
        clear dm
        have HNw : Hid (∀ j u, (lbCells (lbT b))[j]? = some u → ((wr.alloc (Obj.cells #[Value.int IntKind.i64 (b.at_ : Int), Value.int IntKind.i64 b.kd, Value.int IntKind.i64 b.sz, Value.int IntKind.i64 b.ms, Value.slice (some ⟨b.gw, 0, none⟩) (b.room - 1) (b.room - 1)] 62)).alloc (Obj.cells #[Value.int IntKind.i64 (b.at_ : Int), Value.int IntKind.i64 b.kd, Value.int IntKind.i64 b.sz, Value.int IntKind.i64 b.ms, Value.slice (some ⟨b.gw, 0, none⟩) (b.room - 1) (b.room - 1)] 62)).cell? ((⟨wr.heap.size + 1, 0, none⟩ : Addr).add j) = some u) := hide (by
          have := lb_news (w := wr.alloc (Obj.cells #[Value.int IntKind.i64 (b.at_ : Int), Value.int IntKind.i64 b.kd, Value.int IntKind.i64 b.sz, Value.int IntKind.i64 b.ms, Value.slice (some ⟨b.gw, 0, none⟩) (b.room - 1) (b.room - 1)] 62)) (lbT b)
          rw [show (wr.alloc (Obj.cells #[Value.int IntKind.i64 (b.at_ : Int), Value.int IntKind.i64 b.kd, Value.int IntKind.i64 b.sz, Value.int IntKind.i64 b.ms, Value.slice (some ⟨b.gw, 0, none⟩) (b.room - 1) (b.room - 1)] 62)).heap.size = wr.heap.size + 1 by simp] at this
          exact this)
        have HOw : Hid (((wr.alloc (Obj.cells #[Value.int IntKind.i64 (b.at_ : Int), Value.int IntKind.i64 b.kd, Value.int IntKind.i64 b.sz, Value.int IntKind.i64 b.ms, Value.slice (some ⟨b.gw, 0, none⟩) (b.room - 1) (b.room - 1)] 62)).alloc (Obj.cells #[Value.int IntKind.i64 (b.at_ : Int), Value.int IntKind.i64 b.kd, Value.int IntKind.i64 b.sz, Value.int IntKind.i64 b.ms, Value.slice (some ⟨b.gw, 0, none⟩) (b.room - 1) (b.room - 1)] 62)).ownsRow W1.heap.size 62 5 (.slice la c lc) c (lbAll ((keepT T M k).map lbT))) := hide (by
          have := ((unhide hCl).row.alloc (Obj.cells #[Value.int IntKind.i64 (b.at_ : Int), Value.int IntKind.i64 b.kd, Value.int IntKind.i64 b.sz, Value.int IntKind.i64 b.ms, Value.slice (some ⟨b.gw, 0, none⟩) (b.room - 1) (b.room - 1)] 62)).alloc (Obj.cells #[Value.int IntKind.i64 (b.at_ : Int), Value.int IntKind.i64 b.kd, Value.int IntKind.i64 b.sz, Value.int IntKind.i64 b.ms, Value.slice (some ⟨b.gw, 0, none⟩) (b.room - 1) (b.room - 1)] 62)
          rw [← (unhide hLe).1] at this
          exact this)
        have HKp : Hid (∀ g5 cap5 w5, w5.ownsRow W1.heap.size 62 5 (.slice (some ⟨g5, 0, none⟩) (c + 1) cap5) (c + 1) (lbAll ((keepT T M k).map lbT) ++ lbCells (lbT b)) → ((wr.alloc (Obj.cells #[Value.int IntKind.i64 (b.at_ : Int), Value.int IntKind.i64 b.kd, Value.int IntKind.i64 b.sz, Value.int IntKind.i64 b.ms, Value.slice (some ⟨b.gw, 0, none⟩) (b.room - 1) (b.room - 1)] 62)).alloc (Obj.cells #[Value.int IntKind.i64 (b.at_ : Int), Value.int IntKind.i64 b.kd, Value.int IntKind.i64 b.sz, Value.int IntKind.i64 b.ms, Value.slice (some ⟨b.gw, 0, none⟩) (b.room - 1) (b.room - 1)] 62)).grownBy w5 (Value.slice la c lc).ownBlock → Cl w W1 w5 pb base N L lv T M (k + 1) (.slice (some ⟨g5, 0, none⟩) (c + 1) cap5) lv1) := hide fun g5 cap5 w5 ho hg => by
          refine ((unhide hCl).quiet (((Fr.refl (fun _ => False) wr).alloc (Obj.cells #[Value.int IntKind.i64 (b.at_ : Int), Value.int IntKind.i64 b.kd, Value.int IntKind.i64 b.sz, Value.int IntKind.i64 b.ms, Value.slice (some ⟨b.gw, 0, none⟩) (b.room - 1) (b.room - 1)] 62)).alloc (Obj.cells #[Value.int IntKind.i64 (b.at_ : Int), Value.int IntKind.i64 b.kd, Value.int IntKind.i64 b.sz, Value.int IntKind.i64 b.ms, Value.slice (some ⟨b.gw, 0, none⟩) (b.room - 1) (b.room - 1)] 62))).keep hpbW (unhide HMk) ?_ hg
          rw [← unhide HB, ← (unhide hLe).1]
          exact ho
        have hwr : W1.heap.size ≤ wr.heap.size := (unhide hCl).fr.size
        generalize lbAll ((keepT T M k).map lbT) = XS at *
        go_wp2_with (first | (at_builtin; refine wpList_append_lies _ rfl _ _ 30 rfl W1.heap.size 62 i1 (.agg #[.int .i64 0, .int .i64 0, .int .i64 0, .int .i64 0, .slice none 0 0]) 5 56 Tryd.underlying30 hi1 hz0 hz1 hz2 rfl (by decide) (.slice la c lc) c XS rfl (unhide HOw) ⟨wr.heap.size + 1, 0, none⟩ 1 1 (lbCells (lbT b)) rfl rfl (unhide HNw) (lb_one _) (by decide) (by unfold maxLen; omega) (by omega) (by simp; omega) _ rfl ?_; intro g5 cap5 w5 ho5 hgr5 hat5 hlt5; have HC5 := hide (unhide HKp _ _ _ ho5 hgr5); clear ho5 hgr5 hat5 hlt5))
        go_roundw
        case rel => exact ⟨k + 1, by omega, by go_num, c + 1, gc, _, cap5, lv1, rfl, rfl, by omega, by omega, hide ⟨by rw [keepT, unhide HMk, if_pos rfl, List.length_append, ← (unhide hLe).1]; rfl, by rw [goneL, unhide HMk, if_pos rfl, List.append_nil]; exact (unhide hLe).2⟩, HC5⟩
        case measure => simp [intOf]; omega
      | false =>
        rw [hMk] at dm
        have HMk := hide hMk
        have hxin : b.at_ ∉ goneL T M k := fun hx => by
          obtain ⟨i, hi, _, ei⟩ := gone_mem.1 hx
          have := (unhide HTm).inj (i := i) (j := k) (by omega) hkT (by rw [ei, ← hb])
          omega
        obtain ⟨rb0, hrb0, erb⟩ := (unhide HTm).mt.all b.at_ (((unhide HTm).lv _).2 ⟨b, List.mem_of_getElem? hbT, rfl⟩)
        have hin : rb0 ∈ cutL L (goneL T M k) := List.mem_filter.2 ⟨hrb0, by rw [erb]; simpa using hxin⟩
        have hfs := findI_some (x := (b.at_ : Int)) (cutL L (goneL T M k)) 0 rb0 hin (by rw [erb])
        obtain ⟨i, b2, hi, hb2, eb2⟩ := findI_at (cutL L (goneL T M k)) 0 hfs
        have hil := (List.getElem?_eq_some_iff.1 hb2).1
        have hcl : (cutL L (goneL T M k)).length ≤ 5000 := Nat.le_trans (List.length_filter_le _ _) hL
        have HFree : Hid (∀ W, Fr (fun _ => False) wr W → Calls Tryd.prog 41 #[.pointer (some ⟨pb, 0, none⟩), .int .i64 (b.at_ : Int)] W fun e w' => e = .returned (.bool true) ∧ (∃ lv2, Cl w W1 w' pb base N L lv T M (k + 1) (.slice la c lc) lv2) ∧ ∀ u, W.cell? ⟨wr.heap.size, 0, none⟩ = some u → w'.cell? ⟨wr.heap.size, 0, none⟩ = some u) := hide fun W hW => by
          have hqq := (unhide hCl).quiet hW
          have hbs : base ≤ W.heap.size := by have := (unhide hCl).fr.size; have := hW.size; omega
          refine (Free_ref pb base N (b.at_ : Int) _ lv1 _ hqq.ref hbs hcl i (by rw [hi]; omega) hil).mono ?_
          intro e w' hf
          refine ⟨hf.1, hqq.free hpbW hMk (unhide HTm).mt.sorted hb2 (by rw [← hb]; omega) hf, fun u hu => ?_⟩
          obtain ⟨_, _, _, _, hF⟩ := hf
          have h1 := (unhide hCl).fr.size
          exact (World.cell?_of_block (w := W) (a := ⟨wr.heap.size, 0, none⟩) (hF.block _ (World.block_lt_of_cell? W ⟨wr.heap.size, 0, none⟩ hu) (show wr.heap.size ≠ pb by omega))).trans hu
        have p0 : wr.cell? ⟨pt, 0, none⟩ = some (.pointer (some ⟨pb, 0, none⟩)) := (World.cell?_of_block (w := W1) (a := ⟨pt, 0, none⟩) ((unhide hCl).fr.block pt (by omega) (by omega))).trans (unhide HC1).c0
        have dm2 : (wr.alloc (Obj.cells #[Value.int IntKind.i64 (b.at_ : Int), Value.int IntKind.i64 b.kd, Value.int IntKind.i64 b.sz, Value.int IntKind.i64 b.ms, Value.slice (some ⟨b.gw, 0, none⟩) (b.room - 1) (b.room - 1)] 62)).cell? ⟨gm, k, none⟩ = some (.bool false) := (World.cell?_alloc_some wr ⟨gm, k, none⟩ _ (by rw [dm]; rfl)).trans dm
        have p2 : (wr.alloc (Obj.cells #[Value.int IntKind.i64 (b.at_ : Int), Value.int IntKind.i64 b.kd, Value.int IntKind.i64 b.sz, Value.int IntKind.i64 b.ms, Value.slice (some ⟨b.gw, 0, none⟩) (b.room - 1) (b.room - 1)] 62)).cell? ⟨pt, 0, none⟩ = some (.pointer (some ⟨pb, 0, none⟩)) := (World.cell?_alloc_some wr ⟨pt, 0, none⟩ _ (by rw [p0]; rfl)).trans p0
        clear dm p0
        have p3 : (wr.alloc (Obj.cells #[Value.int IntKind.i64 (b.at_ : Int), Value.int IntKind.i64 b.kd, Value.int IntKind.i64 b.sz, Value.int IntKind.i64 b.ms, Value.slice (some ⟨b.gw, 0, none⟩) (b.room - 1) (b.room - 1)] 62)).cell? ⟨wr.heap.size, 0, none⟩ = some (.int .i64 (b.at_ : Int)) := by rw [World.cell?_alloc_at _ _ _ _ rfl]; rfl
        have HPt : Hid (∀ w5 lv2, Cl w W1 w5 pb base N L lv T M (k + 1) (.slice la c lc) lv2 → w5.cell? ⟨pt, 0, none⟩ = some (.pointer (some ⟨pb, 0, none⟩))) := hide fun w5 lv2 hC => (World.cell?_of_block (w := W1) (a := ⟨pt, 0, none⟩) (hC.fr.block pt (by omega) (by omega))).trans (unhide HC1).c0
        clear hMk hb hcl hil hb2 eb2 hi hfs hin hrb0 erb hxin
        go_wp2
        go_region_held2 (fun w' => w'.cell? ⟨pt, 0, none⟩ = some (.pointer (some ⟨pb, 0, none⟩)) ∧ w'.cell? ⟨wr.heap.size, 0, none⟩ = some (.int .i64 (b.at_ : Int))) (go_keep) (first | (go_at_call 41; refine (unhide HFree _ (by first | exact (Fr.refl _ _).alloc _ | exact ((Fr.refl _ _).alloc _).drew)).mono ?_; rintro e w5 ⟨rfl, ⟨lv2, hC5⟩, hX5⟩; have p5 := unhide HPt _ _ hC5; have p6 := hX5 _ p3; have HC5 := hide hC5; clear hC5 hX5))
        go_wp2
        go_roundw
        case rel => exact ⟨k + 1, by omega, by go_num, c, gc + 1, la, lc, lv2, rfl, by go_num, by omega, by omega, hide ⟨by rw [keepT, unhide HMk]; simp; exact (unhide hLe).1, by rw [goneL, unhide HMk]; simp; exact (unhide hLe).2⟩, HC5⟩
        case measure => simp [intOf]; omega
    · obtain rfl : k = n := by omega
      have HE : Hid (TColP w pt pb base N A wd L lv T tv al av held dv cnt (.returned (.int .i64 (gc : Int))) (wr.setCell ⟨pt, 1, none⟩ (.slice la c lc))) := hide (by
        have h1 := unhide hLe
        have h2 := unhide hCl
        rw [unhide HLn] at h1 h2
        exact unhide HEnd wr _ lv1 gc h1.2 h2)
      have q1 : wr.cell? ⟨pt, 1, none⟩ = some tv ∧ wr.frozen? ⟨pt, 1, none⟩ = false := by
        have e : wr.heap[pt]? = W1.heap[pt]? := (unhide hCl).fr.block pt (by omega) (by omega)
        exact ⟨(World.cell?_of_block (w := W1) (a := ⟨pt, 1, none⟩) e).trans (unhide HC1).c1.1, (World.frozen?_of_block (w := W1) (a := ⟨pt, 1, none⟩) e).trans (unhide HC1).c1.2⟩
      obtain ⟨q1, q2⟩ := q1
      go_wp2
      go_ret
      exact unhide HE
end Go.Proofs.YtjblmincldaklaaDoor
