/- The space and the law's own, side by side. -/
import Derived.Test.YtjblmincldaklaaDoorT8
import Derived.Test.YtjblmincldaklaaDoorOq
namespace Go.Proofs.YtjblmincldaklaaDoor
open Go.RowKit Go.Proofs.YtjblmincldaklaaDoor.Hp
section
variable {w w5 : World} {pt pb base N : Nat} {wd : Nat → Int} {L : List Rb} {lv : Value} {T : List Tb} {tv : Value} {al : List Nat} {av : Value} {held : List Int} {dv : Value} {cnt : Nat}
/-- What is held is another row: its own grown, or a new one. -/
theorem Tw.setD {held' : List Int} {g n' c : Nat} (h : Tw w pt pb base N wd L lv T tv al av held dv cnt) (hF : Fr (fun j => dv.ownBlock = some j) w w5) (hn : n' = held'.length)
    (ho : w5.ownsRow base 3 1 (.slice (some ⟨g, 0, none⟩) n' c) n' (held'.map (Value.int .i64))) (hat : dv.ownBlock = some g ∨ w.heap.size ≤ g) :
    w5.cell? ⟨pt, 3, none⟩ = some dv ∧ w5.frozen? ⟨pt, 3, none⟩ = false ∧ Tw (w5.setCell ⟨pt, 3, none⟩ (.slice (some ⟨g, 0, none⟩) n' c)) pt pb base N wd L lv T tv al av held' (.slice (some ⟨g, 0, none⟩) n' c) cnt ∧ Fr (TwK pt pb lv T tv av dv) w (w5.setCell ⟨pt, 3, none⟩ (.slice (some ⟨g, 0, none⟩) n' c)) ∧
    ∀ k, TwK pt pb lv T tv av (.slice (some ⟨g, 0, none⟩) n' c) k → TwK pt pb lv T tv av dv k ∨ w.heap.size ≤ k := by
  subst hn
  obtain ⟨s1, s2, s3, s4, s5, s6⟩ := h.st
  have k1 : Fr (· = pt) w5 (w5.setCell ⟨pt, 3, none⟩ (.slice (some ⟨g, 0, none⟩) held'.length c)) := (Fr.refl (· = pt) w5).setCell (p := ⟨pt, 3, none⟩) rfl _
  have hdl : ∀ j, dv.ownBlock = some j → base ≤ j ∧ j < w.heap.size := fun j e => h.dl.lt j e
  have hpt : ¬ dv.ownBlock = some pt := fun e => by have := hdl pt e; omega
  have hpb : ¬ dv.ownBlock = some pb := fun e => by have := hdl pb e; omega
  have hgb : ∀ b ∈ T, b.gw < w.heap.size := fun b hb => by
    obtain ⟨_, h2, h3⟩ := h.ws b hb
    exact h2.lt (by omega)
  have e : w5.heap[pt]? = w.heap[pt]? := hF.block pt (by omega) hpt
  have c1 : ∀ i u, i ≠ 3 → w.cell? ⟨pt, i, none⟩ = some u → (w5.setCell ⟨pt, 3, none⟩ (.slice (some ⟨g, 0, none⟩) held'.length c)).cell? ⟨pt, i, none⟩ = some u := fun i u hi hu => by
    rw [World.cell?_setCell_other _ _ _ _ (by intro e; injection e with _ e2; exact hi e2.symm)]; exact (World.cell?_of_block (w := w) (a := ⟨pt, i, none⟩) e).trans hu
  have f1 : ∀ i, w.frozen? ⟨pt, i, none⟩ = false → (w5.setCell ⟨pt, 3, none⟩ (.slice (some ⟨g, 0, none⟩) held'.length c)).frozen? ⟨pt, i, none⟩ = false := fun i hu => by rw [World.frozen?_setCell]; exact (World.frozen?_of_block (w := w) (a := ⟨pt, i, none⟩) e).trans hu
  refine ⟨(World.cell?_of_block (w := w) (a := ⟨pt, 3, none⟩) e).trans h.c3.1, (World.frozen?_of_block (w := w) (a := ⟨pt, 3, none⟩) e).trans h.c3.2, ⟨c1 0 _ (by omega) h.c0, ⟨c1 1 _ (by omega) h.c1.1, f1 1 h.c1.2⟩, ⟨c1 2 _ (by omega) h.c2.1, f1 2 h.c2.2⟩, ⟨World.cell?_setCell_same _ _ _ ((World.cell?_of_block (w := w) (a := ⟨pt, 3, none⟩) e).trans h.c3.1), f1 3 h.c3.2⟩, ⟨c1 4 _ (by omega) h.c4.1, f1 4 h.c4.2⟩,
    (h.ref.fr hF hpb (fun j hj => own_diff h.ref.own h.dl (by decide) j hj)).fr k1 (Ne.symm s3) (fun j hj e2 => by have := (h.ref.own.lt j hj).1; omega),
    own_blk h.tl (fun j hj => (k1.block j (Nat.lt_of_lt_of_le (h.tl.lt j hj).2 hF.size) (fun e => by have := (h.tl.lt j hj).1; omega)).trans (hF.block j (h.tl.lt j hj).2 (own_diff h.tl h.dl (by decide) j hj))),
    own_blk h.al (fun j hj => (k1.block j (Nat.lt_of_lt_of_le (h.al.lt j hj).2 hF.size) (fun e => by have := (h.al.lt j hj).1; omega)).trans (hF.block j (h.al.lt j hj).2 (h.ad j hj))),
    own_blk ho (fun j hj => k1.block j (ho.lt j hj).2 (fun e2 => by have := (ho.lt j hj).1; omega)), ⟨s1, s2, s3, s4, s5, Nat.le_trans s6 (Nat.le_trans hF.size k1.size)⟩, fun d hd => ?_, h.gd, fun d hd => ⟨(h.ga d hd).1, fun e2 => ?_⟩, fun j hj e2 => ?_, h.gl⟩, (hF.mono fun j e => .inr (.inr (.inr (.inr (.inr (.inl e)))))).trans (k1.mono fun j e => .inl e), fun k hk => ?_⟩
  · obtain ⟨h1, h2, h3⟩ := h.ws d hd
    exact ⟨h1, (h2.fr hF (h.ga d hd).2).fr k1 (fun e2 => by omega), h3⟩
  · have e3 : g = d.gw := by simpa [Value.ownBlock] using e2
    rcases hat with e4 | e4
    · exact (h.ga d hd).2 (by rw [e4, e3])
    · have := hgb d hd; omega
  · have e3 : g = j := by simpa [Value.ownBlock] using e2
    rcases hat with e4 | e4
    · exact h.ad j hj (by rw [e4, e3])
    · have := (h.al.lt j hj).2; omega
  · rcases hk with hk | hk | hk | hk | hk | hk | ⟨d, hd, e2⟩
    · exact .inl (.inl hk)
    · exact .inl (.inr (.inl hk))
    · exact .inl (.inr (.inr (.inl hk)))
    · exact .inl (.inr (.inr (.inr (.inl hk))))
    · exact .inl (.inr (.inr (.inr (.inr (.inl hk)))))
    · have e3 : g = k := by simpa [Value.ownBlock] using hk
      rcases hat with e4 | e4
      · exact .inl (.inr (.inr (.inr (.inr (.inr (.inl (by rw [e4, e3])))))))
      · exact .inr (by omega)
    · exact .inl (.inr (.inr (.inr (.inr (.inr (.inr ⟨d, hd, e2⟩))))))
/-- A word of a block of the list is written. -/
theorem Tw.put {b : Tb} {q : Nat} {v : Int} (h : Tw w pt pb base N wd L lv T tv al av held dv cnt) (hs : ∀ c ∈ T, c ≠ b → ∀ x, x < c.room - 1 → c.at_ + (x + 1) ≠ b.at_ + (1 + q)) (hb : b ∈ T) (hq : q < b.room - 1) :
    Tw (w.setCell ⟨b.gw, q, none⟩ (.int .i64 v)) pt pb base N (upd wd (b.at_ + (1 + q)) v) L lv T tv al av held dv cnt ∧ Fr (TwK pt pb lv T tv av dv) w (w.setCell ⟨b.gw, q, none⟩ (.int .i64 v)) := by
  obtain ⟨s1, s2, s3, s4, s5, s6⟩ := h.st
  obtain ⟨b1, b2, b3⟩ := h.ws b hb
  have k1 : Fr (· = b.gw) w (w.setCell ⟨b.gw, q, none⟩ (.int .i64 v)) := (Fr.refl (· = b.gw) w).setCell (p := ⟨b.gw, q, none⟩) rfl _
  have e : (w.setCell ⟨b.gw, q, none⟩ (.int .i64 v)).heap[pt]? = w.heap[pt]? := k1.block pt (by omega) (by omega)
  have c1 : ∀ i u, w.cell? ⟨pt, i, none⟩ = some u → (w.setCell ⟨b.gw, q, none⟩ (.int .i64 v)).cell? ⟨pt, i, none⟩ = some u := fun i u hu => (World.cell?_of_block (w := w) (a := ⟨pt, i, none⟩) e).trans hu
  have f1 : ∀ i, w.frozen? ⟨pt, i, none⟩ = false → (w.setCell ⟨b.gw, q, none⟩ (.int .i64 v)).frozen? ⟨pt, i, none⟩ = false := fun i hu => (World.frozen?_of_block (w := w) (a := ⟨pt, i, none⟩) e).trans hu
  refine ⟨⟨c1 0 _ h.c0, ⟨c1 1 _ h.c1.1, f1 1 h.c1.2⟩, ⟨c1 2 _ h.c2.1, f1 2 h.c2.2⟩, ⟨c1 3 _ h.c3.1, f1 3 h.c3.2⟩, ⟨c1 4 _ h.c4.1, f1 4 h.c4.2⟩,
    h.ref.fr k1 (by omega) (fun g hg e2 => (h.gl b hb).1 (by rw [hg, e2])),
    own_blk h.tl (fun g hg => k1.block g (h.tl.lt g hg).2 (fun e2 => (h.gl b hb).2 (by rw [hg, e2]))),
    own_blk h.al (fun g hg => k1.block g (h.al.lt g hg).2 (fun e2 => (h.ga b hb).1 (by rw [hg, e2]))),
    own_blk h.dl (fun g hg => k1.block g (h.dl.lt g hg).2 (fun e2 => (h.ga b hb).2 (by rw [hg, e2]))),
    ⟨s1, s2, s3, s4, s5, Nat.le_trans s6 k1.size⟩, fun d hd => ?_, h.gd, h.ga, h.ad, h.gl⟩, k1.mono fun j e => .inr (.inr (.inr (.inr (.inr (.inr ⟨b, hb, e.symm⟩)))))⟩
  obtain ⟨d1, d2, d3⟩ := h.ws d hd
  by_cases ed : d = b
  · subst ed
    refine ⟨d1, (d2.set q (.int .i64 v) hq).ext fun x hx => ?_, d3⟩
    by_cases ex : x = q
    · subst ex
      rw [upd_same, show d.at_ + (x + 1) = d.at_ + (1 + x) by omega, upd_same]
    · rw [upd_ne _ _ ex, upd_ne _ _ (by omega)]
  · have hne : d.gw ≠ b.gw := fun e2 => by
      obtain ⟨i, hi⟩ := List.getElem?_of_mem hd
      obtain ⟨j, hj⟩ := List.getElem?_of_mem hb
      have hil := (List.getElem?_eq_some_iff.1 hi).1
      have hjl := (List.getElem?_eq_some_iff.1 hj).1
      have hn := List.pairwise_iff_getElem.1 h.gd
      have ei : (T.map Tb.gw)[i]'(by simpa using hil) = d.gw := by rw [List.getElem_map]; congr 1; rw [List.getElem?_eq_getElem hil] at hi; exact Option.some.inj hi
      have ej : (T.map Tb.gw)[j]'(by simpa using hjl) = b.gw := by rw [List.getElem_map]; congr 1; rw [List.getElem?_eq_getElem hjl] at hj; exact Option.some.inj hj
      rcases Nat.lt_trichotomy i j with o | o | o
      · exact hn i j (by simpa using hil) (by simpa using hjl) o (by rw [ei, ej, e2])
      · subst o; rw [hi] at hj; cases hj; exact ed rfl
      · exact hn j i (by simpa using hjl) (by simpa using hil) o (by rw [ei, ej, e2])
    exact ⟨d1, (d2.fr k1 hne).ext fun x hx => by rw [upd_ne _ _ (hs d hd ed x hx)], d3⟩
end
/-- Side by side: the space in one state, the law's own in another one. -/
structure Mid (w0 w : World) (B : HB) (p pt pb base N : Nat) (A : Nat → Kd) (wd : Nat → Int) (hv : Value) (held : List Int) (cnt : Nat) (wd2 : Nat → Int) (L : List Rb) (lv : Value) (T : List Tb) (tv : Value) (al : List Nat) (av : Value) (held2 : List Int) (dv : Value) (cnt2 : Nat) : Prop where
  lw : Lw w0 w B N p A wd hv held cnt
  tw : Tw w pt pb base N wd2 L lv T tv al av held2 dv cnt2
  ap : ∀ k, SpK B p hv k → ¬ TwK pt pb lv T tv av dv k
  nb : w0.heap.size ≤ pt ∧ w0.heap.size ≤ pb
section
variable {w0 w w' : World} {B : HB} {p pt pb base N : Nat} {A A' : Nat → Kd} {wd wd' wd2 wd3 : Nat → Int} {hv hv' : Value} {held held' held2 held3 : List Int} {cnt cnt' cnt2 cnt3 : Nat} {L L' : List Rb} {lv lv' : Value} {T T' : List Tb} {tv tv' : Value} {al al' : List Nat} {av av' dv dv' : Value}
theorem Mid.space (h : Mid w0 w B p pt pb base N A wd hv held cnt wd2 L lv T tv al av held2 dv cnt2) (hs : Sp w' B N p A' wd' hv' held' cnt') (k : Fr (SpK B p hv) w w') (hg : ∀ g, hv'.ownBlock = some g → hv.ownBlock = some g ∨ w.heap.size ≤ g) : Mid w0 w' B p pt pb base N A' wd' hv' held' cnt' wd2 L lv T tv al av held2 dv cnt2 := by
  refine ⟨h.lw.to hs k hg, h.tw.fr' k (fun b hb hk => h.ap b hk hb), fun j hj ht => ?_, h.nb⟩
  rcases hj with hj | hj | hj
  · exact h.ap j (.inl hj) ht
  · exact h.ap j (.inr (.inl hj)) ht
  · rcases hg j hj with e | e
    · exact h.ap j (.inr (.inr e)) ht
    · have := (h.tw.lt ht).2; omega
theorem Mid.twin (h : Mid w0 w B p pt pb base N A wd hv held cnt wd2 L lv T tv al av held2 dv cnt2) (ht : Tw w' pt pb base N wd3 L' lv' T' tv' al' av' held3 dv' cnt3) (k : Fr (TwK pt pb lv T tv av dv) w w') (hk : ∀ j, TwK pt pb lv' T' tv' av' dv' j → TwK pt pb lv T tv av dv j ∨ w.heap.size ≤ j) : Mid w0 w' B p pt pb base N A wd hv held cnt wd3 L' lv' T' tv' al' av' held3 dv' cnt3 := by
  have h0 : ∀ j, TwK pt pb lv T tv av dv j → 2 ≤ j := fun j hj => (h.tw.lt hj).1
  have hb := h.nb
  have hst := h.tw.st
  have hlo : ∀ j, TwK pt pb lv T tv av dv j → w0.heap.size ≤ j := fun j hj => by
    have hbase : w0.heap.size ≤ base := by omega
    rcases hj with rfl | rfl | hj | hj | hj | hj | ⟨b, hbT, rfl⟩
    · exact hb.1
    · exact hb.2
    · have := (h.tw.ref.own.lt j hj).1; omega
    · have := (h.tw.tl.lt j hj).1; omega
    · have := (h.tw.al.lt j hj).1; omega
    · have := (h.tw.dl.lt j hj).1; omega
    · have := (h.tw.ws b hbT).1; omega
  refine ⟨⟨h.lw.sp.fr' k (fun b hb => h.ap b hb) (fun e => by have := h0 0 e; omega) (fun e => by have := h0 1 e; omega), h.lw.far.up k hlo, h.lw.base⟩, ht, fun j hj ht2 => ?_, h.nb⟩
  rcases hk j ht2 with e | e
  · exact h.ap j hj e
  · have := (h.lw.sp.lt hj).2; omega
theorem Mid.quiet (h : Mid w0 w B p pt pb base N A wd hv held cnt wd2 L lv T tv al av held2 dv cnt2) (k : Fr (fun _ => False) w w') : Mid w0 w' B p pt pb base N A wd hv held cnt wd2 L lv T tv al av held2 dv cnt2 := ⟨h.lw.quiet k, h.tw.quiet k, h.ap, h.nb⟩
end
end Go.Proofs.YtjblmincldaklaaDoor
