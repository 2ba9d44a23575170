/- The law's lists grow. -/
import Derived.Test.YtjblmincldaklaaDoorT4
namespace Go.Proofs.YtjblmincldaklaaDoor
open Go.RowKit Go.Proofs.YtjblmincldaklaaDoor.Hp
variable {w wq w5 : World} {pt pb base N : Nat} {wd : Nat → Int} {L : List Rb} {lv : Value} {T : List Tb} {tv : Value} {al : List Nat} {av : Value} {held : List Int} {dv : Value} {cnt : Nat}
theorem Tw.pushT {b : Tb} {g c : Nat} (h : Tw w pt pb base N wd L lv T tv al av held dv cnt) (hq : Fr (fun _ => False) w wq) (hrow : Row wq b.gw (b.room - 1) (fun q => .int .i64 (wd (b.at_ + (q + 1))))) (hgw : w.heap.size ≤ b.gw) (hr : 2 ≤ b.room)
    (ho : w5.ownsRow base 62 5 (.slice (some ⟨g, 0, none⟩) (T.length + 1) c) (T.length + 1) (lbAll (T.map lbT) ++ lbCells (lbT b))) (hg : wq.grownBy w5 tv.ownBlock) (hat : tv.ownBlock = some g ∨ b.gw < g) :
    Tw (w5.setCell ⟨pt, 1, none⟩ (.slice (some ⟨g, 0, none⟩) (T.length + 1) c)) pt pb base N wd L lv (T ++ [b]) (.slice (some ⟨g, 0, none⟩) (T.length + 1) c) al av held dv cnt ∧ Fr (TwK pt pb lv T tv av dv) w (w5.setCell ⟨pt, 1, none⟩ (.slice (some ⟨g, 0, none⟩) (T.length + 1) c)) ∧
    ∀ k, TwK pt pb lv (T ++ [b]) (.slice (some ⟨g, 0, none⟩) (T.length + 1) c) av dv k → TwK pt pb lv T tv av dv k ∨ w.heap.size ≤ k := by
  obtain ⟨s1, s2, s3, s4, s5, s6⟩ := h.st
  have hF : Fr (fun j => tv.ownBlock = some j) w w5 := (hq.mono fun _ x => x.elim).trans ((Fr.grown hg).mono fun _ e => e.symm)
  have k1 : Fr (· = pt) w5 (w5.setCell ⟨pt, 1, none⟩ (.slice (some ⟨g, 0, none⟩) (T.length + 1) c)) := (Fr.refl (· = pt) w5).setCell (p := ⟨pt, 1, none⟩) rfl _
  have htl : ∀ j, tv.ownBlock = some j → base ≤ j ∧ j < w.heap.size := fun j e => h.tl.lt j e
  have hpt : ¬ tv.ownBlock = some pt := fun e => by have := htl pt e; omega
  have hpb : ¬ tv.ownBlock = some pb := fun e => by have := htl pb e; omega
  have hgb : ∀ b ∈ T, b.gw < w.heap.size := fun b hb => by
    obtain ⟨_, h2, h3⟩ := h.ws b hb
    exact h2.lt (by omega)
  have e : w5.heap[pt]? = w.heap[pt]? := hF.block pt (by omega) hpt
  have c1 : ∀ i u, i ≠ 1 → w.cell? ⟨pt, i, none⟩ = some u → (w5.setCell ⟨pt, 1, none⟩ (.slice (some ⟨g, 0, none⟩) (T.length + 1) c)).cell? ⟨pt, i, none⟩ = some u := fun i u hi hu => by
    rw [World.cell?_setCell_other _ _ _ _ (by intro e; injection e with _ e2; exact hi e2.symm)]; exact (World.cell?_of_block (w := w) (a := ⟨pt, i, none⟩) e).trans hu
  have f1 : ∀ i, w.frozen? ⟨pt, i, none⟩ = false → (w5.setCell ⟨pt, 1, none⟩ (.slice (some ⟨g, 0, none⟩) (T.length + 1) c)).frozen? ⟨pt, i, none⟩ = false := fun i hu => by rw [World.frozen?_setCell]; exact (World.frozen?_of_block (w := w) (a := ⟨pt, i, none⟩) e).trans hu
  have low : ∀ (v : Value) (n : Nat) (xs : List Value), w.ownsRow base 3 1 v n xs → (w5.setCell ⟨pt, 1, none⟩ (.slice (some ⟨g, 0, none⟩) (T.length + 1) c)).ownsRow base 3 1 v n xs := fun v n xs hv =>
    own_blk hv (fun j hj => (k1.block j (Nat.lt_of_lt_of_le (hv.lt j hj).2 hF.size) (fun e => by have := (hv.lt j hj).1; omega)).trans (hF.block j (hv.lt j hj).2 (own_diff hv h.tl (by decide) j hj)))
  have hbg : b.gw < w5.heap.size := Nat.lt_of_lt_of_le (hrow.lt (by omega)) hg.size
  have hgne : g ≠ b.gw := fun e2 => by
    rcases hat with e3 | e3
    · have := (htl g e3).2; omega
    · omega
  have hwT : Row (w5.setCell ⟨pt, 1, none⟩ (.slice (some ⟨g, 0, none⟩) (T.length + 1) c)) b.gw (b.room - 1) (fun q => .int .i64 (wd (b.at_ + (q + 1)))) := (hrow.fr (Fr.grown hg) (fun e2 => by have := (htl b.gw e2.symm).2; omega)).fr k1 (fun e2 => by omega)
  refine ⟨⟨c1 0 _ (by omega) h.c0, ⟨World.cell?_setCell_same _ _ _ ((World.cell?_of_block (w := w) (a := ⟨pt, 1, none⟩) e).trans h.c1.1), f1 1 h.c1.2⟩, ⟨c1 2 _ (by omega) h.c2.1, f1 2 h.c2.2⟩, ⟨c1 3 _ (by omega) h.c3.1, f1 3 h.c3.2⟩, ⟨c1 4 _ (by omega) h.c4.1, f1 4 h.c4.2⟩,
    (h.ref.fr hF hpb (fun j hj => own_diff h.ref.own h.tl (by decide) j hj)).fr k1 (Ne.symm s3) (fun j hj e2 => by have := (h.ref.own.lt j hj).1; omega), ?_, low _ _ _ h.al, low _ _ _ h.dl, ⟨s1, s2, s3, s4, s5, Nat.le_trans s6 (Nat.le_trans hF.size k1.size)⟩, fun d hd => ?_, ?_, fun d hd => ?_, h.ad, fun d hd => ?_⟩, (hF.mono fun j e => .inr (.inr (.inr (.inl e)))).trans (k1.mono fun j e => .inl e), fun k hk => ?_⟩
  · rw [List.length_append, List.map_append, show lbAll (T.map lbT ++ [b].map lbT) = lbAll (T.map lbT) ++ lbCells (lbT b) by simp [lbAll]]
    exact own_blk ho (fun j hj => k1.block j (ho.lt j hj).2 (fun e2 => by have := (ho.lt j hj).1; omega))
  · rcases List.mem_append.1 hd with hd | hd
    · obtain ⟨h1, h2, h3⟩ := h.ws d hd
      exact ⟨h1, (h2.fr hF (h.gl d hd).2).fr k1 (fun e2 => by omega), h3⟩
    · rw [List.mem_singleton.1 hd]
      exact ⟨by omega, hwT, hr⟩
  · rw [List.map_append, List.nodup_append]
    refine ⟨h.gd, by simp, fun x hx y hy => ?_⟩
    rintro rfl
    obtain ⟨d, hd, e2⟩ := List.mem_map.1 hx
    have h1 := hgb d hd
    have h2 : x = b.gw := by simpa using hy
    omega
  · rcases List.mem_append.1 hd with hd | hd
    · exact h.ga d hd
    · rw [List.mem_singleton.1 hd]
      exact ⟨fun e2 => by have := (h.al.lt _ e2).2; omega, fun e2 => by have := (h.dl.lt _ e2).2; omega⟩
  · rcases List.mem_append.1 hd with hd | hd
    · refine ⟨(h.gl d hd).1, fun e2 => ?_⟩
      have e3 : g = d.gw := by simpa [Value.ownBlock] using e2
      rcases hat with e4 | e4
      · exact (h.gl d hd).2 (by rw [e4, e3])
      · have := hgb d hd; omega
    · rw [List.mem_singleton.1 hd]
      exact ⟨fun e2 => by have := (h.ref.own.lt _ e2).2; omega, fun e2 => hgne (by simpa [Value.ownBlock] using e2)⟩
  · rcases hk with hk | hk | hk | hk | hk | hk | ⟨d, hd, e2⟩
    · exact .inl (.inl hk)
    · exact .inl (.inr (.inl hk))
    · exact .inl (.inr (.inr (.inl hk)))
    · have e3 : g = k := by simpa [Value.ownBlock] using hk
      rcases hat with e4 | e4
      · exact .inl (.inr (.inr (.inr (.inl (by rw [e4, e3])))))
      · exact .inr (by omega)
    · exact .inl (.inr (.inr (.inr (.inr (.inl hk)))))
    · exact .inl (.inr (.inr (.inr (.inr (.inr (.inl hk))))))
    · rcases List.mem_append.1 hd with hd | hd
      · exact .inl (.inr (.inr (.inr (.inr (.inr (.inr ⟨d, hd, e2⟩))))))
      · rw [List.mem_singleton.1 hd] at e2; exact .inr (by omega)
theorem Tw.pushA {a g c : Nat} (h : Tw w pt pb base N wd L lv T tv al av held dv cnt) (hq : Fr (fun _ => False) w wq)
    (ho : w5.ownsRow base 3 1 (.slice (some ⟨g, 0, none⟩) (al.length + 1) c) (al.length + 1) (al.map nv ++ [.int .i64 (a : Int)])) (hg : wq.grownBy w5 av.ownBlock) (hat : av.ownBlock = some g ∨ w.heap.size ≤ g) :
    Tw (w5.setCell ⟨pt, 2, none⟩ (.slice (some ⟨g, 0, none⟩) (al.length + 1) c)) pt pb base N wd L lv T tv (al ++ [a]) (.slice (some ⟨g, 0, none⟩) (al.length + 1) c) held dv cnt ∧ Fr (TwK pt pb lv T tv av dv) w (w5.setCell ⟨pt, 2, none⟩ (.slice (some ⟨g, 0, none⟩) (al.length + 1) c)) ∧
    ∀ k, TwK pt pb lv T tv (.slice (some ⟨g, 0, none⟩) (al.length + 1) c) dv k → TwK pt pb lv T tv av dv k ∨ w.heap.size ≤ k := by
  obtain ⟨s1, s2, s3, s4, s5, s6⟩ := h.st
  have hF : Fr (fun j => av.ownBlock = some j) w w5 := (hq.mono fun _ x => x.elim).trans ((Fr.grown hg).mono fun _ e => e.symm)
  have k1 : Fr (· = pt) w5 (w5.setCell ⟨pt, 2, none⟩ (.slice (some ⟨g, 0, none⟩) (al.length + 1) c)) := (Fr.refl (· = pt) w5).setCell (p := ⟨pt, 2, none⟩) rfl _
  have hal : ∀ j, av.ownBlock = some j → base ≤ j ∧ j < w.heap.size := fun j e => h.al.lt j e
  have hpt : ¬ av.ownBlock = some pt := fun e => by have := hal pt e; omega
  have hpb : ¬ av.ownBlock = some pb := fun e => by have := hal pb e; omega
  have hgb : ∀ b ∈ T, b.gw < w.heap.size := fun b hb => by
    obtain ⟨_, h2, h3⟩ := h.ws b hb
    exact h2.lt (by omega)
  have e : w5.heap[pt]? = w.heap[pt]? := hF.block pt (by omega) hpt
  have c1 : ∀ i u, i ≠ 2 → w.cell? ⟨pt, i, none⟩ = some u → (w5.setCell ⟨pt, 2, none⟩ (.slice (some ⟨g, 0, none⟩) (al.length + 1) c)).cell? ⟨pt, i, none⟩ = some u := fun i u hi hu => by
    rw [World.cell?_setCell_other _ _ _ _ (by intro e; injection e with _ e2; exact hi e2.symm)]; exact (World.cell?_of_block (w := w) (a := ⟨pt, i, none⟩) e).trans hu
  have f1 : ∀ i, w.frozen? ⟨pt, i, none⟩ = false → (w5.setCell ⟨pt, 2, none⟩ (.slice (some ⟨g, 0, none⟩) (al.length + 1) c)).frozen? ⟨pt, i, none⟩ = false := fun i hu => by rw [World.frozen?_setCell]; exact (World.frozen?_of_block (w := w) (a := ⟨pt, i, none⟩) e).trans hu
  refine ⟨⟨c1 0 _ (by omega) h.c0, ⟨c1 1 _ (by omega) h.c1.1, f1 1 h.c1.2⟩, ⟨World.cell?_setCell_same _ _ _ ((World.cell?_of_block (w := w) (a := ⟨pt, 2, none⟩) e).trans h.c2.1), f1 2 h.c2.2⟩, ⟨c1 3 _ (by omega) h.c3.1, f1 3 h.c3.2⟩, ⟨c1 4 _ (by omega) h.c4.1, f1 4 h.c4.2⟩,
    (h.ref.fr hF hpb (fun j hj => own_diff h.ref.own h.al (by decide) j hj)).fr k1 (Ne.symm s3) (fun j hj e2 => by have := (h.ref.own.lt j hj).1; omega),
    own_blk h.tl (fun j hj => (k1.block j (Nat.lt_of_lt_of_le (h.tl.lt j hj).2 hF.size) (fun e => by have := (h.tl.lt j hj).1; omega)).trans (hF.block j (h.tl.lt j hj).2 (own_diff h.tl h.al (by decide) j hj))), ?_,
    own_blk h.dl (fun j hj => (k1.block j (Nat.lt_of_lt_of_le (h.dl.lt j hj).2 hF.size) (fun e => by have := (h.dl.lt j hj).1; omega)).trans (hF.block j (h.dl.lt j hj).2 (fun e2 => h.ad j e2 hj))), ⟨s1, s2, s3, s4, s5, Nat.le_trans s6 (Nat.le_trans hF.size k1.size)⟩, fun d hd => ?_, h.gd, fun d hd => ⟨fun e2 => ?_, (h.ga d hd).2⟩, fun j hj e2 => ?_, h.gl⟩, (hF.mono fun j e => .inr (.inr (.inr (.inr (.inl e))))).trans (k1.mono fun j e => .inl e), fun k hk => ?_⟩
  · rw [List.length_append, List.map_append]
    exact own_blk ho (fun j hj => k1.block j (ho.lt j hj).2 (fun e2 => by have := (ho.lt j hj).1; omega))
  · obtain ⟨h1, h2, h3⟩ := h.ws d hd
    exact ⟨h1, (h2.fr hF (h.ga d hd).1).fr k1 (fun e2 => by omega), h3⟩
  · have e3 : g = d.gw := by simpa [Value.ownBlock] using e2
    rcases hat with e4 | e4
    · exact (h.ga d hd).1 (by rw [e4, e3])
    · have := hgb d hd; omega
  · have e3 : g = j := by simpa [Value.ownBlock] using hj
    rcases hat with e4 | e4
    · exact h.ad g e4 (by rw [e3]; exact e2)
    · have := (h.dl.lt j e2).2; omega
  · rcases hk with hk | hk | hk | hk | hk | hk | ⟨d, hd, e2⟩
    · exact .inl (.inl hk)
    · exact .inl (.inr (.inl hk))
    · exact .inl (.inr (.inr (.inl hk)))
    · exact .inl (.inr (.inr (.inr (.inl hk))))
    · have e3 : g = k := by simpa [Value.ownBlock] using hk
      rcases hat with e4 | e4
      · exact .inl (.inr (.inr (.inr (.inr (.inl (by rw [e4, e3]))))))
      · exact .inr (by omega)
    · exact .inl (.inr (.inr (.inr (.inr (.inr (.inl hk))))))
    · exact .inl (.inr (.inr (.inr (.inr (.inr (.inr ⟨d, hd, e2⟩))))))
end Go.Proofs.YtjblmincldaklaaDoor
