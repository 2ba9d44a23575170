/- The two heaps side by side: what a step does. -/
import Derived.Test.YtjblmincldaklaaDoorRf9
namespace Go.Proofs.YtjblmincldaklaaDoor
open Go.RowKit Go.Proofs.YtjblmincldaklaaDoor.Hp
theorem two_apart {N : Nat} {A : Nat → Kd} (h : Inv N A) {x y : Nat} (hx : roomN A x ≠ 0) (hy : roomN A y ≠ 0) (hne : x ≠ y) : x + roomN A x ≤ y ∨ y + roomN A y ≤ x := by
  rcases Nat.lt_or_ge x y with h1 | h1
  · exact .inl (apart h h1 hx hy)
  · exact .inr (apart h (by omega) hy hx)
theorem ins_pair {R : Rb → Rb → Prop} (b : Rb) : ∀ (L : List Rb), L.Pairwise R → (∀ c ∈ L, R b c ∧ R c b) → (ins b L).Pairwise R
  | [], _, _ => by simp [ins]
  | c :: L, h, hb => by
    rw [List.pairwise_cons] at h
    unfold ins
    split
    · rw [List.pairwise_cons, List.pairwise_cons]
      exact ⟨fun d hd => (hb d hd).1, h.1, h.2⟩
    · rw [List.pairwise_cons]
      refine ⟨fun d hd => ?_, ins_pair b L h.2 fun d hd => hb d (by simp [hd])⟩
      rcases mem_ins.1 hd with e | e
      · rw [e]; exact (hb c (by simp)).2
      · exact h.1 d e
theorem ins_sorted (b : Rb) : ∀ (L : List Rb), L.Pairwise (fun x y => x.at_ < y.at_) → (∀ c ∈ L, c.at_ ≠ b.at_) → (ins b L).Pairwise (fun x y => x.at_ < y.at_)
  | [], _, _ => by simp [ins]
  | c :: L, h, hb => by
    have h' := h
    rw [List.pairwise_cons] at h
    unfold ins
    split
    · rename_i hlt
      rw [List.pairwise_cons]
      refine ⟨fun d hd => ?_, h'⟩
      rcases List.mem_cons.1 hd with e | e
      · rw [e]; exact hlt
      · have := h.1 d e; omega
    · rename_i hlt
      rw [List.pairwise_cons]
      refine ⟨fun d hd => ?_, ins_sorted b L h.2 fun d hd => hb d (by simp [hd])⟩
      rcases mem_ins.1 hd with e | e
      · rw [e]; have := hb c (by simp); omega
      · exact h.1 d e
theorem Match.ins {N m a gw : Nat} {A A' : Nat → Kd} {L : List Rb} (hI : Inv N A) (h : Match A L) (g : Goes N A m a A') : Match A' (ins ⟨a, roomOfM m, gw⟩ L) := by
  obtain ⟨h0, hr⟩ := room_goes hI g
  have hne : ∀ c ∈ L, c.at_ ≠ a := fun c hc e => by
    obtain ⟨h1, h2⟩ := h.room c hc
    rw [e, h0] at h1
    exact h2 h1.symm
  have hp := roomOfM_pos m
  refine ⟨ins_sorted _ L h.sorted hne, fun b hb => ?_, fun x hx => ?_⟩
  · rcases mem_ins.1 hb with e | e
    · subst e; rw [hr, if_pos rfl]; exact ⟨rfl, by show roomOfM m ≠ 0; omega⟩
    · rw [hr, if_neg (hne b e)]; exact h.room b e
  · by_cases e : x = a
    · exact ⟨_, mem_ins.2 (.inl rfl), e.symm⟩
    · rw [hr, if_neg e] at hx
      obtain ⟨b, hb, e2⟩ := h.all x hx
      exact ⟨b, mem_ins.2 (.inr hb), e2⟩
/-- Both have made a block. -/
theorem Pl.alloc {w0 w w1 w2 : World} {B : HB} {pb base N m a : Nat} {A A' : Nat → Kd} {wd : Nat → Int} {L : List Rb} {lv : Value} (hS : Ps w0 B pb base) (h : Pl w0 w B pb base N A wd L lv) (g : Goes N A m a A') (hm : m ≤ 16448)
    (hF : Fr B.mem w w1) (hV : Vars w1) (hA : At w1 B N (hrOf A' (clearW wd a (roomOfM m)))) {e : Ending} (hP : AddP w1 pb base N a (roomOfM m) L e w2) :
    ∃ gw lv', Pl w0 w2 B pb base N A' (clearW wd a (roomOfM m)) (ins ⟨a, roomOfM m, gw⟩ L) lv' := by
  obtain ⟨_, gw, lv', hR, g1, g2, g3, g4, g5⟩ := hP
  have hI' := g.inv h.inv hm
  obtain ⟨h0, hr⟩ := room_goes h.inv g
  have hp := roomOfM_pos m
  have hs := hF.size
  have hs2 := g5.size
  have hle := h.le
  have hpb1 := hS.pb1
  have hpb2 := hS.pb2
  have h2 := hS.two
  refine ⟨gw, lv', hA.fr' g5 (fun b hb e => hS.npb (by rw [← e]; exact hb)), hI', hV.fr g5 (by omega) (by omega), hR, h.mt.ins h.inv g, ?_, by omega, fun b hb => ?_, ?_⟩
  · exact (h.far.up hF fun j hj => (hS.mem j hj).1).up g5 fun j hj => by rw [hj]; exact hpb1
  · rcases mem_ins.1 hb with e | e
    · subst e
      refine ⟨Nat.le_trans (Nat.le_trans hle hs) g1, g2, fun e => (g4 gw e).2 rfl, g3.ext fun i hi => ?_⟩
      simp [clearW, hi]
    · obtain ⟨k1, k2, k3, k4⟩ := h.wrd b e
      refine ⟨k1, by omega, fun e2 => by have := (g4 _ e2).1; omega, ((k4.fr hF fun hb => by have := (hS.mem _ hb).2; omega).fr g5 (by omega)).ext fun i hi => ?_⟩
      have hbr := h.mt.room b e
      have hne : b.at_ ≠ a := fun e3 => by rw [e3, h0] at hbr; exact hbr.2 hbr.1.symm
      have hrb : roomN A' b.at_ = b.room := by rw [hr, if_neg hne]; exact hbr.1
      have hra : roomN A' a = roomOfM m := by rw [hr, if_pos rfl]
      have := two_apart hI' (x := b.at_) (y := a) (by rw [hrb]; exact hbr.2) (by rw [hra]; omega) hne
      rw [hrb, hra] at this
      unfold clearW
      rw [if_neg (by omega)]
  · refine ins_pair _ L h.dis fun c hc => ?_
    obtain ⟨k1, k2, _⟩ := h.wrd c hc
    exact ⟨by show gw ≠ c.gw; omega, by show c.gw ≠ gw; omega⟩
/-- Only the program's heap was at work, and has no other blocks. -/
theorem Pl.heap {w0 w w1 : World} {B : HB} {pb base N : Nat} {A : Nat → Kd} {wd : Nat → Int} {L : List Rb} {lv : Value} (hS : Ps w0 B pb base) (h : Pl w0 w B pb base N A wd L lv) (hF : Fr B.mem w w1) (hV : Vars w1) (hA : At w1 B N (hrOf A wd)) :
    Pl w0 w1 B pb base N A wd L lv := by
  have hs := hF.size
  refine ⟨hA, h.inv, hV, h.ref.fr hF hS.npb (fun g hg hb => by have := (hS.mem g hb).2; have := (h.ref.own.lt g hg).1; omega), h.mt, h.far.up hF fun j hj => (hS.mem j hj).1, Nat.le_trans h.le hs, fun b hb => ?_, h.dis⟩
  obtain ⟨k1, k2, k3, k4⟩ := h.wrd b hb
  exact ⟨k1, by omega, k3, k4.fr hF fun hb => by have := (hS.mem _ hb).2; omega⟩
/-- Both have stored a word: the document's first. -/
theorem Pl.store {w0 w w1 : World} {B : HB} {pb base N i k : Nat} {A : Nat → Kd} {wd : Nat → Int} {L : List Rb} {lv : Value} {c : Rb} {v : Int} (hS : Ps w0 B pb base) (h : Pl w0 w B pb base N A wd L lv) (hc : L[i]? = some c) (hk : k < c.room)
    (hF : Fr B.mem (w.setCell ⟨c.gw, k, none⟩ (.int .i64 v)) w1) (hA : At w1 B N (hrOf A (upd wd (c.at_ + k) v))) :
    Pl w0 w1 B pb base N A (upd wd (c.at_ + k) v) L lv := by
  have hmem := List.mem_of_getElem? hc
  obtain ⟨c1, c2, c3, c4⟩ := h.wrd c hmem
  have kS : Fr (· = c.gw) w (w.setCell ⟨c.gw, k, none⟩ (.int .i64 v)) := (Fr.refl (· = c.gw) w).setCell (p := ⟨c.gw, k, none⟩) rfl _
  have hs := hF.size
  have hs2 := kS.size
  have hle := h.le
  have h2 := hS.two
  have hpb2 := hS.pb2
  have hpb1 := hS.pb1
  have h00 : ¬ B.mem 0 := fun x => by have := (hS.mem 0 x).1; omega
  have h01 : ¬ B.mem 1 := fun x => by have := (hS.mem 1 x).1; omega
  have hlow := h.far.size
  have hbase : w0.heap.size ≤ base := by omega
  have hB : ∀ j, base ≤ j → ¬ B.mem j := fun j hj hb => by have := (hS.mem j hb).2; omega
  refine ⟨hA, h.inv, (h.vars.fr kS (by omega) (by omega)).fr hF h00 h01, (h.ref.fr kS (by omega) (fun g hg e => c3 (by rw [hg, e]))).fr hF hS.npb (fun g hg => hB g (h.ref.own.lt g hg).1), h.mt, ?_, by omega, fun b hb => ?_, h.dis⟩
  · exact (h.far.up kS fun j hj => by rw [hj]; omega).up hF fun j hj => (hS.mem j hj).1
  · obtain ⟨k1, k2, k3, k4⟩ := h.wrd b hb
    refine ⟨k1, by omega, k3, ?_⟩
    by_cases e : b.at_ = c.at_
    · have hbc : b = c := by
        obtain ⟨p, hp, e1⟩ := List.mem_iff_getElem.1 hb
        obtain ⟨q, hq, e2⟩ := List.mem_iff_getElem.1 hmem
        rcases Nat.lt_trichotomy p q with o | o | o
        · have := List.pairwise_iff_getElem.1 h.mt.sorted p q hp hq o
          rw [e1, e2] at this; omega
        · subst o; rw [← e1, ← e2]
        · have := List.pairwise_iff_getElem.1 h.mt.sorted q p hq hp o
          rw [e1, e2] at this; omega
      subst hbc
      refine ((k4.set k (.int .i64 v) hk).fr hF (hB _ k1)).ext fun x hx => ?_
      unfold upd
      by_cases e3 : x = k
      · simp [e3]
      · rw [if_neg e3, if_neg (by omega)]
    · have hg : b.gw ≠ c.gw := fun e2 => by
        obtain ⟨p, hp, e1⟩ := List.mem_iff_getElem.1 hb
        obtain ⟨q, hq, e3⟩ := List.mem_iff_getElem.1 hmem
        rcases Nat.lt_trichotomy p q with o | o | o
        · have := List.pairwise_iff_getElem.1 h.dis p q hp hq o
          rw [e1, e3] at this; exact this e2
        · subst o; rw [← e1, ← e3] at e; exact e rfl
        · have := List.pairwise_iff_getElem.1 h.dis q p hq hp o
          rw [e1, e3] at this; exact this e2.symm
      refine ((k4.fr kS hg).fr hF (hB _ k1)).ext fun x hx => ?_
      have hbr := h.mt.room b hb
      have hcr := h.mt.room c hmem
      have := two_apart h.inv (x := b.at_) (y := c.at_) (by rw [hbr.1]; exact hbr.2) (by rw [hcr.1]; exact hcr.2) e
      rw [hbr.1, hcr.1] at this
      unfold upd
      rw [if_neg (by omega)]
end Go.Proofs.YtjblmincldaklaaDoor
