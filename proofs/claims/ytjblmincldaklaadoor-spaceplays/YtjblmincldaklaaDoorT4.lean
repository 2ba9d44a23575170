/- The law's own make. -/
import Derived.Test.YtjblmincldaklaaDoorT3
namespace Go.Proofs.YtjblmincldaklaaDoor
open Go.RowKit Go.Proofs.YtjblmincldaklaaDoor.Hp
variable {w w' : World} {pt pb base N : Nat} {A A' : Nat → Kd} {wd : Nat → Int} {L : List Rb} {lv : Value} {T : List Tb} {tv : Value} {al : List Nat} {av : Value} {held : List Int} {dv : Value} {cnt : Nat}
/-- Words of blocks stay where another one is made. -/
theorem Tm.keep {m a : Nat} {h0 : Int} (h : Tm A wd L T) (hI : Inv N A) (hI' : Inv N A') (hm : 1 ≤ m) (g : Goes N A m a A') {b : Tb} (hb : b ∈ T) : b.at_ ≠ a ∧ roomN A' b.at_ = b.room ∧ ∀ q, q < b.room → newW wd a m h0 (b.at_ + q) = wd (b.at_ + q) := by
  obtain ⟨r1, _, _, r4⟩ := h.bl b hb
  have hs : roomN A b.at_ ≠ 0 := (h.lv _).2 ⟨b, hb, rfl⟩
  have hg := room_goes hI g
  have hge := roomOfM_ge m
  have hne : b.at_ ≠ a := fun e => by rw [e] at hs; exact hs hg.1
  have hr' : roomN A' b.at_ = b.room := by rw [hg.2, if_neg hne, r1]
  have ha : roomN A' a = roomOfM m := by rw [hg.2, if_pos rfl]
  refine ⟨hne, hr', fun q hq => ?_⟩
  have := two_apart hI' (x := b.at_) (y := a) (by rw [hr']; omega) (by rw [ha]; omega) hne
  rw [hr', ha] at this
  unfold newW
  rw [upd_ne _ _ (by omega), clear_out (by omega)]
theorem Tm.add {a gw gr : Nat} {k s ms : Int} (h : Tm A wd L T) (hI : Inv N A) (hI' : Inv N A') (hR : Right k s ms) (g : Goes N A (1 + s.toNat) a A') : Tm A' (newW wd a (1 + s.toNat) (hdr k s ms)) (ins ⟨a, roomOfM (1 + s.toNat), gr⟩ L) (T ++ [⟨a, k, s, ms, roomOfM (1 + s.toNat), gw⟩]) := by
  have hg := room_goes hI g
  have hge := roomOfM_ge (1 + s.toNat)
  have ha : roomN A' a = roomOfM (1 + s.toNat) := by rw [hg.2, if_pos rfl]
  have hk := fun b hb => h.keep (h0 := hdr k s ms) hI hI' (by omega) g (b := b) hb
  refine ⟨h.mt.ins hI g, fun x => ?_, ?_, fun b hb => ?_, fun b hb q hq => ?_⟩
  · rw [hg.2 x]
    by_cases e : x = a
    · rw [if_pos e]
      exact ⟨fun _ => ⟨_, List.mem_append.2 (.inr (List.mem_singleton.2 rfl)), e.symm⟩, fun _ => by omega⟩
    · rw [if_neg e, h.lv x]
      constructor
      · rintro ⟨b, hb, e2⟩; exact ⟨b, List.mem_append.2 (.inl hb), e2⟩
      · rintro ⟨b, hb, e2⟩
        rcases List.mem_append.1 hb with hb | hb
        · exact ⟨b, hb, e2⟩
        · rw [List.mem_singleton.1 hb] at e2; exact absurd e2.symm e
  · rw [List.map_append, List.nodup_append]
    refine ⟨h.nd, by simp, fun x hx y hy => ?_⟩
    rintro rfl
    obtain ⟨b, hb, e⟩ := List.mem_map.1 hx
    have : x = a := by simpa using hy
    exact (hk b hb).1 (by rw [e, this])
  · rcases List.mem_append.1 hb with hb | hb
    · obtain ⟨r1, r2, r3, r4⟩ := h.bl b hb
      obtain ⟨_, k2, k3⟩ := hk b hb
      have hs : roomN A b.at_ ≠ 0 := (h.lv _).2 ⟨b, hb, rfl⟩
      have := k3 0 (by omega)
      rw [Nat.add_zero] at this
      exact ⟨k2, r2, by rw [this]; exact r3, r4⟩
    · rw [List.mem_singleton.1 hb]
      unfold Right at hR
      refine ⟨ha, hR, newW_at, ?_⟩
      show s < ((roomOfM (1 + s.toNat) : Nat) : Int)
      omega
  · rcases List.mem_append.1 hb with hb | hb
    · rw [(hk b hb).2.2 (q + 1) (by omega)]; exact h.rg b hb q hq
    · rw [List.mem_singleton.1 hb] at hq ⊢
      have hq' : q < roomOfM (1 + s.toNat) - 1 := hq
      show -9223372036854775808 ≤ newW wd a (1 + s.toNat) (hdr k s ms) (a + (q + 1)) ∧ newW wd a (1 + s.toNat) (hdr k s ms) (a + (q + 1)) < 9223372036854775808
      unfold newW
      rw [upd_ne _ _ (by omega)]
      unfold clearW
      rw [if_pos (by omega)]
      omega
/-- Between the heap's own block and the list's: the heap has one more. -/
structure Tx (w : World) (pt pb base N : Nat) (wd : Nat → Int) (L : List Rb) (lv : Value) (T : List Tb) (tv : Value) (al : List Nat) (av : Value) (held : List Int) (dv : Value) (cnt a r : Nat) : Prop where
  tw : Tw w pt pb base N wd L lv T tv al av held dv cnt
  hit : ∃ (i : Nat) (g c gr : Nat), findI L (a : Int) 0 = i ∧ lv = .slice (some ⟨g, 0, none⟩) L.length c ∧ i < L.length ∧ L.length ≤ c ∧ w.cell? ⟨g, i * 3 + 1, none⟩ = some (.int .i64 (r : Int)) ∧ L[i]? = some ⟨a, r, gr⟩
/-- Alloc of the law's heap. -/
theorem talloc_some {k s ms : Int} {a : Nat} (h : Tw w pt pb base N wd L lv T tv al av held dv cnt) (hm : Tm A wd L T) (hI : Inv N A) (hI' : Inv N A') (hN1 : 1 ≤ N) (hN : N ≤ 128) (hL : L.length ≤ 5000) (hR : Right k s ms) (g : Goes N A (1 + s.toNat) a A') :
    Calls Tryd.prog 38 #[.pointer (some ⟨pb, 0, none⟩), .int .i64 (s + 1)] w fun e w' => e = .returned (.tuple #[.int .i64 (a : Int), .bool true]) ∧ ∃ gr lv', Tx w' pt pb base N (newW wd a (1 + s.toNat) (hdr k s ms)) (ins ⟨a, roomOfM (1 + s.toNat), gr⟩ L) lv' T tv al av held dv cnt a (roomOfM (1 + s.toNat)) ∧ Fr (· = pb) w w' ∧ (∀ g, lv'.ownBlock = some g → w.heap.size ≤ g) ∧ a < 65536 := by
  have hR' := hR
  unfold Right at hR'
  obtain ⟨q1, q2, q3, q4, q5, q6⟩ := h.st
  refine (Alloc_ref pb base N (s + 1) L lv A w h.ref q6 hI hm.mt hN1 hN hL).mono ?_
  rintro e w' (⟨_, _, hP⟩ | ⟨hn, _⟩)
  · rw [show (s + 1).toNat = 1 + s.toNat by omega] at hP
    rcases hP with ⟨a2, A2, g2, hP⟩ | ⟨hn, _⟩
    · obtain ⟨rfl, rfl⟩ := g.det g2
      obtain ⟨rfl, _, gr, lv', hRf, _, _, _, hlo, hF⟩ := hP
      have hg := room_goes hI g
      have hne : ∀ c ∈ L, c.at_ ≠ a := fun c hc e => by
        obtain ⟨r1, r2⟩ := hm.mt.room c hc
        rw [e, hg.1] at r1
        exact r2 r1.symm
      have hin : (⟨a, roomOfM (1 + s.toNat), gr⟩ : Rb) ∈ ins ⟨a, roomOfM (1 + s.toNat), gr⟩ L := mem_ins.2 (.inl rfl)
      have hfs := findI_some (x := (a : Int)) _ 0 _ hin rfl
      obtain ⟨i, b2, hi, hb2, eb2⟩ := findI_at _ 0 hfs
      have hb3 : b2 = ⟨a, roomOfM (1 + s.toNat), gr⟩ := by
        rcases mem_ins.1 (List.mem_of_getElem? hb2) with e | e
        · exact e
        · exact absurd (by omega) (hne b2 e)
      subst hb3
      have hil := (List.getElem?_eq_some_iff.1 hb2).1
      obtain ⟨ao, cp, e1, hgs⟩ := hRf.form
      obtain ⟨g5, rfl⟩ := hgs (by omega)
      subst e1
      have hcells := hRf.cells hb2
      have hcp := own_cap hRf.own
      have e : w'.heap[pt]? = w.heap[pt]? := hF.block pt (by omega) q3
      have c : ∀ i u, w.cell? ⟨pt, i, none⟩ = some u → w'.cell? ⟨pt, i, none⟩ = some u := fun i u hu => (World.cell?_of_block (w := w) (a := ⟨pt, i, none⟩) e).trans hu
      have f : ∀ i, w.frozen? ⟨pt, i, none⟩ = false → w'.frozen? ⟨pt, i, none⟩ = false := fun i hu => (World.frozen?_of_block (w := w) (a := ⟨pt, i, none⟩) e).trans hu
      have hra := room_new hI g
      have hge := roomOfM_ge (1 + s.toNat)
      have hrin := room_in hI' (x := a) (by omega)
      refine ⟨rfl, gr, _, ⟨⟨c 0 _ h.c0, ⟨c 1 _ h.c1.1, f 1 h.c1.2⟩, ⟨c 2 _ h.c2.1, f 2 h.c2.2⟩, ⟨c 3 _ h.c3.1, f 3 h.c3.2⟩, ⟨c 4 _ h.c4.1, f 4 h.c4.2⟩, hRf,
        own_blk h.tl (fun g hg => hF.block g (h.tl.lt g hg).2 (fun e => by have := (h.tl.lt g hg).1; omega)),
        own_blk h.al (fun g hg => hF.block g (h.al.lt g hg).2 (fun e => by have := (h.al.lt g hg).1; omega)),
        own_blk h.dl (fun g hg => hF.block g (h.dl.lt g hg).2 (fun e => by have := (h.dl.lt g hg).1; omega)),
        ⟨q1, q2, q3, q4, q5, Nat.le_trans q6 hF.size⟩, fun b hb => ?_, h.gd, h.ga, h.ad, fun b hb => ⟨fun e => ?_, (h.gl b hb).2⟩⟩,
        ⟨i, g5, cp, gr, by rw [hi]; omega, rfl, hil, hcp, hcells.2.1, hb2⟩⟩, hF, fun g hg => (hlo g hg).1, by omega⟩
      · obtain ⟨h1, h2, h3⟩ := h.ws b hb
        exact ⟨h1, (h2.fr hF (fun e => by omega)).ext fun q hq => by rw [(hm.keep (h0 := hdr k s ms) hI hI' (by omega) g hb).2.2 (q + 1) (by omega)], h3⟩
      · obtain ⟨h1, h2, h3⟩ := h.ws b hb
        have := (hlo _ e).1
        have := h2.lt (by omega)
        omega
    · exact absurd hn g.not
  · exact absurd (by omega) hn
theorem talloc_no {s : Int} (h : Tw w pt pb base N wd L lv T tv al av held dv cnt) (hm : Tm A wd L T) (hI : Inv N A) (hN1 : 1 ≤ N) (hN : N ≤ 128) (hL : L.length ≤ 5000) (hs : 0 ≤ s ∧ s ≤ 16447) (hn : NoPlace N A (1 + s.toNat)) :
    Calls Tryd.prog 38 #[.pointer (some ⟨pb, 0, none⟩), .int .i64 (s + 1)] w fun e w' => e = .returned (.tuple #[.int .i64 0, .bool false]) ∧ Fr (fun _ => False) w w' := by
  refine (Alloc_ref pb base N (s + 1) L lv A w h.ref h.st.2.2.2.2.2 hI hm.mt hN1 hN hL).mono ?_
  rintro e w' (⟨_, _, hP⟩ | ⟨hn, _⟩)
  · rw [show (s + 1).toNat = 1 + s.toNat by omega] at hP
    rcases hP with ⟨a2, A2, g2, _⟩ | ⟨_, h1, h2⟩
    · exact absurd hn g2.not
    · exact ⟨h1, h2⟩
  · exact absurd (by omega) hn
end Go.Proofs.YtjblmincldaklaaDoor
