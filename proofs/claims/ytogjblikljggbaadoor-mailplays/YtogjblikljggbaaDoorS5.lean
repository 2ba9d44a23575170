/- Collect, Make, New. -/
import Derived.Test.YtogjblikljggbaaDoorS4
namespace Go.Proofs.YtogjblikljggbaaDoor
open Go.RowKit Go.Proofs.YtogjblikljggbaaDoor.Hp
variable {w w' : World} {B : HB} {n p : Nat} {A : Nat → Kd} {wd : Nat → Int} {hv : Value} {held : List Int} {cnt : Nat}
/-- What a collection leaves. -/
structure Gc (n : Nat) (A : Nat → Kd) (wd : Nat → Int) (held : List Int) (rb : Nat → Bool) (A' : Nat → Kd) : Prop where
  rch : ∀ x : Nat, rb x = true ↔ Reach (refB A) (kids A wd) held (x : Int)
  inv : Inv n A'
  room : ∀ y, roomN A' y = if rb y = true then roomN A y else 0
def ColP (w : World) (B : HB) (n p : Nat) (A : Nat → Kd) (wd : Nat → Int) (hv : Value) (held : List Int) (cnt : Nat) (e : Ending) (w' : World) : Prop :=
  ∃ rb A', Gc n A wd held rb A' ∧ e = .returned (.int .i64 ((notB rb (blkL A n) : Nat) : Int)) ∧ Sp w' B n p A' wd hv held (cnt + 1) ∧ Fr (SpK B p hv) w w'
theorem Sp.count {w1 : World} (h : Sp w1 B n p A wd hv held cnt) (hc : cnt < 100000) : Sp (w1.setCell ⟨p, 3, none⟩ (.int .i64 (cnt + 1 : Nat))) B n p A wd hv held (cnt + 1) := by
  have k2 : Fr (· = p) w1 (w1.setCell ⟨p, 3, none⟩ (.int .i64 (cnt + 1 : Nat))) := (Fr.refl (· = p) w1).setCell (p := ⟨p, 3, none⟩) rfl _
  have h2 := h.p2
  refine ⟨h.at_.fr' k2 (fun b hb e => h.pm (e ▸ hb)), h.inv, h.vars.fr k2 (by omega) (by omega), h.lo, h.hi, ?_, h.pm, h.p2, own_blk h.own (fun g hg => k2.block g (h.own.lt g hg).2 (h.on g hg).2), h.on, h.hl, h.hr, by omega, h.hd⟩
  refine (h.st.set 3 _ (by omega)).ext fun i hi => ?_
  by_cases e : i = 3
  · subst e; rw [upd_same]; rfl
  · rw [upd_ne _ _ e]
    unfold spCell
    by_cases e0 : i = 0
    · rw [if_pos e0, if_pos e0]
    · rw [if_neg e0, if_neg e0]
      by_cases e1 : i = 1
      · rw [if_pos e1, if_pos e1]
      · rw [if_neg e1, if_neg e1, if_pos (by omega), if_pos (by omega)]
theorem getD_mem {l : List Int} {j : Nat} (h : j < l.length) : l.getD j 0 ∈ l := by simp [List.getD, List.getElem?_eq_getElem h]
set_option maxRecDepth 100000 in
set_option maxHeartbeats 2000000 in
theorem SCollect_any (h : Sp w B n p A wd hv held cnt) (hc : cnt < 100000) :
    Calls Tryd.prog 20 #[.pointer (some ⟨p, 0, none⟩)] w fun e w' => ColP w B n p A wd hv held cnt e w' := by
  have HS := hide h
  have c1 := h.c1
  have c3 := h.c3
  have f3 := (h.st 3 (by omega)).2
  have HR : Hid (∀ W, Fr (fun _ => False) w W → Calls Tryd.prog 34 #[.pointer (some ⟨p, 0, none⟩)] W fun e w' => RootsP W held e w') := hide fun W hW => roots_any (h.quiet hW)
  have HC : Hid (∀ W ao cp, Fr (fun _ => False) w W → (∀ j, j < held.length → ∃ b off, ao = some ⟨b, off, none⟩ ∧ b < W.heap.size ∧ W.cell? ⟨b, off + j, none⟩ = some (.int .i64 (held.getD j 0))) → Calls Tryd.prog 33 #[.pointer (some ⟨B.p, 0, none⟩), .slice ao held.length cp] W fun e w' => ∃ k : Nat, e = .returned (.int .i64 (k : Int)) ∧ ClcP W B n A wd held (.returned (.int .i64 (k : Int))) w') := hide fun W ao cp hW hcell => by
    refine (Collect_any W B n A wd ao cp held (h.quiet hW).at_ h.inv (h.quiet hW).vars h.lo h.few (by have := h.hl; omega) h.hr hcell).mono ?_
    rintro e w' hcl
    have hcl2 := hcl
    obtain ⟨rb, A', _, rfl, _⟩ := hcl2
    exact ⟨_, rfl, hcl⟩
  have HD : Hid (∀ W0 W1 e, Fr (fun _ => False) w W0 → ClcP W0 B n A wd held e W1 → W1.cell? ⟨p, 3, none⟩ = some (.int .i64 cnt) ∧ W1.frozen? ⟨p, 3, none⟩ = false ∧ W1.cell? ⟨p, 1, none⟩ = some (.pointer (some ⟨B.p, 0, none⟩))) := hide fun W0 W1 e hF hcl => by
    obtain ⟨rb, A', hrb, rfl, hI, hroom, hat, hvr, hF1⟩ := hcl
    have hr := (h.quiet hF).st.fr hF1 h.pm
    exact ⟨(hr 3 (by omega)).1, (hr 3 (by omega)).2, (hr 1 (by omega)).1⟩
  have hp := h.st.lt (by omega)
  have HE : Hid (∀ W0 W1 W2 e, Fr (fun _ => False) w W0 → ClcP W0 B n A wd held e W1 → W2 = W1.setCell ⟨p, 3, none⟩ (.int .i64 (cnt + 1 : Nat)) → ColP w B n p A wd hv held cnt e W2) := hide fun W0 W1 W2 e hF hcl e2 => by
    obtain ⟨rb, A', hrb, rfl, hI, hroom, hat, hvr, hF1⟩ := hcl
    subst e2
    refine ⟨rb, A', ⟨hrb, hI, hroom⟩, rfl, ((h.quiet hF).heap hF1 hat hI fun x hx => ?_).count hc, ((hF.mono fun _ x => x.elim).trans (hF1.mono fun k hk => .inl hk)).setCell (p := ⟨p, 3, none⟩) (.inr (.inl rfl)) _⟩
    have h2 := hroom x
    by_cases hb : rb x = true
    · rw [if_pos hb] at h2; rw [h2] at hx ⊢; exact h.hd x hx
    · rw [if_neg hb] at h2; exact absurd h2 hx
  clear h
  obtain ⟨len, hlen⟩ : ∃ len, len = held.length := ⟨_, rfl⟩
  rw [← hlen] at HC
  have HR2 : Hid (∀ W, Fr (fun _ => False) w W → Calls Tryd.prog 34 #[.pointer (some ⟨p, 0, none⟩)] W fun e w' => ∃ ao cp, e = .returned (.slice ao len cp) ∧ (∀ j, j < len → ∃ b off, ao = some ⟨b, off, none⟩ ∧ b < w'.heap.size ∧ w'.cell? ⟨b, off + j, none⟩ = some (.int .i64 (held.getD j 0))) ∧ Fr (fun _ => False) W w') := hide (by rw [hlen]; exact unhide HR)
  clear hlen HR
  go_enter Tryd.func20, Tryd.ntmps20
  go_wp2
  go_region_held2 (fun w' => w'.cell? ⟨p, 1, none⟩ = some (.pointer (some ⟨B.p, 0, none⟩))) (go_keep) (first | (go_at_call 34; refine (unhide HR2 _ (by first | exact Fr.refl _ _ | exact (Fr.refl _ _).drew)).mono ?_; rintro e w2 ⟨ao, cp, rfl, hcell, hF2⟩; have hF3 := Fr.trans (show Fr (fun _ => False) w _ by first | exact Fr.refl _ _ | exact (Fr.refl _ _).drew) hF2; have HF2 := hide hF3; have HCe := hide hcell; have d1 := ((unhide HS).quiet hF3).c1; clear hF2 hF3 hcell) | (go_at_call 33; refine (unhide HC _ _ _ (unhide HF2) (unhide HCe)).mono ?_; rintro e w3 ⟨k, rfl, hcl⟩; obtain ⟨e3, e4, e5⟩ := unhide HD _ _ _ (unhide HF2) hcl; have HCl := hide hcl; clear hcl))
  all_goals go_wp2
  all_goals go_ret
  all_goals exact unhide HE _ _ _ _ (unhide HF2) (unhide HCl) rfl
/-- What a new block leaves. -/
def newW (wd : Nat → Int) (a m : Nat) (h : Int) : Nat → Int := upd (clearW wd a (roomOfM m)) a h
inductive MkS (n : Nat) (A : Nat → Kd) (wd : Nat → Int) (held : List Int) (cnt : Nat) (k s m : Int) : Value → (Nat → Kd) → (Nat → Int) → Nat → Prop
  | no (hr : ¬ Right k s m) : MkS n A wd held cnt k s m (.tuple #[.int .i64 0, .bool false]) A wd cnt
  | at_ (hr : Right k s m) (a : Nat) (A' : Nat → Kd) (g : Goes n A (1 + s.toNat) a A') : MkS n A wd held cnt k s m (.tuple #[.int .i64 (a : Int), .bool true]) A' (newW wd a (1 + s.toNat) (hdr k s m)) cnt
  | gc (hr : Right k s m) (hn : NoPlace n A (1 + s.toNat)) (rb : Nat → Bool) (A1 : Nat → Kd) (hg : Gc n A wd held rb A1) (a : Nat) (A' : Nat → Kd) (g : Goes n A1 (1 + s.toNat) a A') : MkS n A wd held cnt k s m (.tuple #[.int .i64 (a : Int), .bool true]) A' (newW wd a (1 + s.toNat) (hdr k s m)) (cnt + 1)
  | full (hr : Right k s m) (hn : NoPlace n A (1 + s.toNat)) (rb : Nat → Bool) (A1 : Nat → Kd) (hg : Gc n A wd held rb A1) (g : NoPlace n A1 (1 + s.toNat)) : MkS n A wd held cnt k s m (.tuple #[.int .i64 0, .bool false]) A1 wd (cnt + 1)
def MakeP (w : World) (B : HB) (n p : Nat) (A : Nat → Kd) (wd : Nat → Int) (hv : Value) (held : List Int) (cnt : Nat) (k s m : Int) (e : Ending) (w' : World) : Prop :=
  ∃ v A' wd' cnt', MkS n A wd held cnt k s m v A' wd' cnt' ∧ e = .returned v ∧ Sp w' B n p A' wd' hv held cnt' ∧ Fr (SpK B p hv) w w'
theorem clear_out {wd : Nat → Int} {a r x : Nat} (h : x < a ∨ a + r ≤ x) : clearW wd a r x = wd x := by
  unfold clearW
  rw [if_neg (by omega)]
theorem new_hd {n : Nat} {A A' : Nat → Kd} {wd : Nat → Int} {a m : Nat} {k s ms : Int} (hI : Inv n A) (hI' : Inv n A') (hR : Right k s ms) (hm : m = 1 + s.toNat) (g : Goes n A m a A') (hd : ∀ x, roomN A x ≠ 0 → IsH (wd x) ∧ hS (wd x) < roomN A x) :
    ∀ x, roomN A' x ≠ 0 → IsH (newW wd a m (hdr k s ms) x) ∧ hS (newW wd a m (hdr k s ms) x) < roomN A' x := by
  intro x hx
  have hg := (room_goes hI g).2 x
  have ha := (room_goes hI g).2 a
  rw [if_pos rfl] at ha
  unfold newW
  by_cases e : x = a
  · subst e
    rw [upd_same]
    obtain ⟨h1, _, h3, _⟩ := hdr_open hR
    refine ⟨h1, ?_⟩
    rw [h3, ha]
    have := roomOfM_ge m
    unfold Right at hR
    omega
  · rw [if_neg e] at hg
    rw [upd_ne _ _ e]
    have hge := roomOfM_ge m
    have hna : roomN A' a ≠ 0 := by rw [ha]; omega
    rw [clear_out, hg]
    · exact hd x (by rw [← hg]; exact hx)
    · by_cases hl : x < a
      · exact .inl hl
      · have := apart hI' (show a < x by omega) hna hx
        rw [ha] at this
        exact .inr this
set_option maxRecDepth 100000 in
set_option maxHeartbeats 2000000 in
theorem Make_any (h : Sp w B n p A wd hv held cnt) (hc : cnt < 100000) (k s m : Int) :
    Calls Tryd.prog 19 #[.pointer (some ⟨p, 0, none⟩), .int .i64 k, .int .i64 s, .int .i64 m] w fun e w' => MakeP w B n p A wd hv held cnt k s m e w' := by
  have HH : Hid (∀ W, Calls Tryd.prog 30 #[.int .i64 k, .int .i64 s, .int .i64 m] W fun e w' => e = .returned (.int .i64 (hdr k s m)) ∧ W = w') := hide fun W => (Header_any k s m W).mono fun _ _ h => ⟨h.1, h.2.symm⟩
  have HS := hide h
  by_cases hR : Right k s m
  · have hR' := hR
    unfold Right at hR'
    obtain ⟨q, rfl⟩ : ∃ q : Nat, s = q := ⟨s.toNat, by omega⟩
    have hq : q ≤ 16447 := by omega
    have hh0 : (hdr k q m == 0) = false := by
      have : hdr k q m ≠ 0 := fun e => hdr_zero.1 e hR
      simpa using this
    have HAs : Hid (∀ W A1 hv1 held1 cnt1, Sp W B n p A1 wd hv1 held1 cnt1 → ¬ NoPlace n A1 (1 + q) → Calls Tryd.prog 31 #[.pointer (some ⟨B.p, 0, none⟩), .int .i64 (1 + (q : Int))] W fun e w' => ∃ (a : Nat) (A' : Nat → Kd), e = .returned (.tuple #[.int .i64 (a : Int), .bool true]) ∧ Goes n A1 (1 + q) a A' ∧ Inv n A' ∧ Fr B.mem W w' ∧ At w' B n (hrOf A' (clearW wd a (roomOfM (1 + q))))) := hide fun W A1 hv1 held1 cnt1 hs hn => by
      have := Alloc_some B n A1 wd (1 + q) W hs.at_ hs.inv hs.vars hs.lo (by omega) (by omega) hn
      unfold HB.ptr at this
      rw [show ((1 + q : Nat) : Int) = 1 + (q : Int) by omega] at this
      refine this.mono ?_
      rintro e w' ⟨a, A', g, rfl, hF, _, hi, hA⟩
      exact ⟨a, A', rfl, g, hi, hF, hA⟩
    have HAn : Hid (∀ W A1 hv1 held1 cnt1, Sp W B n p A1 wd hv1 held1 cnt1 → NoPlace n A1 (1 + q) → Calls Tryd.prog 31 #[.pointer (some ⟨B.p, 0, none⟩), .int .i64 (1 + (q : Int))] W fun e w' => e = .returned (.tuple #[.int .i64 0, .bool false]) ∧ Fr B.mem W w' ∧ Sp w' B n p A1 wd hv1 held1 cnt1) := hide fun W A1 hv1 held1 cnt1 hs hn => by
      have := Alloc_no B n A1 wd (1 + q) W hs.at_ hs.inv hs.vars hs.lo hn
      unfold HB.ptr at this
      rw [show ((1 + q : Nat) : Int) = 1 + (q : Int) by omega] at this
      refine this.mono ?_
      rintro e w' ⟨rfl, hF, _, hA⟩
      exact ⟨rfl, hF, hs.heap hF hA hs.inv hs.hd⟩
    have HSt : Hid (∀ W0 W A1 A' hv1 held1 cnt1 a, Sp W0 B n p A1 wd hv1 held1 cnt1 → Goes n A1 (1 + q) a A' → Inv n A' → Fr B.mem W0 W → At W B n (hrOf A' (clearW wd a (roomOfM (1 + q)))) → Calls Tryd.prog 32 #[.pointer (some ⟨B.p, 0, none⟩), .int .i64 (a : Int), .int .i64 0, .int .i64 (hdr k q m)] W fun e w' => e = .returned (.bool true) ∧ Fr B.mem W w' ∧ Sp w' B n p A' (newW wd a (1 + q) (hdr k q m)) hv1 held1 cnt1) := hide fun W0 W A1 A' hv1 held1 cnt1 a hs g hi hF hA => by
      have hr := room_new hs.inv g
      have hge := roomOfM_ge (1 + q)
      have := Store_in B n A' (clearW wd a (roomOfM (1 + q))) a _ 0 (hdr k q m) W hA hi hr (by omega)
      unfold HB.ptr at this
      refine this.mono ?_
      rintro e w' ⟨rfl, hF2, hA2⟩
      exact ⟨rfl, hF2, hs.heap (hF.trans hF2) hA2 hi (new_hd hs.inv hi hR (by simp) g hs.hd)⟩
    have c1 := h.c1
    by_cases hn : NoPlace n A (1 + q)
    · have HA1 := hide (unhide HAn w A hv held cnt h hn)
      have HCl : Hid (∀ W, Fr B.mem w W → Sp W B n p A wd hv held cnt → Calls Tryd.prog 20 #[.pointer (some ⟨p, 0, none⟩)] W fun e w' => ∃ z rb A1, e = .returned (.int .i64 z) ∧ Gc n A wd held rb A1 ∧ Sp w' B n p A1 wd hv held (cnt + 1) ∧ Fr (SpK B p hv) w w') := hide fun W hF hs => by
        refine (SCollect_any hs hc).mono ?_
        rintro e w' ⟨rb, A1, hg, rfl, hs1, hF1⟩
        exact ⟨_, rb, A1, rfl, hg, hs1, (hF.mono fun k hk => .inl hk).trans hF1⟩
      clear h
      go_enter Tryd.func19, Tryd.ntmps19
      go_wp2_with (first | (go_at_call 30; refine (unhide HH _).mono ?_; rintro e w' ⟨rfl, rfl⟩) | (go_at_call 31; refine (unhide HA1).mono ?_; rintro e w1 ⟨rfl, hF1, hs1⟩; have HF1 := hide hF1; have HS1 := hide hs1; clear hF1 hs1))
      refine (unhide HCl _ (unhide HF1) (unhide HS1)).mono ?_
      rintro e w2 ⟨z, rb, A1, rfl, hg, hs2, hF2⟩
      have HG := hide hg
      have HS2 := hide hs2
      have HF2 := hide hF2
      have d1 := hs2.c1
      clear hg hs2 hF2
      by_cases hn1 : NoPlace n A1 (1 + q)
      · have HA2 := hide (unhide HAn w2 A1 hv held (cnt + 1) (unhide HS2) hn1)
        have HP : Hid (∀ W, Fr B.mem w2 W → Sp W B n p A1 wd hv held (cnt + 1) → MakeP w B n p A wd hv held cnt k q m (.returned (.tuple #[.int .i64 0, .bool false])) W) := hide fun W hF hs => ⟨_, A1, wd, cnt + 1, .full hR (by simpa using hn) rb A1 (unhide HG) (by simpa using hn1), rfl, hs, (unhide HF2).trans (hF.mono fun k hk => .inl hk)⟩
        clear hR hn hn1
        go_wp2_with (first | (go_at_call 31; refine (unhide HA2).mono ?_; rintro e w3 ⟨rfl, hF3, hs3⟩; have HF3 := hide hF3; have HS3 := hide hs3; clear hF3 hs3))
        go_ret2
        exact unhide HP _ (unhide HF3) (unhide HS3)
      · have HA2 := hide (unhide HAs w2 A1 hv held (cnt + 1) (unhide HS2) hn1)
        have HP : Hid (∀ W (a : Nat) A', Goes n A1 (1 + q) a A' → Fr B.mem w2 W → Sp W B n p A' (newW wd a (1 + q) (hdr k q m)) hv held (cnt + 1) → MakeP w B n p A wd hv held cnt k q m (.returned (.tuple #[.int .i64 (a : Int), .bool true])) W) := hide fun W a A' g hF hs => ⟨_, A', _, cnt + 1, .gc hR (by simpa using hn) rb A1 (unhide HG) a A' (by simpa using g), rfl, by simpa using hs, (unhide HF2).trans (hF.mono fun k hk => .inl hk)⟩
        clear hR hn hn1
        go_wp2_with (first | (go_at_call 31; refine (unhide HA2).mono ?_; rintro e w3 ⟨a, A', rfl, g, hi, hF3, hA3⟩; have HF3 := hide hF3; have HG3 := hide g; have HS3 := hide (unhide HSt _ _ _ _ _ _ _ _ (unhide HS2) g hi hF3 hA3); have c13 := (((unhide HS2).st.fr hF3 (unhide HS2).pm) 1 (by omega)).1; clear g hi hF3 hA3) | (go_at_call 32; refine (unhide HS3).mono ?_; rintro e w4 ⟨rfl, hF4, hs4⟩; have HF4 := hide hF4; have HS4 := hide hs4; clear hF4 hs4))
        go_ret2
        exact unhide HP _ _ _ (unhide HG3) ((unhide HF3).trans (unhide HF4)) (unhide HS4)
    · have HA2 := hide (unhide HAs w A hv held cnt h hn)
      have HP : Hid (∀ W (a : Nat) A', Goes n A (1 + q) a A' → Fr B.mem w W → Sp W B n p A' (newW wd a (1 + q) (hdr k q m)) hv held cnt → MakeP w B n p A wd hv held cnt k q m (.returned (.tuple #[.int .i64 (a : Int), .bool true])) W) := hide fun W a A' g hF hs => ⟨_, A', _, cnt, .at_ hR a A' (by simpa using g), rfl, by simpa using hs, hF.mono fun k hk => .inl hk⟩
      clear hR hn h
      go_enter Tryd.func19, Tryd.ntmps19
      go_wp2_with (first | (go_at_call 30; refine (unhide HH _).mono ?_; rintro e w' ⟨rfl, rfl⟩) | (go_at_call 31; refine (unhide HA2).mono ?_; rintro e w3 ⟨a, A', rfl, g, hi, hF3, hA3⟩; have HF3 := hide hF3; have HG3 := hide g; have HS3 := hide (unhide HSt _ _ _ _ _ _ _ _ (unhide HS) g hi hF3 hA3); have c13 := (((unhide HS).st.fr hF3 (unhide HS).pm) 1 (by omega)).1; clear g hi hF3 hA3) | (go_at_call 32; refine (unhide HS3).mono ?_; rintro e w4 ⟨rfl, hF4, hs4⟩; have HF4 := hide hF4; have HS4 := hide hs4; clear hF4 hs4))
      go_ret2
      exact unhide HP _ _ _ (unhide HG3) ((unhide HF3).trans (unhide HF4)) (unhide HS4)
  · have e : hdr k s m = 0 := hdr_zero.2 hR
    rw [e] at HH
    have HP : Hid (MakeP w B n p A wd hv held cnt k s m (.returned (.tuple #[.int .i64 0, .bool false])) w) := hide ⟨_, A, wd, cnt, .no hR, rfl, h, Fr.refl _ _⟩
    clear h hR e
    go_enter Tryd.func19, Tryd.ntmps19
    go_wp2_with (first | (go_at_call 30; refine (unhide HH _).mono ?_; rintro e w' ⟨rfl, rfl⟩))
    go_ret2
    exact unhide HP
end Go.Proofs.YtogjblikljggbaaDoor
