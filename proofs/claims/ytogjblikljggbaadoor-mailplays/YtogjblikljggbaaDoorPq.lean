/- MailPlays, walked. -/
import Derived.Test.YtogjblikljggbaaDoorOw
import Derived.Deep.CutBlock
import Derived.Deep.DeepCutAuto
namespace Go.Proofs.YtogjblikljggbaaDoor
open Go.RowKit Go.Proofs.YtogjblikljggbaaDoor.Hp
variable {w0 w w' w1 w2 : World} {B : HB} {n p : Nat} {A A' : Nat → Kd} {wd wd' : Nat → Int} {hv hv1 hv2 : Value} {held : List Int} {cnt : Nat} {a P b cl : Nat} {r : Bool} {l : List Int} {lv : Value} {ib : Option Nat}
set_option maxRecDepth 100000 in
set_option maxHeartbeats 4000000 in
theorem plays_big (x : Int) (r : Bool) (ao : Option Addr) (len cp : Nat) (w : World) (hV : Vars w) (hx : (300 : Int) < len) :
    Calls Tryd.prog 3 #[.int .i64 x, .bool r, .slice ao len cp] w fun e w' => e = .returned (.bool true) ∧ Fr (fun _ => False) w w' := by
  have HA := hide (anchor_any w hV)
  clear hV
  go_enter Tryd.func3, Tryd.ntmps3
  go_wp2_with fail
  refine (unhide HA).mono ?_
  rintro e w1 ⟨rfl, hF1, _⟩
  have HF1 := hide hF1
  clear hF1
  go_wp2
  go_ret
  exact ⟨rfl, unhide HF1⟩
set_option maxRecDepth 100000 in
set_option maxHeartbeats 4000000 in
theorem plays_none (x : Int) (r : Bool) (ao : Option Addr) (len cp : Nat) (w : World) (hV : Vars w) (hlen : (len : Int) ≤ 300) (hx : x < 0 ∨ (0 ≤ x ∧ 1024 < x)) :
    Calls Tryd.prog 3 #[.int .i64 x, .bool r, .slice ao len cp] w fun e w' => e = .returned (.bool true) ∧ Fr (fun _ => False) w w' := by
  have HA := hide (anchor_any w hV)
  clear hV
  have HB := hide fun W s => New_bad x hx r W s
  rcases hx with h1 | ⟨h1, h2⟩
  all_goals
    go_enter Tryd.func3, Tryd.ntmps3
    go_wp2_with fail
    refine (unhide HA).mono ?_
    rintro e w1 ⟨rfl, hF1, hV1⟩
    have HF1 := hide hF1
    have HN := hide (SNew_any 16384 w1 (by omega) (by omega) hV1)
    clear hF1 HA hV1
    go_wp2_with fail
    refine (unhide HN).mono ?_
    rintro e w2 ⟨B, p, rfl, hL⟩
    have HF2 := hide ((unhide HF1).trans hL.far)
    clear hL HN
    go_wp2_with fail
    refine (unhide HB _ _).mono ?_
    rintro e w3 ⟨rfl, hF3⟩
    have HF3 := hide ((unhide HF2).trans hF3)
    clear hF3 HB
    go_wp2
    go_ret
    exact ⟨rfl, unhide HF3⟩
/-- Where a play stands. -/
structure PlS (w1 W : World) (B : HB) (p : Nat) (A : Nat → Kd) (wd : Nat → Int) (a P : Nat) (r : Bool) (c b : Nat) (l : List Int) (v : Value) (ib : Option Nat) : Prop where
  lw : Lw w1 W B 256 p A wd (.slice none 0 0) [] 0
  ch : ChAt A wd a P r c b l
  own : Own W v ib l
  off : ∀ g, ib = some g → w1.heap.size ≤ g ∧ ¬ SpK B p (.slice none 0 0) g
theorem PlS.quiet {W W' : World} {v : Value} {c : Nat} (h : PlS w1 W B p A wd a P r c b l v ib) (k : Fr (fun _ => False) W W') : PlS w1 W' B p A wd a P r c b l v ib :=
  ⟨h.lw.quiet k, h.ch, h.own.fr k (fun _ _ => id), h.off⟩
/-- The space has gone on, the row is as it was. -/
theorem PlS.row {W W' : World} {v : Value} {c c' b' : Nat} {l' : List Int} (h : PlS w1 W B p A wd a P r c b l v ib) (hs : Sp W' B 256 p A wd' (.slice none 0 0) [] 0) (ht : To B p W (.slice none 0 0) W' (.slice none 0 0)) (hc : ChAt A wd' a P r c' b' l') : Lw w1 W' B 256 p A wd' (.slice none 0 0) [] 0 ∧ ChAt A wd' a P r c' b' l' ∧ Own W' v ib l :=
  ⟨h.lw.step hs ht, hc, h.own.fr ht.fr (fun g hg => (h.off g hg).2)⟩
/-- A row that was made since w0. -/
def Nw (w0 w : World) (v : Value) (zs : List Int) : Prop := ∃ ib, Own w v ib zs ∧ (∀ g, ib = some g → w0.heap.size ≤ g) ∧ Fr (fun _ => False) w0 w
theorem PlS.nw {W W' : World} {v : Value} {c : Nat} (hL : Lw w1 W B 256 p A wd (.slice none 0 0) [] 0) (hc : ChAt A wd a P r c b l) (h : Nw W W' v l) : ∃ ib, PlS w1 W' B p A wd a P r c b l v ib := by
  obtain ⟨ib, ho, hg, hF⟩ := h
  have hz := hL.far.size
  exact ⟨ib, hL.quiet hF, hc, ho, fun g e => by have := hg g e; exact ⟨by omega, fun hk => by have := (hL.sp.lt hk).2; omega⟩⟩
theorem own_emp {W : World} {g : Nat} (h : g < W.heap.size) : Own W (.slice (some ⟨g, 0, none⟩) 0 0) (some g) [] :=
  .inr ⟨g, 0, 0, rfl, rfl, h, by simp, fun j hj => by omega, fun j hj => by simp at hj⟩
theorem nw_app {W W2 W' : World} {g : Nat} {ib' : Option Nat} {v : Value} {zs : List Int} (hF : Fr (fun _ => False) W W2) (hg : Grew W2 W' (some g) ib') (hl : W.heap.size ≤ g) (ho : Own W' v ib' zs) : Nw W W' v zs :=
  ⟨ib', ho, fun k e => by
    rcases hg.at_ with e2 | e2
    · rw [e2] at e; cases e; exact hl
    · rw [e2] at e; cases e; exact hF.size, hF.up hg.fr fun k e => by cases e; exact hl⟩
theorem nw_two {W W2 W3 W' : World} {ib ib' : Option Nat} {v v' : Value} {zs ys : List Int} (h : Own W2 v ib zs ∧ (∀ g, ib = some g → W.heap.size ≤ g) ∧ Fr (fun _ => False) W W2) (hF : Fr (fun _ => False) W2 W3) (hg : Grew W3 W' ib ib') (ho : Own W' v' ib' ys) : Nw W W' v' ys :=
  ⟨ib', ho, fun k e => by
    rcases hg.at_ with e2 | e2
    · exact h.2.1 k (e2 ▸ e)
    · rw [e2] at e; cases e; exact (h.2.2.trans hF).size, (h.2.2.trans hF).up hg.fr fun k e => h.2.1 k e⟩
theorem one_ints (W : World) (v : Int) : IntsAt (W.alloc (.cells #[.int .i64 v] 3)) (some ⟨W.heap.size, 0, none⟩) [v] := by
  intro j hj
  obtain rfl : j = 0 := by simpa using hj
  exact ⟨W.heap.size, 0, rfl, by simp, by rw [World.cell?_alloc_at _ _ _ _ rfl]; rfl⟩
theorem two_ints {X W' : World} {v : Int} {ib' : Option Nat} (h : Grew ((X.alloc (.cells #[] 3)).alloc (.cells #[.int .i64 v] 3)).drew W' (some X.heap.size) ib') : IntsAt W' (some ⟨X.heap.size + 1, 0, none⟩) [v] := by
  have h1 := one_ints (X.alloc (.cells #[] 3)) v
  rw [show (X.alloc (.cells #[] 3)).heap.size = X.heap.size + 1 by simp] at h1
  exact (h1.quiet (Fr.refl _ _).drew).fr h.fr fun b off e _ e2 => by cases e; simp at e2
theorem two_ints' {X W' : World} {v : Int} {ib' : Option Nat} (h : Grew ((X.alloc (.cells #[.int .i64 v] 3)).alloc (.cells #[] 3)).drew W' (some (X.heap.size + 1)) ib') : IntsAt W' (some ⟨X.heap.size, 0, none⟩) [v] := by
  have h1 := one_ints X v
  have h2 : IntsAt ((X.alloc (.cells #[.int .i64 v] 3)).alloc (.cells #[] 3)) (some ⟨X.heap.size, 0, none⟩) [v] := h1.quiet ((Fr.refl _ _).alloc _)
  exact (h2.quiet (Fr.refl _ _).drew).fr h.fr fun b off e _ e2 => by cases e; simp at e2
theorem pl_count {W : World} {v : Value} {c N : Nat} (h : PlS w1 W B p A wd a P r c b l v ib) (hN : l.length = N) :
    Calls Tryd.prog 14 #[.pointer (some ⟨p, 0, none⟩), .int .i64 a] W fun e w' => e = .returned (.tuple #[.int .i64 N, .int .i64 P]) ∧ Fr (fun _ => False) W w' := by
  have := Count_of h.lw.sp h.ch.of
  rw [hN] at this
  exact this
theorem pl_items {W : World} {v : Value} {c N : Nat} (h : PlS w1 W B p A wd a P r c b l v ib) (hN : l.length = N) :
    Calls Tryd.prog 15 #[.pointer (some ⟨p, 0, none⟩), .int .i64 a] W fun e w' => ∃ M, e = .returned (.slice (some ⟨M, 0, none⟩) N N) ∧ Row w' M N (fun j => .int .i64 (l.getD j 0)) ∧ Fr (fun _ => False) W w' := by
  subst hN
  refine (Items_ch h.lw.sp h.ch).mono ?_
  rintro e w' ⟨M, rfl, h1, h2, h3, h4⟩
  exact ⟨M, rfl, h3, h4⟩
theorem pl_closed {W : World} {v : Value} {c : Nat} {ci : Int} (h : PlS w1 W B p A wd a P r c b l v ib) (hc : (c : Int) = ci) :
    Calls Tryd.prog 16 #[.pointer (some ⟨p, 0, none⟩), .int .i64 a] W fun e w' => e = .returned (.bool (ci == 1)) ∧ Fr (fun _ => False) W w' := Closed_any h.lw.sp (h.ch.get.1.trans hc)
theorem pl_get0 {W : World} {v : Value} {c : Nat} {ci : Int} (h : PlS w1 W B p A wd a P r c b l v ib) (hc : (c : Int) = ci) :
    Calls Tryd.prog 17 #[.pointer (some ⟨p, 0, none⟩), .int .i64 a, .int .i64 0] W fun e w' => e = .returned (.int .i64 ci) ∧ Fr (fun _ => False) W w' := Get_at h.lw.sp a 0 _ (h.ch.get.1.trans hc) W (Fr.refl _ _)
theorem pl_get1 {W : World} {v : Value} {c : Nat} {bi : Int} (h : PlS w1 W B p A wd a P r c b l v ib) (hb : (b : Int) = bi) :
    Calls Tryd.prog 17 #[.pointer (some ⟨p, 0, none⟩), .int .i64 a, .int .i64 1] W fun e w' => e = .returned (.int .i64 bi) ∧ Fr (fun _ => False) W w' := Get_at h.lw.sp a 1 _ (h.ch.get.2.1.trans hb) W (Fr.refl _ _)
theorem pl_get2 {W : World} {v : Value} {c N : Nat} (h : PlS w1 W B p A wd a P r c b l v ib) (hN : l.length = N) :
    Calls Tryd.prog 17 #[.pointer (some ⟨p, 0, none⟩), .int .i64 a, .int .i64 2] W fun e w' => e = .returned (.int .i64 N) ∧ Fr (fun _ => False) W w' := Get_at h.lw.sp a 2 _ (by rw [h.ch.get.2.2.1, hN]) W (Fr.refl _ _)
theorem pl_get3 {W : World} {v : Value} {c : Nat} (h : PlS w1 W B p A wd a P r c b l v ib) :
    Calls Tryd.prog 17 #[.pointer (some ⟨p, 0, none⟩), .int .i64 a, .int .i64 3] W fun e w' => e = .returned (.int .i64 P) ∧ Fr (fun _ => False) W w' := Get_at h.lw.sp a 3 _ h.ch.get.2.2.2 W (Fr.refl _ _)
theorem pl_item {W : World} {v : Value} {c j q : Nat} (h : PlS w1 W B p A wd a P r c b l v ib) (hj : j < l.length) (hq : q = 4 + (b + j) % P) :
    Calls Tryd.prog 17 #[.pointer (some ⟨p, 0, none⟩), .int .i64 a, .int .i64 q] W fun e w' => e = .returned (.int .i64 (l.getD j 0)) ∧ Fr (fun _ => False) W w' := by
  subst hq
  exact Get_at h.lw.sp a _ _ (h.ch.getIt hj) W (Fr.refl _ _)
theorem PlS.full {W : World} {v : Value} {c N : Nat} (h : PlS w1 W B p A wd a P r c b l v ib) (hN : l.length = N) (hf : ¬ N < P) : ChOf A wd a b N N := by
  have h1 := h.ch.of
  have h2 := h.ch.cnt
  rw [hN] at h1 h2
  obtain rfl : N = P := by omega
  exact h1
set_option maxRecDepth 100000 in
set_option maxHeartbeats 16000000 in
theorem plays_main (P : Nat) (r : Bool) (ao : Option Addr) (len cp : Nat) (fk fn : Nat → Int) (w : World) (hV : Vars w) (hP : P ≤ 1024) (hlen : len ≤ 300) (hcell : ∀ j, j < len → ∃ b off, ao = some ⟨b, off, none⟩ ∧ b < w.heap.size ∧ w.cell? ⟨b, off + j * 2, none⟩ = some (.int .i64 (fk j)) ∧ w.cell? ⟨b, off + j * 2 + 1, none⟩ = some (.int .i64 (fn j))) :
    Calls Tryd.prog 3 #[.int .i64 P, .bool r, .slice ao len cp] w fun e w' => e = .returned (.bool true) ∧ Fr (fun _ => False) w w' := by
  obtain ⟨bb, off, hao⟩ : ∃ b off, 0 < len → ao = some ⟨b, off, none⟩ := by
    by_cases h0 : 0 < len
    · obtain ⟨b, off, e, _⟩ := hcell 0 h0
      exact ⟨b, off, fun _ => e⟩
    · exact ⟨0, 0, fun h => absurd h h0⟩
  have HCe : Hid (∀ W j, Fr (fun _ => False) w W → j < len → ao = some ⟨bb, off, none⟩ ∧ W.cell? ⟨bb, off + j * 2, none⟩ = some (.int .i64 (fk j)) ∧ W.cell? ⟨bb, off + j * 2 + 1, none⟩ = some (.int .i64 (fn j))) := hide fun W j hF hj => by
    obtain ⟨b2, off2, e, hb, hc, hc2⟩ := hcell j hj
    have e2 := hao (by omega)
    rw [e] at e2
    obtain ⟨rfl, rfl⟩ : b2 = bb ∧ off2 = off := by simpa using e2
    exact ⟨e, (World.cell?_of_block (w := w) (a := ⟨b2, off2 + j * 2, none⟩) (hF.block b2 hb id)).trans hc, (World.cell?_of_block (w := w) (a := ⟨b2, off2 + j * 2 + 1, none⟩) (hF.block b2 hb id)).trans hc2⟩
  have HA := hide (anchor_any w hV)
  have q1 : (0 : Int) ≤ P := by omega
  have q2 : (P : Int) ≤ 1024 := by omega
  have q3 : (len : Int) ≤ 300 := by omega
  clear hV hcell hao
  go_enter Tryd.func3, Tryd.ntmps3
  go_wp2_with fail
  refine (unhide HA).mono ?_
  rintro e w1 ⟨rfl, hF1, hV1⟩
  have HF1 := hide hF1
  have HV1 := hide hV1.size
  have HN := hide (SNew_any 16384 w1 (by omega) (by omega) hV1)
  clear hF1 HA hV1
  go_wp2_with fail
  refine (unhide HN).mono ?_
  rintro e w2 ⟨B, p, rfl, hL⟩
  have HC := hide (l_new hL (by omega) P (by omega) r ((Suf.start 256).place (d := 17) (by omega) (by omega) (by omega)))
  clear hL HN
  go_wp2_with fail
  refine (unhide HC).mono ?_
  rintro e w3 ⟨a, A3, wd3, rfl, hn3, hL3⟩
  have HP3 : Hid (PlS w1 w3 B p A3 wd3 a P r 0 0 [] (.slice none 0 0) none) := hide ⟨hL3, hn3.ch, Own.nil _, fun g e => by cases e⟩
  clear hL3 hn3 HC
  go_wp2
  have HQ := hide (And.intro q1 (And.intro q2 q3))
  clear q1 q2 q3
  go_loopg [10, 11, 12, 52] len (fun gh v bg cv i wr => ∃ (k b c N : Nat) (l : List Int) (ib : Option Nat) (ao' : Option Addr) (cap : Nat) (wd : Nat → Int), k ≤ len ∧ Hid (gh = len - k) ∧ v = .slice ao' N cap ∧ bg = .int .i64 b ∧ cv = .int .i64 c ∧ i = .int .i64 k ∧ (c = 0 ∨ c = 1) ∧ Hid (l.length = N ∧ PlS w1 wr B p A3 wd a P r c b l (.slice ao' N cap) ib))
  case atStart => exact ⟨0, 0, 0, 0, [], none, none, 0, wd3, by omega, hide (by omega), rfl, rfl, rfl, rfl, .inl rfl, hide ⟨rfl, unhide HP3⟩⟩
  case round =>
    obtain ⟨k, b, c, N, l, ib, ao', cap, wd, hk, hgh, rfl, rfl, rfl, rfl, hc01, hK⟩ := hrel
    clear HP3
    by_cases hlt : k < len
    · have hlt' : (k : Int) < len := by omega
      obtain ⟨rfl, hce, hce2⟩ := unhide HCe _ k ((unhide HF1).trans (unhide hK).2.lw.far) hlt
      clear HCe
      generalize fk k = z at *
      generalize fn k = v at *
      have HK0 := hide ((unhide hK).2.quiet ((Fr.refl (fun _ => False) wr).alloc (.cells #[.int .i64 z, .int .i64 v] 30)))
      have HNl := hide (unhide hK).1
      have HOff : Hid (¬ SpK B p (.slice none 0 0) wr.heap.size) := hide fun hk => by have := ((unhide hK).2.lw.sp.lt hk).2; omega
      clear hK
      go_upto_block 2 with fail
      go_cut [10, 11, 12] (fun v' bg cv wx => ∃ (b c N : Nat) (l : List Int) (ib : Option Nat) (ao' : Option Addr) (cap : Nat) (wd : Nat → Int), v' = .slice ao' N cap ∧ bg = .int .i64 b ∧ cv = .int .i64 c ∧ (c = 0 ∨ c = 1) ∧ Hid (l.length = N ∧ PlS w1 wx B p A3 wd a P r c b l (.slice ao' N cap) ib))
      case first =>
        by_cases hz1 : z = 1
        · as_aux_lemma =>
            subst hz1
            by_cases hfit : N < P
            · have hf1 : (N : Int) < P := by omega
              have HPu := hide (Push_yes (unhide HK0).lw.sp (unhide HK0).ch (by rw [unhide HNl]; exact hfit) v)
              have HOc : Hid (∀ W', To B p (wr.alloc (.cells #[.int .i64 1, .int .i64 v] 30)) (.slice none 0 0) W' (.slice none 0 0) → W'.cell? ⟨wr.heap.size, 1, none⟩ = some (.int .i64 v)) := hide fun W' ht => ht.cell (by simp) (fun hk => (unhide HOff) hk) (by rw [World.cell?_alloc_at _ _ _ _ rfl]; rfl)
              go_wp2_with fail
              refine (unhide HPu).mono ?_
              rintro e w4 ⟨rfl, ht4, hs4⟩
              obtain ⟨k1, k2, k3⟩ := (unhide HK0).row hs4 ht4 ((unhide HK0).ch.push (by rw [unhide HNl]; exact hfit) v)
              have HS4 := hide (And.intro k1 k2)
              have hoc := unhide HOc _ ht4
              have HIn : Hid (∀ W, Fr (fun _ => False) w4 W → IntsAt W ao' l) := hide fun W hF => k3.ints.quiet hF
              have HCx : Hid (∀ W, Fr (fun _ => False) w4 W → W.cell? ⟨wr.heap.size, 1, none⟩ = some (.int .i64 v)) := hide fun W hF => hF.cell hoc id
              have hoc1 := unhide HCx _ ((Fr.refl (fun _ => False) w4).alloc (.cells #[] 3))
              have hNb : N ≤ 1024 := by omega
              clear k1 k2 k3 hs4 ht4 HPu HK0
              go_wp2
              go_region_law (first
                | (refine step_app rfl (.tmp 74) (.tmp 77) rfl (.slice ao5 N c5) ib5 l rfl ((unhide HO6).1.fr (show Fr (fun _ => False) w6 _ by (repeat' (first | exact Fr.refl _ _ | refine Fr.drew ?_ | refine Fr.alloc ?_ _))) (fun _ _ => id)) _ 1 1 [v] rfl rfl (by first | exact unhide HI6 | exact (unhide HI6).quiet (by ((repeat' (first | exact Fr.refl _ _ | refine Fr.drew ?_ | refine Fr.alloc ?_ _)); done)) | exact one_ints _ _ | exact (one_ints _ _).quiet (by ((repeat' (first | exact Fr.refl _ _ | refine Fr.drew ?_ | refine Fr.alloc ?_ _)); done))) (by rw [unhide HNl]; simp; omega) ?_; intro ao7 c7 ib7 w7 ho7 hg7; rw [unhide HNl] at ho7 ⊢; have HN7 := hide (nw_two (unhide HO6) (by (repeat' (first | exact Fr.refl _ _ | refine Fr.drew ?_ | refine Fr.alloc ?_ _))) hg7 ho7); clear ho7 hg7)
                | (refine step_app rfl (.tmp 72) (.tmp 73) rfl (.slice (some ⟨w4.heap.size + 1, 0, none⟩) 0 0) (some (w4.heap.size + 1)) [] rfl (own_emp (by first | (simp; done) | (simp; omega))) ao' N cap l rfl (unhide HNl).symm (unhide HIn _ (by (repeat' (first | exact Fr.refl _ _ | refine Fr.drew ?_ | refine Fr.alloc ?_ _)))) (by rw [unhide HNl]; simp; omega) ?_; intro ao5 c5 ib5 w6 ho5 hg5; have HI6 := hide (two_ints' hg5); rw [List.length_nil, Nat.zero_add, List.nil_append, unhide HNl] at ho5; rw [List.length_nil, Nat.zero_add, unhide HNl]; have HO6 : Hid (Own w6 (.slice ao5 N c5) ib5 l ∧ (∀ g, ib5 = some g → w4.heap.size ≤ g) ∧ Fr (fun _ => False) w4 w6) := hide ⟨ho5, fun g e => by first | (rcases hg5.at_ with e2 | e2 <;> (rw [e2] at e; cases e; simp; try omega)), (show Fr (fun _ => False) w4 _ by (repeat' (first | exact Fr.refl _ _ | refine Fr.drew ?_ | refine Fr.alloc ?_ _))).up hg5.fr (fun k e => by cases e; first | (simp; done) | omega)⟩; have hoc6 := unhide HCx _ (unhide HO6).2.2; clear ho5 hg5)
                | (refine step_app rfl (.tmp 72) (.tmp 73) rfl (.slice (some ⟨w4.heap.size, 0, none⟩) 0 0) (some (w4.heap.size)) [] rfl (own_emp (by first | (simp; done) | (simp; omega))) ao' N cap l rfl (unhide HNl).symm (unhide HIn _ (by (repeat' (first | exact Fr.refl _ _ | refine Fr.drew ?_ | refine Fr.alloc ?_ _)))) (by rw [unhide HNl]; simp; omega) ?_; intro ao5 c5 ib5 w6 ho5 hg5; have HI6 := hide (two_ints hg5); rw [List.length_nil, Nat.zero_add, List.nil_append, unhide HNl] at ho5; rw [List.length_nil, Nat.zero_add, unhide HNl]; have HO6 : Hid (Own w6 (.slice ao5 N c5) ib5 l ∧ (∀ g, ib5 = some g → w4.heap.size ≤ g) ∧ Fr (fun _ => False) w4 w6) := hide ⟨ho5, fun g e => by first | (rcases hg5.at_ with e2 | e2 <;> (rw [e2] at e; cases e; simp; try omega)), (show Fr (fun _ => False) w4 _ by (repeat' (first | exact Fr.refl _ _ | refine Fr.drew ?_ | refine Fr.alloc ?_ _))).up hg5.fr (fun k e => by cases e; first | (simp; done) | omega)⟩; have hoc6 := unhide HCx _ (unhide HO6).2.2; clear ho5 hg5)
                | (refine step_app rfl (.tmp 72) (.tmp 73) rfl (.slice (some ⟨w4.heap.size, 0, none⟩) 0 0) (some (w4.heap.size)) [] rfl (own_emp (by first | (simp; done) | (simp; omega))) ao' N cap l rfl (unhide HNl).symm (unhide HIn _ (by (repeat' (first | exact Fr.refl _ _ | refine Fr.drew ?_ | refine Fr.alloc ?_ _)))) (by rw [unhide HNl]; simp; omega) ?_; intro ao5 c5 ib5 w6 ho5 hg5; rw [List.length_nil, Nat.zero_add, List.nil_append, unhide HNl] at ho5; rw [List.length_nil, Nat.zero_add, unhide HNl]; have HO6 : Hid (Own w6 (.slice ao5 N c5) ib5 l ∧ (∀ g, ib5 = some g → w4.heap.size ≤ g) ∧ Fr (fun _ => False) w4 w6) := hide ⟨ho5, fun g e => by first | (rcases hg5.at_ with e2 | e2 <;> (rw [e2] at e; cases e; simp; try omega)), (show Fr (fun _ => False) w4 _ by (repeat' (first | exact Fr.refl _ _ | refine Fr.drew ?_ | refine Fr.alloc ?_ _))).up hg5.fr (fun k e => by cases e; first | (simp; done) | omega)⟩; have hoc6 := unhide HCx _ (unhide HO6).2.2; clear ho5 hg5))
              all_goals
                obtain ⟨ib8, hK8⟩ := PlS.nw (unhide HS4).1 (unhide HS4).2 (unhide HN7)
                have HK := hide hK8
                clear hK8
                go_wp2_with fail
                go_meet
              all_goals exact ⟨b, c, N + 1, l ++ [v], ib8, ao7, c7, _, rfl, rfl, rfl, hc01, hide ⟨by rw [List.length_append, unhide HNl]; rfl, unhide HK⟩⟩
            · have hf1 : ¬ (N : Int) < P := by omega
              have HPu := hide (Push_no (unhide HK0).lw.sp ((unhide HK0).full (unhide HNl) hfit) v)
              go_wp2_with fail
              refine (unhide HPu).mono ?_
              rintro e w4 ⟨rfl, hF4⟩
              have HK := hide ((unhide HK0).quiet hF4)
              clear hF4 HPu HK0
              go_wp2_with fail
              go_meet
              case rel => exact ⟨b, c, N, l, ib, ao', cap, wd, rfl, rfl, rfl, hc01, hide ⟨unhide HNl, unhide HK⟩⟩
        · by_cases hz2 : z = 2
          · as_aux_lemma =>
              subst hz2
              by_cases h0 : N = 0
              · subst h0
                have HSh := hide (Shift_no (unhide HK0).lw.sp (show ChOf A3 wd a b 0 P from by have := (unhide HK0).ch.of; rw [unhide HNl] at this; exact this))
                go_wp2_with fail
                refine (unhide HSh).mono ?_
                rintro e w4 ⟨rfl, hF4⟩
                have HK := hide ((unhide HK0).quiet hF4)
                clear hF4 HSh HK0
                go_wp2_with fail
                go_meet
                case rel => exact ⟨b, c, 0, l, ib, ao', cap, wd, rfl, rfl, rfl, hc01, hide ⟨unhide HNl, unhide HK⟩⟩
              · obtain ⟨x, t, rfl⟩ : ∃ x t, l = x :: t := by
                  cases l with
                  | nil => exact absurd (unhide HNl).symm h0
                  | cons x t => exact ⟨x, t, rfl⟩
                have hN1 : N = t.length + 1 := (unhide HNl).symm
                have HN1 := hide hN1
                have hp1 : (0 : Int) < N := by omega
                have hNb : N ≤ 1024 := by have := (unhide HK0).ch.cnt; rw [unhide HNl] at this; omega
                obtain ⟨g0, o0, rfl, hg0, hx0⟩ := (unhide HK0).own.ints 0 (by simp)
                have hcap : N ≤ cap := by
                  obtain ⟨ao1, cap1, e1, h1, _⟩ := (unhide HK0).own.form
                  have e1' : ao1 = some ⟨g0, o0, none⟩ ∧ cap1 = cap := by simp at e1; exact ⟨e1.1.symm, e1.2.2.symm⟩
                  have := unhide HNl
                  omega
                have HSh := hide (Shift_yes (unhide HK0).lw.sp (unhide HK0).ch)
                go_wp2_with fail
                refine (unhide HSh).mono ?_
                rintro e w4 ⟨rfl, ht4, hs4⟩
                obtain ⟨k1, k2, k3⟩ := (unhide HK0).row hs4 ht4 (unhide HK0).ch.shift
                have HS4 := hide (And.intro k1 k2)
                obtain ⟨g1, o1, e1, _, hx4⟩ := k3.ints 0 (by simp)
                obtain ⟨rfl, rfl⟩ : g0 = g1 ∧ o0 = o1 := by simpa using e1
                have hxx : w4.cell? ⟨g0, o0, none⟩ = some (.int .i64 x) := by simpa using hx4
                have HOw := hide k3
                have hPb : 0 < P ∧ b < P := ⟨by have := (unhide HK0).ch.cnt; rw [unhide HNl] at this; omega, (unhide HK0).ch.bl (by have := (unhide HK0).ch.cnt; rw [unhide HNl] at this; omega)⟩
                clear k1 k2 k3 hs4 ht4 HSh HK0 hx0 hg0 e1 hx4 hN1
                have hP0 : ¬ P = 0 := by omega
                have hP1 : ¬ (P : Int) = 0 := by omega
                obtain ⟨qn, hqn⟩ : ∃ qn : Nat, qn = b + 1 := ⟨_, rfl⟩
                obtain ⟨rn, hrn⟩ : ∃ rn : Nat, rn = qn % P := ⟨_, rfl⟩
                have m1 : (b : Int) + 1 = qn := by omega
                have m2 : -9223372036854775808 ≤ (qn : Int) ∧ (qn : Int) < 9223372036854775808 := by omega
                have m3 : (qn : Int) % P = rn := by rw [hrn]; exact (Int.natCast_emod _ _).symm
                have HRi : Hid ((rn : Int) = ((b + 1) % P : Nat)) := hide (by rw [hrn, hqn])
                clear hqn hrn hPb
                generalize (qn : Int) = qi at *
                generalize (rn : Int) = ri at *
                have HR2 := hide (m3.trans (unhide HRi))
                obtain ⟨Nt, hNt⟩ : ∃ Nt, t.length = Nt := ⟨_, rfl⟩
                have HNt := hide hNt
                rw [hNt] at HN1
                clear hNt
                by_cases hc1 : cap = 1
                · have HIt : Hid (∀ W, IntsAt W (some ⟨g0, o0, none⟩) t) := hide fun W => by
                    have e : t = [] := List.eq_nil_of_length_eq_zero (by have := unhide HN1; have := unhide HNt; omega)
                    rw [e]; exact IntsAt.nil _ _
                  obtain rfl : N = 1 := by omega
                  subst hc1
                  clear hp1 hcap h0
                  go_wp2_with (first | (at_builtin; refine wpList_app rfl (.tmp 111) (.tmp 113) rfl (.slice (some ⟨w4.heap.size, 0, none⟩) 0 0) (some w4.heap.size) [] rfl (own_emp (by simp)) _ _ _ t rfl (by have h1 := unhide HN1; have h2 := unhide HNt; first | omega | (simp; omega)) (unhide HIt _) (by have := unhide HNt; have := unhide HN1; simp; omega) ?_; intro ao5 c5 ib5 w6 ho5 hg5; rw [List.length_nil, Nat.zero_add, List.nil_append, unhide HNt] at ho5; rw [List.length_nil, Nat.zero_add, unhide HNt]; have HN6 := hide (nw_app (show Fr (fun _ => False) w4 _ by (repeat' (first | exact Fr.refl _ _ | refine Fr.drew ?_ | refine Fr.alloc ?_ _))) hg5 (Nat.le_refl _) ho5); clear ho5 hg5))
                  obtain ⟨ib8, hK8⟩ := PlS.nw (unhide HS4).1 (unhide HS4).2 (unhide HN6)
                  have HK := hide hK8
                  clear hK8
                  go_meet
                  case rel => exact ⟨_, c, Nt, t, ib8, ao5, c5, _, rfl, by rw [unhide HR2], rfl, hc01, hide ⟨unhide HNt, unhide HK⟩⟩
                · have HIt : Hid (∀ W, Fr (fun _ => False) w4 W → IntsAt W (some ⟨g0, o0 + 1, none⟩) t) := hide fun W hF => ((unhide HOw).tail.1 hc1).ints.quiet hF
                  go_wp2_with (first | (at_builtin; refine wpList_app rfl (.tmp 111) (.tmp 113) rfl (.slice (some ⟨w4.heap.size, 0, none⟩) 0 0) (some w4.heap.size) [] rfl (own_emp (by simp)) _ _ _ t rfl (by have h1 := unhide HN1; have h2 := unhide HNt; first | omega | (simp; omega)) (unhide HIt _ (by (repeat' (first | exact Fr.refl _ _ | refine Fr.drew ?_ | refine Fr.alloc ?_ _)))) (by have := unhide HNt; have := unhide HN1; simp; omega) ?_; intro ao5 c5 ib5 w6 ho5 hg5; rw [List.length_nil, Nat.zero_add, List.nil_append, unhide HNt] at ho5; rw [List.length_nil, Nat.zero_add, unhide HNt]; have HN6 := hide (nw_app (show Fr (fun _ => False) w4 _ by (repeat' (first | exact Fr.refl _ _ | refine Fr.drew ?_ | refine Fr.alloc ?_ _))) hg5 (Nat.le_refl _) ho5); clear ho5 hg5))
                  obtain ⟨ib8, hK8⟩ := PlS.nw (unhide HS4).1 (unhide HS4).2 (unhide HN6)
                  have HK := hide hK8
                  clear hK8
                  go_meet
                  case rel => exact ⟨_, c, Nt, t, ib8, ao5, c5, _, rfl, by rw [unhide HR2], rfl, hc01, hide ⟨unhide HNt, unhide HK⟩⟩
          · by_cases hz3 : z = 3
            · as_aux_lemma =>
                subst hz3
                rcases hc01 with rfl | rfl
                · have HCl := hide (Close_yes (unhide HK0).lw.sp (unhide HK0).ch)
                  go_wp2_with fail
                  refine (unhide HCl).mono ?_
                  rintro e w4 ⟨rfl, ht4, hs4⟩
                  obtain ⟨k1, k2, k3⟩ := (unhide HK0).row hs4 ht4 (unhide HK0).ch.close
                  have HK := hide (show PlS w1 w4 B p A3 _ a P r 1 b l (.slice ao' N cap) ib from ⟨k1, k2, k3, (unhide HK0).off⟩)
                  clear k1 k2 k3 hs4 ht4 HCl HK0
                  go_wp2_with fail
                  go_meet
                  case rel => exact ⟨b, 1, N, l, ib, ao', cap, _, rfl, rfl, rfl, .inr rfl, hide ⟨unhide HNl, unhide HK⟩⟩
                · have HCl := hide (Close_no (unhide HK0).lw.sp (unhide HK0).ch)
                  go_wp2_with fail
                  refine (unhide HCl).mono ?_
                  rintro e w4 ⟨rfl, hF4⟩
                  have HK := hide ((unhide HK0).quiet hF4)
                  clear hF4 HCl HK0
                  go_wp2_with fail
                  go_meet
                  case rel => exact ⟨b, 1, N, l, ib, ao', cap, wd, rfl, rfl, rfl, .inr rfl, hide ⟨unhide HNl, unhide HK⟩⟩
            · as_aux_lemma =>
                have HK := HK0
                go_wp2_with fail
                go_meet
                case rel => exact ⟨b, c, N, l, ib, ao', cap, wd, rfl, rfl, rfl, hc01, hide ⟨unhide HNl, unhide HK⟩⟩
      case rest =>
        clear HNl HK0 HOff hce hce2
        obtain ⟨b2, c2, N2, l2, ib2, ao2, cap2, wd2, rfl, rfl, rfl, hc2, hK2⟩ := hcut
        have HK := hide (unhide hK2).2
        have HNl := hide (unhide hK2).1
        clear hK2
        have HCo := hide (pl_count (unhide HK) (unhide HNl))
        go_wp2_with fail
        refine (unhide HCo).mono ?_
        rintro e w11 ⟨rfl, hF11⟩
        have HK1 := hide ((unhide HK).quiet hF11)
        have HI := hide (pl_items (unhide HK1) (unhide HNl))
        clear hF11 HCo HK
        go_wp2_with fail
        refine (unhide HI).mono ?_
        rintro e w12 ⟨M, rfl, hM12, hF12⟩
        have HK2 := hide ((unhide HK1).quiet hF12)
        have HM2 := hide hM12
        have HCd := hide (pl_closed (ci := (c2 : Int)) (unhide HK2) rfl)
        clear hF12 hM12 HI HK1
        go_wp2_with fail
        refine (unhide HCd).mono ?_
        rintro e w13 ⟨rfl, hF13⟩
        have HK3 := hide ((unhide HK2).quiet hF13)
        have HM3 := hide ((unhide HM2).fr hF13 id)
        have HG := hide (pl_get0 (ci := (c2 : Int)) (unhide HK3) rfl)
        clear hF13 HCd HK2 HM2
        go_wp2_with fail
        refine (unhide HG).mono ?_
        rintro e w14 ⟨rfl, hF14⟩
        have HK4 := hide ((unhide HK3).quiet hF14)
        have HM4 := hide ((unhide HM3).fr hF14 id)
        have HG := hide (pl_get1 (bi := (b2 : Int)) (unhide HK4) rfl)
        clear hF14 HK3 HM3
        go_wp2_with fail
        refine (unhide HG).mono ?_
        rintro e w15 ⟨rfl, hF15⟩
        have HK5 := hide ((unhide HK4).quiet hF15)
        have HM5 := hide ((unhide HM4).fr hF15 id)
        have HG := hide (pl_get2 (unhide HK5) (unhide HNl))
        clear hF15 HK4 HM4
        go_wp2_with fail
        refine (unhide HG).mono ?_
        rintro e w16 ⟨rfl, hF16⟩
        have HK6 := hide ((unhide HK5).quiet hF16)
        have HM6 := hide ((unhide HM5).fr hF16 id)
        have HG := hide (pl_get3 (unhide HK6))
        clear hF16 HK5 HM5
        go_wp2_with fail
        refine (unhide HG).mono ?_
        rintro e w17 ⟨rfl, hF17⟩
        have HK7 := hide ((unhide HK6).quiet hF17)
        have HM7 := hide ((unhide HM6).fr hF17 id)
        clear hF17 HK6 HM6 HG
        go_wp2
        obtain ⟨wm, rfl⟩ : ∃ wm, wm = wr := ⟨_, rfl⟩
        have HAd : Hid (∃ g0 o0, 0 < N2 → ao2 = some ⟨g0, o0, none⟩) := hide (by
          by_cases h0 : 0 < N2
          · obtain ⟨g0, o0, e, _⟩ := (unhide HK7).own.ints 0 (by rw [unhide HNl]; exact h0)
            exact ⟨g0, o0, fun _ => e⟩
          · exact ⟨0, 0, fun h => absurd h h0⟩)
        obtain ⟨g0, o0, hg0⟩ := unhide HAd
        have HG0 := hide hg0
        clear hg0 HAd
        go_loopg [190] N2 (fun gh i wr => ∃ j : Nat, j ≤ N2 ∧ Hid (gh = N2 - j) ∧ i = .int .i64 j ∧ Hid (PlS w1 wr B p A3 wd2 a P r c2 b2 l2 (.slice ao2 N2 cap2) ib2 ∧ Row wr M N2 (fun j => .int .i64 (l2.getD j 0))))
        case atStart => exact ⟨0, by omega, hide (by omega), rfl, hide ⟨unhide HK7, unhide HM7⟩⟩
        case round =>
          obtain ⟨j, hj, hgh2, rfl, hK⟩ := hrel
          clear HK7 HM7
          by_cases hltj : j < N2
          · have hltj' : (j : Int) < N2 := by omega
            obtain rfl := unhide HG0 (by omega)
            have hjl : j < l2.length := by rw [unhide HNl]; exact hltj
            obtain ⟨g1, o1, e1, _, hcl⟩ := (unhide hK).1.own.ints j hjl
            obtain ⟨rfl, rfl⟩ : g0 = g1 ∧ o0 = o1 := by simpa using e1
            have hcm : wr.cell? ⟨M, j, none⟩ = some (.int .i64 (l2.getD j 0)) := ((unhide hK).2 j hltj).1
            have hPb : 0 < P ∧ b2 < P := ⟨by have := (unhide hK).1.ch.cnt; omega, (unhide hK).1.ch.bl (by have := (unhide hK).1.ch.cnt; omega)⟩
            have hPle := (unhide hK).1.ch.le
            have hjP : j < P := by have := (unhide hK).1.ch.cnt; omega
            have hP0 : ¬ P = 0 := by omega
            have hP1 : ¬ (P : Int) = 0 := by omega
            obtain ⟨qn, hqn⟩ : ∃ qn : Nat, qn = b2 + j := ⟨_, rfl⟩
            obtain ⟨rn, hrn⟩ : ∃ rn : Nat, rn = qn % P := ⟨_, rfl⟩
            obtain ⟨q', hq'⟩ : ∃ q' : Nat, q' = 4 + rn := ⟨_, rfl⟩
            have hrl : rn < P := by rw [hrn]; exact Nat.mod_lt _ (by omega)
            have m1 : (b2 : Int) + j = qn := by omega
            have m2 : (qn : Int) < 9223372036854775808 := by omega
            have m3 : (qn : Int) % P = rn := by rw [hrn]; exact (Int.natCast_emod _ _).symm
            have m4 : 4 + (rn : Int) = q' := by omega
            have m5 : (q' : Int) < 9223372036854775808 := by omega
            have HIt := hide (pl_item (j := j) (q := q') (unhide hK).1 hjl (by rw [hq', hrn, hqn]))
            have m7 : (j : Int) ≤ 1024 := by omega
            have m6 : -9223372036854775808 ≤ (qn : Int) ∧ -9223372036854775808 ≤ (q' : Int) := by omega
            clear hqn hrn hq' hrl hPb hPle hjP hjl e1
            generalize (qn : Int) = qi at *
            generalize (rn : Int) = ri at *
            generalize (q' : Int) = qj at *
            generalize l2.getD j 0 = lj at *
            go_wp2_with fail
            refine (unhide HIt).mono ?_
            rintro e w21 ⟨rfl, hF21⟩
            have HK21 := hide (And.intro ((unhide hK).1.quiet hF21) ((unhide hK).2.fr hF21 id))
            clear hF21 HIt hK hcl hcm
            go_wp2
            go_roundg (N2 - (j + 1))
            case measure => have := unhide hgh2; omega
            case rel => exact ⟨j + 1, by omega, hide rfl, by go_num, HK21⟩
          · have hgej : ¬ (j : Int) < N2 := by omega
            have HKe := hide (And.intro (unhide HNl) (unhide hK).1)
            clear hK hltj
            go_wp2
            go_roundg (len - (k + 1))
            case measure => have := unhide hgh; omega
            case rel => exact ⟨k + 1, b2, c2, N2, l2, ib2, ao2, cap2, wd2, by omega, hide rfl, rfl, rfl, rfl, by go_num, hc2, HKe⟩
    · have hge : ¬ (k : Int) < len := by omega
      have HE := hide ((unhide HF1).trans (unhide hK).2.lw.far)
      clear hK
      go_wp2
      go_ret
      exact ⟨rfl, unhide HE⟩
theorem plays_any (x : Int) (r : Bool) (ao : Option Addr) (len cp : Nat) (fk fn : Nat → Int) (w : World) (hV : Vars w) (_hx : -9223372036854775808 ≤ x ∧ x < 9223372036854775808) (hcell : ∀ j, j < len → ∃ b off, ao = some ⟨b, off, none⟩ ∧ b < w.heap.size ∧ w.cell? ⟨b, off + j * 2, none⟩ = some (.int .i64 (fk j)) ∧ w.cell? ⟨b, off + j * 2 + 1, none⟩ = some (.int .i64 (fn j))) :
    Calls Tryd.prog 3 #[.int .i64 x, .bool r, .slice ao len cp] w fun e w' => e = .returned (.bool true) ∧ Below w.heap.size w w' := by
  have key : Calls Tryd.prog 3 #[.int .i64 x, .bool r, .slice ao len cp] w fun e w' => e = .returned (.bool true) ∧ Fr (fun _ => False) w w' := by
    by_cases h : (300 : Int) < len
    · exact plays_big x r ao len cp w hV h
    · by_cases h2 : x < 0 ∨ 1024 < x
      · exact plays_none x r ao len cp w hV (by omega) (by omega)
      · obtain ⟨P, rfl⟩ := Int.eq_ofNat_of_zero_le (show 0 ≤ x by omega)
        exact plays_main P r ao len cp fk fn w hV (by omega) (by omega) hcell
  exact key.mono fun _ _ h => ⟨h.1, h.2.below (Nat.le_refl _) (fun _ x => x.elim)⟩
end Go.Proofs.YtogjblikljggbaaDoor
