/- ListAlias, walked. -/
import Derived.Test.YtkclpbbpcicpiaaDoorL8
namespace Go.Proofs.YtkclpbbpcicpiaaDoor
open Go.RowKit Go.Proofs.YtkclpbbpcicpiaaDoor.Hp
variable {w0 w w' w1 w2 : World} {B : HB} {n p m d q : Nat} {A A' A1 A2 : Nat → Kd} {wd wd' wd1 wd2 : Nat → Int} {hv hv1 hv2 : Value} {held : List Int} {cnt cnt' : Nat} {a b lo N c k : Nat} {f : Nat → Int} {z : Int}
abbrev arO (x y : Int) : Obj := .cells #[.int .i64 x, .int .i64 y] 41
/-- The law's two arrays. -/
def ArC (W : World) (M : Nat) (x y : Int) : Prop := M < W.heap.size ∧ W.cell? ⟨M, 0, none⟩ = some (.int .i64 x) ∧ W.cell? ⟨M, 1, none⟩ = some (.int .i64 y)
theorem ArC.new (W : World) (x y : Int) : ArC (W.alloc (arO x y)) W.heap.size x y := ⟨by simp, by rw [World.cell?_alloc_at _ _ _ _ rfl]; rfl, by rw [World.cell?_alloc_at _ _ _ _ rfl]; rfl⟩
theorem ArC.quiet {M : Nat} {x y : Int} (h : ArC w M x y) (k : Fr (fun _ => False) w w') : ArC w' M x y := ⟨Nat.lt_of_lt_of_le h.1 k.size, cell_far k h.1 h.2.1, cell_far k h.1 h.2.2⟩
set_option maxRecDepth 100000 in
set_option maxHeartbeats 4000000 in
theorem alias_big (x a0 a1 b0 b1 i v : Int) (w : World) (hV : Vars w) (hx : x < 0 ∨ 100 < x) :
    Calls Tryd.prog 5 #[.int .i64 x, .agg #[.int .i64 a0, .int .i64 a1], .agg #[.int .i64 b0, .int .i64 b1], .int .i64 i, .int .i64 v] w fun e w' => e = .returned (.bool true) ∧ Fr (fun _ => False) w w' := by
  have hF0 := ((Fr.refl (fun _ => False) w).alloc (arO a0 a1)).alloc (arO b0 b1)
  have HA := hide (anchor_any _ (hV.fr hF0 id id))
  have HF0 := hide hF0
  clear hV hF0
  rcases hx with hx | hx
  · go_enter Tryd.func5, Tryd.ntmps5
    go_wp2_with fail
    refine (unhide HA).mono ?_
    rintro e w1 ⟨rfl, hF1, _⟩
    have HF1 := hide ((unhide HF0).trans hF1)
    clear hF1
    go_wp2
    go_ret
    exact ⟨rfl, unhide HF1⟩
  · have h0 : 0 ≤ x := by omega
    go_enter Tryd.func5, Tryd.ntmps5
    go_wp2_with fail
    refine (unhide HA).mono ?_
    rintro e w1 ⟨rfl, hF1, _⟩
    have HF1 := hide ((unhide HF0).trans hF1)
    clear hF1
    go_wp2
    go_ret
    exact ⟨rfl, unhide HF1⟩
/-- What the first three calls leave. -/
structure Als (w0 w : World) (B : HB) (p a b n : Nat) (A : Nat → Kd) (wd : Nat → Int) (hv : Value) (held : List Int) (q : Nat) : Prop where
  lw : Lw w0 w B 128 p A wd hv held 0
  sl : SlAt A wd a b 0 n n
  ar : ArAt A wd b 1 n (fun _ => 0)
  su : Suf 128 A q
  hl : held.length ≤ 10
theorem Als.hold (h : Als w0 w B p a b n A wd hv held q) (z : Int) (hz : -9223372036854775808 ≤ z ∧ z < 9223372036854775808) (hl : held.length < 10) :
    Calls Tryd.prog 11 #[.pointer (some ⟨p, 0, none⟩), .int .i64 z] w fun e w' => e = .returned (.tuple #[]) ∧ ∃ hv', Als w0 w' B p a b n A wd hv' (held ++ [z]) q := by
  refine (HoldT h.lw.sp z hz (by omega)).mono ?_
  rintro e w' ⟨hv', rfl, hs, ht⟩
  exact ⟨rfl, hv', h.lw.step hs ht, h.sl, h.ar, h.su, by simp; omega⟩
/-- A cut of the law's slice. -/
inductive CutV (w0 : World) (B : HB) (p a b n : Nat) (A : Nat → Kd) (wd : Nat → Int) (held : List Int) (q : Nat) (l u : Int) (e : Ending) (w' : World) : Prop
  | yes (x : Nat) (A2 : Nat → Kd) (wd2 : Nat → Int) (hv2 : Value) (lo hi : Nat) (hlo : l = lo) (hhi : u = hi) (h1 : lo ≤ hi) (h2 : hi ≤ n) (he : e = .returned (.tuple #[.int .i64 (x : Int), .bool true])) (hx : SlAt A2 wd2 x b lo (hi - lo) (n - lo)) (ho : Olds (fun _ => False) A wd A2 wd2) (h : Als w0 w' B p a b n A2 wd2 hv2 held (q + 1))
  | no (hv2 : Value) (hlu : l < 0 ∨ (0 ≤ l ∧ u < l) ∨ (0 ≤ l ∧ l ≤ u ∧ (n : Int) < u)) (he : e = .returned (.tuple #[.int .i64 0, .bool false])) (h : Als w0 w' B p a b n A wd hv2 held q)
theorem Als.cut (h : Als w0 w B p a b n A wd hv held q) (hq : q ≤ 100) (l u : Int) :
    Calls Tryd.prog 21 #[.pointer (some ⟨p, 0, none⟩), .int .i64 a, .int .i64 l, .int .i64 u] w fun e w' => CutV w0 B p a b n A wd held q l u e w' := by
  have hn := h.ar.le
  have hhl := h.hl
  by_cases hlu : 0 ≤ l ∧ l ≤ u ∧ u ≤ n
  · obtain ⟨lo, rfl⟩ := Int.eq_ofNat_of_zero_le hlu.1
    obtain ⟨hi, rfl⟩ := Int.eq_ofNat_of_zero_le (show 0 ≤ u by omega)
    refine (Cut_to h.lw.sp (by omega) (by omega) h.sl (h.lw.sp.b_lt h.ar.room) (by omega) (by omega) (l := lo) (u := hi) (by omega) (by omega) (h.su.place (d := 1) (by omega) (by omega) (by omega))).mono ?_
    rintro e w' ⟨x, A2, wd2, hv2, rfl, h1, hs, ht⟩
    have hsl := h1.sl
    rw [Nat.zero_add] at hsl
    exact .yes x A2 wd2 hv2 lo hi rfl rfl (by omega) (by omega) rfl hsl h1.olds ⟨h.lw.step hs ht, h.sl.keep h1.olds id, h.ar.keep h1.olds id, h.su.goes h1.go (by omega) (by omega), hhl⟩
  · refine (Cut_no h.lw.sp (.inr ⟨a, rfl, h.sl⟩) l u hlu).mono ?_
    rintro e w' ⟨rfl, hF⟩
    exact .no hv (by omega) rfl ⟨h.lw.quiet hF, h.sl, h.ar, h.su, hhl⟩
set_option maxRecDepth 100000 in
set_option maxHeartbeats 16000000 in
theorem alias_main (n : Nat) (a0 a1 b0 b1 i v : Int) (w : World) (hV : Vars w) (hn : n ≤ 100) (ha0 : -9223372036854775808 ≤ a0 ∧ a0 < 9223372036854775808) (ha1 : -9223372036854775808 ≤ a1 ∧ a1 < 9223372036854775808) (hb0 : -9223372036854775808 ≤ b0 ∧ b0 < 9223372036854775808) (hb1 : -9223372036854775808 ≤ b1 ∧ b1 < 9223372036854775808) (hi : -9223372036854775808 ≤ i ∧ i < 9223372036854775808) :
    Calls Tryd.prog 5 #[.int .i64 n, .agg #[.int .i64 a0, .int .i64 a1], .agg #[.int .i64 b0, .int .i64 b1], .int .i64 i, .int .i64 v] w fun e w' => e = .returned (.bool true) ∧ Fr (fun _ => False) w w' := by
  have hF0 := ((Fr.refl (fun _ => False) w).alloc (arO a0 a1)).alloc (arO b0 b1)
  have HA := hide (anchor_any _ (hV.fr hF0 id id))
  have HF0 := hide hF0
  have HCa := hide ((ArC.new w a0 a1).quiet ((Fr.refl _ _).alloc (arO b0 b1)))
  have HCb : Hid (ArC ((w.alloc (arO a0 a1)).alloc (arO b0 b1)) (w.heap.size + 1) b0 b1) := hide (by have := ArC.new (w.alloc (arO a0 a1)) b0 b1; simpa using this)
  clear hV hF0
  go_enter Tryd.func5, Tryd.ntmps5
  go_wp2_with fail
  refine (unhide HA).mono ?_
  rintro e w1 ⟨rfl, hF1, hV1⟩
  have HF1 := hide ((unhide HF0).trans hF1)
  have HCa1 := hide ((unhide HCa).quiet hF1)
  have HCb1 := hide ((unhide HCb).quiet hF1)
  have HN := hide (SNew_any 8192 w1 (by omega) (by omega) hV1)
  clear hF1 HA HF0 HCa HCb hV1
  have hn0 : (0 : Int) ≤ n := by omega
  have hn1 : (n : Int) ≤ 100 := by omega
  generalize w.heap.size = M at *
  go_wp2_with fail
  refine (unhide HN).mono ?_
  rintro e w2 ⟨B, p, rfl, hL⟩
  have HNw := hide (New_to hL.sp (by omega) (by simp) n (by omega) false ((Suf.start 128).roomy (d := 2) (by omega) (by omega) (by omega)))
  have HL := hide hL
  clear hL HN
  go_wp2_with fail
  refine (unhide HNw).mono ?_
  rintro e w3 ⟨a, b, A2, wd2, hv3, rfl, h3, hs3, ht3⟩
  have hls : Als w1 w3 B p a b n A2 wd2 hv3 [] 3 := ⟨(unhide HL).step hs3 ht3, h3.sl, h3.ar, h3.suf (d := 2) (Suf.start 128) (by omega) (by omega), by simp⟩
  have haz := hs3.b_lt h3.sl.room
  have HLs := hide hls
  have HH := hide (hls.hold (a : Int) (by omega) (by simp))
  clear hls h3 hs3 ht3 HNw HL
  go_wp2_with fail
  refine (unhide HH).mono ?_
  rintro e w4 ⟨rfl, hv4, hls4⟩
  have HCu := hide (hls4.cut (by omega) a0 a1)
  obtain ⟨ca, ca0, ca1⟩ := (unhide HCa1).quiet hls4.lw.far
  clear hls4 HH HLs
  go_wp2_with fail
  refine (unhide HCu).mono ?_
  rintro e w5 hc5
  have hcb := unhide HCb1
  clear HCu ca0 ca1 ca
  cases hc5 with
  | no hv5 hlu he hls5 =>
    subst he
    have HH := hide (hls5.hold 0 (by omega) (by simp))
    clear hls5
    go_wp2_with fail
    refine (unhide HH).mono ?_
    rintro e w6 ⟨rfl, hv6, hls6⟩
    have HCu := hide (hls6.cut (by omega) b0 b1)
    obtain ⟨cb, cb0, cb1⟩ := (unhide HCb1).quiet hls6.lw.far
    clear hls6 HH hcb
    go_wp2_with fail
    refine (unhide HCu).mono ?_
    rintro e w7 hc7
    clear HCu cb cb0 cb1
    cases hc7 with
    | no hv7 hlu7 he hls7 =>
      subst he
      obtain ⟨ca, ca0, ca1⟩ := (unhide HCa1).quiet hls7.lw.far
      obtain ⟨cb, cb0, cb1⟩ := (unhide HCb1).quiet hls7.lw.far
      have HF7 := hide ((unhide HF1).trans hls7.lw.far)
      clear hls7
      rcases hlu with h1 | ⟨h1, h2⟩ | ⟨h1, h2, h3⟩ <;> rcases hlu7 with k1 | ⟨k1, k2⟩ | ⟨k1, k2, k3⟩
      all_goals
        go_wp2
        go_ret
        exact ⟨rfl, unhide HF7⟩
    | yes y A7 wd7 hv7 lb hb hlb hhb k1 k2 he hy ho7 hls7 =>
      subst he
      obtain ⟨ca, ca0, ca1⟩ := (unhide HCa1).quiet hls7.lw.far
      obtain ⟨cb, cb0, cb1⟩ := (unhide HCb1).quiet hls7.lw.far
      have HF7 := hide ((unhide HF1).trans hls7.lw.far)
      clear hls7 hy ho7
      have e1 : 0 ≤ b0 := by omega
      have e2 : b0 ≤ b1 := by omega
      have e3 : b1 ≤ n := by omega
      clear hlb hhb k1 k2
      rcases hlu with h1 | ⟨h1, h2⟩ | ⟨h1, h2, h3⟩
      all_goals
        go_wp2
        go_ret
        exact ⟨rfl, unhide HF7⟩
  | yes x A5 wd5 hv5 la ha hla hha h1 h2 he hx ho5 hls5 =>
    subst he
    have hxl := hls5.lw.sp.b_lt hx.room
    have HX := hide hx
    have HH := hide (hls5.hold (x : Int) (by omega) (by simp))
    clear hls5 hx ho5
    go_wp2_with fail
    refine (unhide HH).mono ?_
    rintro e w6 ⟨rfl, hv6, hls6⟩
    have HCu := hide (hls6.cut (by omega) b0 b1)
    obtain ⟨cb, cb0, cb1⟩ := (unhide HCb1).quiet hls6.lw.far
    clear hls6 HH hcb
    go_wp2_with fail
    refine (unhide HCu).mono ?_
    rintro e w7 hc7
    clear HCu cb cb0 cb1
    have d1 : 0 ≤ a0 := by omega
    have d2 : a0 ≤ a1 := by omega
    have d3 : a1 ≤ n := by omega
    cases hc7 with
    | no hv7 hlu7 he hls7 =>
      subst he
      obtain ⟨ca, ca0, ca1⟩ := (unhide HCa1).quiet hls7.lw.far
      obtain ⟨cb, cb0, cb1⟩ := (unhide HCb1).quiet hls7.lw.far
      have HF7 := hide ((unhide HF1).trans hls7.lw.far)
      clear hls7 hla hha h1 h2
      rcases hlu7 with k1 | ⟨k1, k2⟩ | ⟨k1, k2, k3⟩
      all_goals
        go_wp2
        go_ret
        exact ⟨rfl, unhide HF7⟩
    | yes y A7 wd7 hv7 lb hb hlb hhb k1 k2 he hy ho7 hls7 =>
      subst he
      have e1 : 0 ≤ b0 := by omega
      have e2 : b0 ≤ b1 := by omega
      have e3 : b1 ≤ n := by omega
      obtain ⟨ca, ca0, ca1⟩ := (unhide HCa1).quiet hls7.lw.far
      obtain ⟨cb, cb0, cb1⟩ := (unhide HCb1).quiet hls7.lw.far
      have hx7 := (unhide HX).keep ho7 id
      by_cases hii : 0 ≤ i ∧ i < a1 - a0
      · obtain ⟨j, rfl⟩ := Int.eq_ofNat_of_zero_le hii.1
        have hjl : j < ha - la := by omega
        have HPu := hide (Put_in hls7.lw.sp (.inr ⟨x, rfl, hx7⟩) v hls7.ar hjl (by omega))
        have hI := hls7.lw.sp.inv
        have hw8 := hls7.ar.put_olds hI (i := la + j) (by omega) v
        have HSw := hide (hls7.sl.keep hw8 (hls7.sl.ne hls7.ar))
        have HSy := hide (hy.keep hw8 (hy.ne hls7.ar))
        have HAr := hide (hls7.ar.put (la + j) v)
        have HLw := hide hls7.lw
        subst hla hha hlb hhb
        have e4 : ¬ (j : Int) < 0 := by omega
        obtain ⟨t, ht⟩ : ∃ t : Nat, t = la + j := ⟨_, rfl⟩
        have e5 : (t : Int) < 9223372036854775808 := by omega
        have e7 : (la : Int) + j = t := by omega
        have e6 : (j : Int) < (ha : Int) - la := hii.2
        clear hls7 hx7 hy ho7 HX hI hw8
        go_wp2_with fail
        refine (unhide HPu).mono ?_
        rintro e w8 ⟨rfl, hs8, ht8⟩
        have HL8 := hide ((unhide HLw).step hs8 ht8)
        clear hs8 ht8 HPu HLw ca ca0 ca1 cb cb0 cb1
        obtain ⟨ca, ca0, ca1⟩ := (unhide HCa1).quiet (unhide HL8).far
        generalize upd wd7 (b + (1 + (la + j))) v = wd8 at *
        have HAt : Hid (∀ W (k : Nat), k < n → Lw w1 W B 128 p A7 wd8 hv7 (([] ++ [(a : Int)]) ++ [(x : Int)]) 0 → Calls Tryd.prog 15 #[.pointer (some ⟨p, 0, none⟩), .int .i64 a, .int .i64 k] W fun e w' => e = .returned (.tuple #[.int .i64 (if k = t then v else 0), .bool true]) ∧ Lw w1 w' B 128 p A7 wd8 hv7 (([] ++ [(a : Int)]) ++ [(x : Int)]) 0) := hide fun W k hk hL => by
          have := At_in hL.sp (.inr ⟨a, rfl, unhide HSw⟩) (i := k) (unhide HAr) hk (by omega)
          rw [Nat.zero_add, ← ht] at this
          exact this.mono fun _ _ x => ⟨x.1, hL.quiet x.2⟩
        have HEn : Hid (∀ W, Lw w1 W B 128 p A7 wd8 hv7 (([] ++ [(a : Int)]) ++ [(x : Int)]) 0 → (lb ≤ t ∧ t < hb → Calls Tryd.prog 15 #[.pointer (some ⟨p, 0, none⟩), .int .i64 y, .int .i64 ((t : Int) - lb)] W fun e w' => e = .returned (.tuple #[.int .i64 v, .bool true]) ∧ Lw w1 w' B 128 p A7 wd8 hv7 (([] ++ [(a : Int)]) ++ [(x : Int)]) 0) ∧ (¬ (lb ≤ t ∧ t < hb) → Calls Tryd.prog 15 #[.pointer (some ⟨p, 0, none⟩), .int .i64 y, .int .i64 ((t : Int) - lb)] W fun e w' => e = .returned (.tuple #[.int .i64 0, .bool false]) ∧ Lw w1 w' B 128 p A7 wd8 hv7 (([] ++ [(a : Int)]) ++ [(x : Int)]) 0)) := hide fun W hL => by
          refine ⟨fun hin => ?_, fun hout => ?_⟩
          · have := At_in hL.sp (.inr ⟨y, rfl, unhide HSy⟩) (i := t - lb) (unhide HAr) (by omega) (by omega)
            rw [show lb + (t - lb) = la + j by omega, if_pos rfl, show ((t - lb : Nat) : Int) = (t : Int) - lb by omega] at this
            exact this.mono fun _ _ x => ⟨x.1, hL.quiet x.2⟩
          · exact (At_out hL.sp (.inr ⟨y, rfl, unhide HSy⟩) ((t : Int) - lb) (by omega)).mono fun _ _ x => ⟨x.1, hL.quiet x.2⟩
        have HTt := hide ht
        clear hii ht
        have HH1 := hide (And.intro h1 (And.intro h2 (And.intro k1 k2)))
        clear HSw HSy HAr h1 h2 k1 k2
        go_wp2
        clear e7 e6
        go_loopg [19] n (fun gh i wr => ∃ k : Nat, k ≤ n ∧ Hid (gh = n - k) ∧ i = .int .i64 k ∧ Hid (Lw w1 wr B 128 p A7 wd8 hv7 (([] ++ [(a : Int)]) ++ [(x : Int)]) 0))
        case atStart => exact ⟨0, by omega, hide (by omega), rfl, HL8⟩
        case round =>
          obtain ⟨k, hk, hgh, rfl, hL⟩ := hrel
          by_cases hlt : k < n
          · have HA1 := hide (unhide HAt wr k hlt (unhide hL))
            by_cases hke : k = t
            · subst hke
              rw [if_pos rfl] at HA1
              go_wp2_with fail
              refine (unhide HA1).mono ?_
              rintro e w9 ⟨rfl, hL9⟩
              have HL9 := hide hL9
              clear hL9 HA1
              go_wp2
              go_roundg (n - (k + 1))
              case measure => have := unhide hgh; omega
              case rel => exact ⟨k + 1, by omega, hide rfl, by go_num, HL9⟩
            · rw [if_neg hke] at HA1
              have hke' : ¬ (k : Int) = t := by omega
              have hke2 : ((k : Int) == t) = false := by simpa using hke'
              go_wp2_with fail
              refine (unhide HA1).mono ?_
              rintro e w9 ⟨rfl, hL9⟩
              have HL9 := hide hL9
              clear hL9 HA1
              go_wp2
              go_roundg (n - (k + 1))
              case measure => have := unhide hgh; omega
              case rel => exact ⟨k + 1, by omega, hide rfl, by go_num, HL9⟩
          · obtain rfl : k = n := by omega
            have hge : ¬ (k : Int) < k := by omega
            obtain ⟨cb, cb0, cb1⟩ := (unhide HCb1).quiet (unhide hL).far
            clear ca ca0 ca1
            obtain ⟨i1, i2⟩ := unhide HEn _ (unhide hL)
            by_cases hin : lb ≤ t ∧ t < hb
            · have HA1 := hide (i1 hin)
              have q1 : (lb : Int) ≤ t := by omega
              have q2 : (t : Int) < hb := by omega
              clear i1 i2 hin hlt
              go_wp2_with fail
              refine (unhide HA1).mono ?_
              rintro e w9 ⟨rfl, hL9⟩
              clear cb cb0 cb1 hge hk d1 d2 d3 e1 e2 e3 e4 e5 hn hn0 hn1 hjl hi ha0 ha1 hb0 hb1 haz hxl
              obtain ⟨cb, cb0, cb1⟩ := (unhide HCb1).quiet hL9.far
              have HF9 := hide ((unhide HF1).trans hL9.far)
              clear hL9 HA1
              go_wp2
              go_ret
              exact ⟨rfl, unhide HF9⟩
            · have HA1 := hide (i2 hin)
              rcases (show (t : Int) < lb ∨ ((lb : Int) ≤ t ∧ (hb : Int) ≤ t) by omega) with q1 | ⟨q1, q2⟩
              all_goals
                clear i1 i2 hin hlt
                go_wp2_with fail
                refine (unhide HA1).mono ?_
                rintro e w9 ⟨rfl, hL9⟩
                clear cb cb0 cb1 hge hk d1 d2 d3 e1 e2 e3 e4 e5 hn hn0 hn1 hjl hi ha0 ha1 hb0 hb1 haz hxl
                obtain ⟨cb, cb0, cb1⟩ := (unhide HCb1).quiet hL9.far
                have HF9 := hide ((unhide HF1).trans hL9.far)
                clear hL9 HA1
                go_wp2
                go_ret
                exact ⟨rfl, unhide HF9⟩
      · have HPu := hide (Put_out hls7.lw.sp (.inr ⟨x, rfl, hx7⟩) i v (by omega))
        have HFr := hide hls7.lw
        have hio : i < 0 ∨ (0 ≤ i ∧ a1 - a0 ≤ i) := by omega
        clear hls7 hii hx7 hy ho7 hla hha hlb hhb h1 h2 k1 k2 HX
        go_wp2_with fail
        refine (unhide HPu).mono ?_
        rintro e w8 ⟨rfl, hF8⟩
        have hL8 := (unhide HFr).quiet hF8
        obtain ⟨ca, ca0, ca1⟩ := (unhide HCa1).quiet hL8.far
        have HF8 := hide ((unhide HF1).trans hL8.far)
        clear hL8 hF8 HPu
        have hwr : -9223372036854775808 ≤ a1 - a0 ∧ a1 - a0 < 9223372036854775808 := by omega
        rcases hio with hio | ⟨hio, hio2⟩
        all_goals
          go_wp2
          go_ret
          exact ⟨rfl, unhide HF8⟩
theorem alias_any (x a0 a1 b0 b1 i v : Int) (w : World) (hV : Vars w) (_hx : -9223372036854775808 ≤ x ∧ x < 9223372036854775808) (ha0 : -9223372036854775808 ≤ a0 ∧ a0 < 9223372036854775808) (ha1 : -9223372036854775808 ≤ a1 ∧ a1 < 9223372036854775808) (hb0 : -9223372036854775808 ≤ b0 ∧ b0 < 9223372036854775808) (hb1 : -9223372036854775808 ≤ b1 ∧ b1 < 9223372036854775808) (hi : -9223372036854775808 ≤ i ∧ i < 9223372036854775808) (_hv : -9223372036854775808 ≤ v ∧ v < 9223372036854775808) :
    Calls Tryd.prog 5 #[.int .i64 x, .agg #[.int .i64 a0, .int .i64 a1], .agg #[.int .i64 b0, .int .i64 b1], .int .i64 i, .int .i64 v] w fun e w' => e = .returned (.bool true) ∧ Below w.heap.size w w' := by
  have key : Calls Tryd.prog 5 #[.int .i64 x, .agg #[.int .i64 a0, .int .i64 a1], .agg #[.int .i64 b0, .int .i64 b1], .int .i64 i, .int .i64 v] w fun e w' => e = .returned (.bool true) ∧ Fr (fun _ => False) w w' := by
    by_cases h : x < 0 ∨ 100 < x
    · exact alias_big x a0 a1 b0 b1 i v w hV h
    · obtain ⟨n, rfl⟩ := Int.eq_ofNat_of_zero_le (show 0 ≤ x by omega)
      exact alias_main n a0 a1 b0 b1 i v w hV (by omega) ha0 ha1 hb0 hb1 hi
  exact key.mono fun _ _ h => ⟨h.1, h.2.below (Nat.le_refl _) (fun _ x => x.elim)⟩
end Go.Proofs.YtkclpbbpcicpiaaDoor
