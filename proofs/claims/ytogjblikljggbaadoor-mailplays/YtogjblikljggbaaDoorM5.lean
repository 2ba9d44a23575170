/- Items, New. -/
import Derived.Test.YtogjblikljggbaaDoorM4
namespace Go.Proofs.YtogjblikljggbaaDoor
open Go.RowKit Go.Proofs.YtogjblikljggbaaDoor.Hp
variable {w0 w w' w1 w2 : World} {B : HB} {n p : Nat} {A A' : Nat → Kd} {wd wd' : Nat → Int} {hv hv1 hv2 : Value} {held : List Int} {cnt : Nat} {a P b cl : Nat} {r : Bool} {l : List Int}
/-- What Items answers. -/
def ItsP (w : World) (N : Nat) (f : Nat → Int) (e : Ending) (w' : World) : Prop := ∃ M, e = .returned (.slice (some ⟨M, 0, none⟩) N N) ∧ w.heap.size ≤ M ∧ M < w'.heap.size ∧ Row w' M N (fun j => .int .i64 (f j)) ∧ Fr (fun _ => False) w w'
set_option maxRecDepth 100000 in
set_option maxHeartbeats 4000000 in
theorem Items_gen {z : Int} (N : Nat) (x0 x2 : Int) (f q : Nat → Int) (w : World) (hN : N ≤ 2000)
    (hO : Calls Tryd.prog 25 #[.pointer (some ⟨p, 0, none⟩), .int .i64 z] w fun e w' => e = .returned (.agg #[.int .i64 x0, .int .i64 N, .int .i64 x2]) ∧ Fr (fun _ => False) w w')
    (hI : ∀ (k : Nat) W, k < N → Calls Tryd.prog 26 #[.agg #[.int .i64 x0, .int .i64 N, .int .i64 x2], .int .i64 k] W fun e w' => e = .returned (.int .i64 (q k)) ∧ Fr (fun _ => False) W w')
    (hG : ∀ (k : Nat) W, k < N → Fr (fun _ => False) w W → Calls Tryd.prog 17 #[.pointer (some ⟨p, 0, none⟩), .int .i64 z, .int .i64 (q k)] W fun e w' => e = .returned (.int .i64 (f k)) ∧ Fr (fun _ => False) W w') :
    Calls Tryd.prog 15 #[.pointer (some ⟨p, 0, none⟩), .int .i64 z] w fun e w' => ItsP w N f e w' := by
  have HO := hide hO
  have HI := hide hI
  have HG := hide hG
  have HN := hide hN
  clear hO hI hG
  have m34 : ∀ W, (Instr.makeSlice 28 (.int .i64 (N : Int)) (.int .i64 (N : Int))).run Tryd.prog W = .ok (.slice (some ⟨W.heap.size, 0, none⟩) N N) (W.alloc (.cells (madeCells #[.int .i64 0] N) 3)) := fun W => make34 W N (by omega)
  go_enter Tryd.func15, Tryd.ntmps15
  go_wp2_with fail
  refine (unhide HO).mono ?_
  rintro e w1 ⟨rfl, hF1⟩
  have hF2 := hF1.alloc (chO x0 N x2)
  have HF2 := hide hF2
  have HC2 := hide (ChC.new w1 x0 N x2)
  have cc := (unhide HC2).cells
  have HF3 := hide (hF2.alloc (.cells (madeCells #[.int .i64 0] N) 3))
  have hF23 := (Fr.refl (fun _ => False) (w1.alloc (chO x0 N x2))).alloc (.cells (madeCells #[.int .i64 0] N) 3)
  have HC3 := hide ((unhide HC2).quiet hF23)
  have HR3 := hide (Row.made (w1.alloc (chO x0 N x2)) #[.int .i64 0] N 3)
  have hz0 := hF1.size
  clear hF1 HO hF2 hF23 cc
  have HSz : Hid (w.heap.size ≤ w1.heap.size + 1 ∧ w1.heap.size + 1 < ((w1.alloc (chO x0 N x2)).alloc (.cells (madeCells #[.int .i64 0] N) 3)).heap.size ∧ w1.heap.size ≠ w1.heap.size + 1) := hide (by simp; omega)
  have HR4 : Hid (Row ((w1.alloc (chO x0 N x2)).alloc (.cells (madeCells #[.int .i64 0] N) 3)) (w1.heap.size + 1) N (fun j => .int .i64 (if j < 0 then f j else 0))) := hide (by
    have e : (w1.alloc (chO x0 N x2)).heap.size = w1.heap.size + 1 := by simp
    have := unhide HR3
    rw [e] at this
    exact this.ext fun j hj => by simp [Nat.mod_one])
  clear hz0 HR3 HC2 HF2
  have cc := ((ChC.new w1 x0 N x2)).cells
  go_wp2
  clear cc m34
  generalize ((w1.alloc (Obj.cells #[Value.int IntKind.i64 x0, Value.int IntKind.i64 ↑N, Value.int IntKind.i64 x2] 56)).alloc (Obj.cells (madeCells #[Value.int IntKind.i64 0] N) 3)) = W3 at *
  generalize w1.heap.size + 1 = M at *
  generalize w1.heap.size = M1 at *
  go_loopw [16] (fun i wr => ∃ k : Nat, k ≤ N ∧ i = .int .i64 k ∧ Hid (Row wr M N (fun j => .int .i64 (if j < k then f j else 0)) ∧ ChC wr M1 x0 N x2 ∧ Fr (fun _ => False) w wr ∧ M < wr.heap.size)) (fun i _ => N - (intOf i).toNat)
  case atStart => exact ⟨0, Nat.zero_le _, rfl, hide ⟨unhide HR4, unhide HC3, unhide HF3, (unhide HSz).2.1⟩⟩
  case round =>
    obtain ⟨k, hk, rfl, hK⟩ := hrel
    clear HR4 HC3 HF3
    by_cases hlt : k < N
    · have HI1 := hide (unhide HI k wr hlt)
      have cc := (unhide hK).2.1.cells
      have hlt' : (k : Int) < N := by omega
      go_wp2_with fail
      refine (unhide HI1).mono ?_
      rintro e w3 ⟨rfl, hF3⟩
      have HK3 := hide (And.intro ((unhide hK).1.fr hF3 id) (And.intro ((unhide hK).2.1.quiet hF3) (And.intro ((unhide hK).2.2.1.trans hF3) (Nat.lt_of_lt_of_le (unhide hK).2.2.2 hF3.size))))
      have HG1 := hide (unhide HG k w3 hlt (unhide HK3).2.2.1)
      clear hF3 HI1 cc hK
      go_wp2_with fail
      refine (unhide HG1).mono ?_
      rintro e w4 ⟨rfl, hF4⟩
      have HK4 := hide (And.intro ((unhide HK3).1.fr hF4 id) (And.intro ((unhide HK3).2.1.quiet hF4) (And.intro ((unhide HK3).2.2.1.trans hF4) (Nat.lt_of_lt_of_le (unhide HK3).2.2.2 hF4.size))))
      have c4 := ((unhide HK4).1 k hlt).2
      have d4 := ((unhide HK4).1 k hlt).1
      have HK5 : Hid (Row (w4.setCell ⟨M, k, none⟩ (.int .i64 (f k))) M N (fun j => .int .i64 (if j < k + 1 then f j else 0)) ∧ ChC (w4.setCell ⟨M, k, none⟩ (.int .i64 (f k))) M1 x0 N x2 ∧ Fr (fun _ => False) w (w4.setCell ⟨M, k, none⟩ (.int .i64 (f k))) ∧ M < (w4.setCell ⟨M, k, none⟩ (.int .i64 (f k))).heap.size) := hide (by
        obtain ⟨r1, r2, r3, r4⟩ := unhide HK4
        refine ⟨(r1.set k _ hlt).ext fun j hj => ?_, ?_, r3.setNew (unhide HSz).1 _, by simpa [World.setCell] using r4⟩
        · by_cases e : j = k
          · subst e; rw [upd_same, if_pos (by omega)]
          · rw [upd_ne _ _ e]
            by_cases e2 : j < k
            · rw [if_pos e2, if_pos (by omega)]
            · rw [if_neg e2, if_neg (by omega)]
        · exact Row.fr r2 ((Fr.refl (· = M) w4).setCell (p := ⟨M, k, none⟩) rfl _) (unhide HSz).2.2)
      clear hF4 HG1 HK3 HK4
      generalize f k = fk at *
      go_wp2
      go_roundw
      case rel => exact ⟨k + 1, by omega, by go_num, HK5⟩
      case measure => simp [intOf]; omega
    · have hge : ¬ (k : Int) < N := by omega
      have hge2 : decide ((k : Int) < N) = false := decide_eq_false hge
      obtain rfl : k = N := by omega
      clear hlt
      have HE : Hid (ItsP w k f (.returned (.slice (some ⟨M, 0, none⟩) k k)) wr) := hide (by
        obtain ⟨r1, r2, r3, r4⟩ := unhide hK
        exact ⟨M, rfl, (unhide HSz).1, r4, r1.ext fun j hj => by rw [if_pos hj], r3⟩)
      go_wp2
      go_ret
      exact unhide HE
theorem Items_ch (h : Sp w B n p A wd hv held cnt) (hc : ChAt A wd a P r cl b l) :
    Calls Tryd.prog 15 #[.pointer (some ⟨p, 0, none⟩), .int .i64 a] w fun e w' => ItsP w l.length (fun j => l.getD j 0) e w' := by
  have hcn := hc.cnt
  have hle := hc.le
  refine Items_gen l.length b P _ (fun k => ((4 + (b + k) % P : Nat) : Int)) w (by omega) (open_ch h hc) (fun k W hk => ?_) (fun k W hk hF => Get_at h a _ _ (hc.getIt hk) W hF)
  have hb := hc.bl (by omega)
  exact item_any b l.length k P W (by omega) (by omega) (by omega) (by omega)
theorem Items_nil (h : Sp w B n p A wd hv held cnt) :
    Calls Tryd.prog 15 #[.pointer (some ⟨p, 0, none⟩), .int .i64 0] w fun e w' => ItsP w 0 (fun _ => 0) e w' :=
  Items_gen 0 0 0 _ (fun _ => 0) w (by omega) (open_nil h) (fun k W hk => by omega) (fun k W hk hF => by omega)
set_option maxRecDepth 100000 in
set_option maxHeartbeats 4000000 in
theorem New_bad (z : Int) (hz : z < 0 ∨ (0 ≤ z ∧ 1024 < z)) (r : Bool) (w : World) (s : Value) :
    Calls Tryd.prog 10 #[s, .int .i64 z, .bool r] w fun e w' => e = .returned (.tuple #[.int .i64 0, .bool false]) ∧ Fr (fun _ => False) w w' := by
  have HF := hide (Fr.refl (fun _ => False) w)
  rcases hz with h1 | ⟨h1, h2⟩
  all_goals
    go_enter Tryd.func10, Tryd.ntmps10
    go_wp2
    go_ret2
    exact ⟨rfl, unhide HF⟩
/-- A new channel, where there is room. -/
structure NewC (n : Nat) (A : Nat → Kd) (wd : Nat → Int) (P : Nat) (r : Bool) (a : Nat) (A' : Nat → Kd) (wd' : Nat → Int) : Prop where
  go : Goes n A (5 + P) a A'
  ch : ChAt A' wd' a P r 0 0 []
  olds : Olds (fun _ => False) A wd A' wd'
  nb : roomN A a = 0
set_option maxRecDepth 100000 in
set_option maxHeartbeats 4000000 in
theorem New_ok (h : Sp w B n p A wd hv held cnt) (hc : cnt < 90000) (P : Nat) (hP : P ≤ 1024) (r : Bool) (hp : ¬ NoPlace n A (5 + P)) :
    Calls Tryd.prog 10 #[.pointer (some ⟨p, 0, none⟩), .int .i64 P, .bool r] w fun e w' => ∃ (a : Nat) (A' : Nat → Kd) (wd' : Nat → Int), e = .returned (.tuple #[.int .i64 (a : Int), .bool true]) ∧ NewC n A wd P r a A' wd' ∧ Sp w' B n p A' wd' hv held cnt ∧ To B p w hv w' hv := by
  have hR := ch_right hP r
  have e5 : 1 + (4 + (P : Int)).toNat = 5 + P := by omega
  have HM : Hid (Calls Tryd.prog 19 #[.pointer (some ⟨p, 0, none⟩), .int .i64 (chK r), .int .i64 (4 + (P : Int)), .int .i64 (chM r)] w fun e w' => ∃ (a : Nat) (A' : Nat → Kd), e = .returned (.tuple #[.int .i64 (a : Int), .bool true]) ∧ Goes n A (5 + P) a A' ∧ Sp w' B n p A' (newW wd a (5 + P) (hdr (chK r) (4 + (P : Int)) (chM r))) hv held cnt ∧ To B p w hv w' hv) := hide (by
    refine (MakeV h (by omega) hR).mono ?_
    rintro e w' ⟨A1, wd1, cnt1, hm, hs, ht⟩
    cases hm with
    | no he hm hcn =>
      obtain ⟨_, ea, _⟩ := mks_to hm hR (by rw [e5]; exact hp)
      cases (tup_inj ea).2
    | yes x he hm hr hsz hcn =>
      obtain ⟨x', ea, g, rfl, rfl⟩ := mks_to hm hR (by rw [e5]; exact hp)
      obtain rfl : x = x' := by have := (tup_inj ea).1; omega
      rw [e5] at g hs
      exact ⟨x, A1, he, g, hs, ht⟩)
  have HI := hide h.inv
  have HS : Hid (∀ W (a : Nat) A', Goes n A (5 + P) a A' → Sp W B n p A' (newW wd a (5 + P) (hdr (chK r) (4 + (P : Int)) (chM r))) hv held cnt → Calls Tryd.prog 24 #[.pointer (some ⟨p, 0, none⟩), .int .i64 a, .int .i64 3, .int .i64 P] W fun e w' => e = .returned (.bool true) ∧ Sp w' B n p A' (nwW wd a P r) hv held cnt ∧ To B p W hv w' hv ∧ NewC n A wd P r a A' (nwW wd a P r)) := hide fun W a A' g hs => by
    have hrm := newW_room (unhide HI) g (by omega)
    refine (SetS hs 3 _ 3 rfl hrm.1 (by rw [newW_at, (ch_hdr hP r).2.2.1]; omega)).mono ?_
    rintro e w' ⟨rfl, hs, ht⟩
    exact ⟨rfl, hs, ht, g, ch_new hP r (unhide HI) g wd, ch_new_olds _ r (unhide HI) hs.inv g wd, (room_goes (unhide HI) g).1⟩
  have h1 : (0 : Int) ≤ P := by omega
  have h2 : (P : Int) ≤ 1024 := by omega
  have h3 : 4 + (P : Int) < 9223372036854775808 := by omega
  have h4 : -9223372036854775808 ≤ 4 + (P : Int) := by omega
  clear h hp hR e5
  generalize (P : Int) = x at *
  cases r
  all_goals
    simp only [chK, chM, if_true, Bool.false_eq_true, if_false] at HM
    go_enter Tryd.func10, Tryd.ntmps10
    go_wp2_with fail
    refine (unhide HM).mono ?_
    rintro e w1 ⟨a, A1, rfl, g, hs1, ht1⟩
    have HT1 := hide ht1
    have HS1 := hide (unhide HS _ _ _ g (by simpa only [chK, chM, if_true, Bool.false_eq_true, if_false] using hs1))
    clear g hs1 ht1 HM HS
    go_wp2_with fail
    refine (unhide HS1).mono ?_
    rintro e w2 ⟨rfl, hs2, ht2, hn2⟩
    have HE := hide (And.intro hn2 (And.intro hs2 ((unhide HT1).trans ht2)))
    clear hs2 ht2 hn2 HS1
    go_wp2
    go_ret2
    exact ⟨a, A1, _, rfl, unhide HE⟩
end Go.Proofs.YtogjblikljggbaaDoor
