/- Kd1 Mk1 Mk2, in one text. -/
import Derived.Test.YtjblmincldaklaaDoorMb
import Derived.Test.YtjblmincldaklaaDoorMd
import Derived.Laws.Small
import Derived.Maps.OwnSet
import Derived.Maps.AppendAt
import Derived.Deep.AppendLies
import Derived.Deep.LoopGhost
namespace Go.Proofs.YtjblmincldaklaaDoor
open Go.RowKit Go.Proofs.YtjblmincldaklaaDoor.Hp
theorem isRef_any (B : HB) (n : Nat) (A : Nat → Kd) (wd : Nat → Int) (x : Int) (w : World) (h : At w B n (hrOf A wd)) (hI : Inv n A) :
    Calls Tryd.prog 60 #[B.ptr, .int .i64 x] w fun e w' => e = .returned (.bool (refB A x)) ∧ Fr (fun _ => False) w w' := by
  have HC : Hid (Calls Tryd.prog 44 #[.pointer (some ⟨B.p, 0, none⟩), .int .i64 x] w fun e w' => e = .returned (.int .i64 (roomI A x)) ∧ Fr (fun _ => False) w w') := hide (by
    have := Room_any B n (hrOf A wd) x w h (fine_of wd hI)
    rw [roomR_I wd hI] at this
    exact this)
  have HE : Hid (decide (0 < roomI A x) = refB A x) := hide (by
    unfold refB
    by_cases e : roomI A x = 0
    · simp [e]
    · have : 0 < roomI A x := by omega
      simp [e, this])
  clear h hI
  generalize refB A x = b at *
  generalize roomI A x = r at *
  unfold HB.ptr
  go_enter Tryd.func60, Tryd.ntmps60
  go_wp2_with fail
  refine (unhide HC).mono ?_
  rintro e w1 ⟨rfl, hF⟩
  have HF := hide hF
  clear hF HC
  go_wp2
  go_ret
  exact ⟨ret_bool (unhide HE), unhide HF⟩
def KidsP (w0 : World) (ys : List Int) (e : Ending) (w' : World) : Prop := ∃ ao cp, e = .returned (.slice ao ys.length cp) ∧ w'.ownsRow w0.heap.size 3 1 (.slice ao ys.length cp) ys.length (ys.map (Value.int .i64)) ∧ Fr (fun _ => False) w0 w'
theorem KidsP.nothing {w0 w' : World} (h : Fr (fun _ => False) w0 w') : KidsP w0 [] (.returned (.slice none 0 0)) w' :=
  ⟨none, 0, rfl, by have := World.ownsRow_nil w' w0.heap.size 3 1; exact this, h⟩
set_option maxHeartbeats 1000000 in
theorem Children_no (B : HB) (z h : Int) (w : World) (hh : ¬ IsH h)
    (HL : Hid (Calls Tryd.prog 30 #[.pointer (some ⟨B.p, 0, none⟩), .int .i64 z, .int .i64 0] w fun e w' => (∃ b, e = .returned (.tuple #[.int .i64 h, .bool b])) ∧ Fr (fun _ => False) w w')) :
    Calls Tryd.prog 61 #[B.ptr, .int .i64 z] w fun e w' => KidsP w [] e w' := by
  have HO := hide (fun w' => Open_no h w' hh)
  clear hh
  unfold HB.ptr
  go_enter Tryd.func61, Tryd.ntmps61
  go_wp2_with fail
  refine (unhide HL).mono ?_
  rintro e w1 ⟨⟨b, rfl⟩, hF⟩
  have HF := hide hF
  clear hF HL
  go_wp2_with (first | (go_at_call 35; refine (unhide HO _).mono ?_; rintro e w' ⟨rfl, rfl⟩))
  go_ret
  exact KidsP.nothing (unhide HF)
set_option maxRecDepth 100000 in
set_option maxHeartbeats 2000000 in
theorem Children_yes (B : HB) (n : Nat) (A : Nat → Kd) (wd : Nat → Int) (x r m : Nat) (w : World) (h : At w B n (hrOf A wd)) (hI : Inv n A) (hr : roomN A x = r) (hr0 : r ≠ 0) (hh : IsH (wd x)) (hm : m = min (hS (wd x)).toNat (r - 1)) :
    Calls Tryd.prog 61 #[B.ptr, .int .i64 x] w fun e w' => KidsP w (kidsTo A wd x m) e w' := by
  have hr1 : r ≤ 20000 := by
    have f := fine_of wd hI (x / 64)
    have := room_in hI (x := x) (by omega)
    have h2 := f (by omega)
    rw [← hr]
    have e : roomN A x ≤ rmK (A (x / 64)) := by
      unfold roomN
      cases A (x / 64) <;> simp only [roomK, rmK]
      · exact Nat.le_refl _
      · exact Nat.le_refl _
      · split
        · exact Nat.le_refl _
        · exact Nat.zero_le _
      · split
        · exact Nat.le_refl _
        · exact Nat.zero_le _
    have : rmK (A (x / 64)) ≤ 20000 := h2.2.1
    omega
  have hx1 : x < 2000000 := by
    have := room_in hI (x := x) (by omega)
    have := h.hi
    omega
  have hL0 : Hid (Calls Tryd.prog 30 #[.pointer (some ⟨B.p, 0, none⟩), .int .i64 x, .int .i64 0] w fun e w' => e = .returned (.tuple #[.int .i64 (wd x), .bool true]) ∧ Fr (fun _ => False) w w') := hide (Load_in B n A wd x r 0 w h hI hr (by omega))
  have HLd : Hid (∀ k w', k < m → Fr (fun _ => False) w w' → Calls Tryd.prog 30 #[.pointer (some ⟨B.p, 0, none⟩), .int .i64 x, .int .i64 ((k : Int) + 1)] w' fun e w'' => e = .returned (.tuple #[.int .i64 (wd (x + (k + 1))), .bool true]) ∧ Fr (fun _ => False) w' w'') := hide fun k w' hk hF => by
    have := Load_in B n A wd x r (k + 1) w' (h.quiet hF) hI hr (by omega)
    rw [show ((k + 1 : Nat) : Int) = (k : Int) + 1 by omega] at this
    exact this
  have HRm : Hid (∀ w', Fr (fun _ => False) w w' → Calls Tryd.prog 44 #[.pointer (some ⟨B.p, 0, none⟩), .int .i64 x] w' fun e w'' => e = .returned (.int .i64 r) ∧ Fr (fun _ => False) w' w'') := hide fun w' hF => by
    have := Room_in B n A wd x w' (h.quiet hF) hI
    rw [hr] at this
    exact this
  have HRf : Hid (∀ v w', Fr (fun _ => False) w w' → Calls Tryd.prog 60 #[.pointer (some ⟨B.p, 0, none⟩), .int .i64 v] w' fun e w'' => e = .returned (.bool (refB A v)) ∧ Fr (fun _ => False) w' w'') := hide fun v w' hF => isRef_any B n A wd v w' (h.quiet hF) hI
  have hmk : 0 ≤ hM (wd x) ∧ hM (wd x) ≤ 65535 ∧ 0 ≤ hS (wd x) ∧ hS (wd x) ≤ 16447 := by unfold IsH at hh; unfold hM hS; omega
  have HT : Hid (∀ (k : Nat) w', Calls Tryd.prog 72 #[.int .i64 (hK (wd x)), .int .i64 (hM (wd x)), .int .i64 k] w' fun e w'' => e = .returned (.bool (tellsB (hK (wd x)) (hM (wd x)) k)) ∧ w'' = w') := hide fun k w' => tells_any _ _ k w' hmk.1 hmk.2.1
  have HO : Hid (∀ w', Calls Tryd.prog 35 #[.int .i64 (wd x)] w' fun e w'' => e = .returned (.tuple #[.int .i64 (hK (wd x)), .int .i64 (hS (wd x)), .int .i64 (hM (wd x)), .bool true]) ∧ w'' = w') := hide fun w' => Open_yes _ w' hh
  have hmn : (if (r : Int) - 1 < hS (wd x) then (r : Int) - 1 else hS (wd x)) = (m : Int) := by
    split <;> omega
  have hml : m ≤ 20000 := by omega
  have hks : Hid (∀ k, k < m → kidsTo A wd x (k + 1) = kidsTo A wd x k ++ (if tellsB (hK (wd x)) (hM (wd x)) k && refB A (wd (x + (k + 1))) then [wd (x + (k + 1))] else [])) := hide fun k _ => rfl
  have hk0 : Hid (kidsTo A wd x 0 = []) := hide rfl
  have hkl : Hid (∀ k, (kidsTo A wd x k).length ≤ k) := hide (kidsTo_len A wd x)
  obtain ⟨base, hb⟩ : ∃ base, base = w.heap.size := ⟨_, rfl⟩
  have HBs : Hid (base = w.heap.size) := hide hb
  have HP : Hid (∀ ao c cp w', c = (kidsTo A wd x m).length → w'.ownsRow base 3 1 (.slice ao c cp) c ((kidsTo A wd x m).map (Value.int .i64)) → Fr (fun _ => False) w w' → KidsP w (kidsTo A wd x m) (.returned (.slice ao c cp)) w') := hide fun ao c cp w' e o q => by subst e; exact ⟨ao, cp, rfl, by rw [← hb]; exact o, q⟩
  clear h hI hr hh hm hb
  have h31 := hmk.2.2.1
  have h32 := hmk.2.2.2
  clear hmk
  generalize hK (wd x) = kd at *
  generalize hM (wd x) = mk at *
  generalize hS (wd x) = sz at *
  generalize wd x = hv at *
  generalize kidsTo A wd x = KS at *
  obtain ⟨i0, hi, hz0, hz1, hz2⟩ := info_parts Tryd.info3
  unfold HB.ptr
  go_enter Tryd.func61, Tryd.ntmps61
  go_wp2_with fail
  refine (unhide hL0).mono ?_
  rintro e w1 ⟨rfl, hF1⟩
  have HF1 := hide hF1
  clear hF1 hL0
  go_wp2_with (first | (go_at_call 35; refine (unhide HO _).mono ?_; rintro e w' ⟨rfl, rfl⟩) | (go_at_call 44; refine (unhide HRm _ (unhide HF1)).mono ?_; rintro e w2 ⟨rfl, hF2⟩))
  have HF2 := hide ((unhide HF1).trans hF2)
  clear hF2 HF1
  try go_wp2
  go_loopw [11, 36] (fun v i wr => ∃ k : Nat, k ≤ m ∧ i = .int .i64 k ∧ ∃ c ao cp, v = .slice ao c cp ∧ c ≤ 20000 ∧ Hid (c = (KS k).length) ∧ Hid (wr.ownsRow base 3 1 (.slice ao c cp) c ((KS k).map (Value.int .i64))) ∧ Hid (Fr (fun _ => False) w wr)) (fun _ i _ => m - (intOf i).toNat)
  case atStart => exact ⟨0, by omega, rfl, 0, none, 0, rfl, by omega, hide (by rw [unhide hk0]; rfl), hide (by have := World.ownsRow_nil w2 base 3 1; rw [unhide hk0]; exact this), HF2⟩
  case round =>
    obtain ⟨k, hk, rfl, c0, ao, cp, rfl, hcl, hc0, hO, hF⟩ := hrel
    by_cases hlt : k < m
    · have HL := hide (unhide HLd k wr hlt (unhide hF))
      go_wp2_with fail
      refine (unhide HL).mono ?_
      rintro e w3 ⟨rfl, hF3⟩
      have HF3 := hide ((unhide hF).trans hF3)
      have HO3 := hide (own_fr (unhide hO) hF3 (fun _ x => x.elim))
      clear hO hF HL hF3
      have HRv := hide (unhide HRf (wd (x + (k + 1))) w3 (unhide HF3))
      have HTk := hide (unhide HT k)
      have hst := unhide hks k hlt
      have hbw : base ≤ w3.heap.size := by have := (unhide HF3).size; have := unhide HBs; omega
      have hcl2 : c0 ≤ k := by have := unhide hkl k; have := unhide hc0; omega
      generalize wd (x + (k + 1)) = v at *
      cases ht : tellsB kd mk k with
      | false =>
        rw [ht] at hst HTk
        have HST : Hid (KS (k + 1) = KS k) := hide (by rw [hst]; simp)
        clear hst ht
        go_wp2_with (first | (go_at_call 72; refine (unhide HTk _).mono ?_; rintro e w' ⟨rfl, rfl⟩))
        go_roundw
        case rel => exact ⟨k + 1, by omega, by go_num, c0, ao, cp, rfl, hcl, by rw [unhide HST]; exact hc0, by rw [unhide HST]; exact HO3, HF3⟩
        case measure => simp [intOf]; omega
      | true =>
        rw [ht] at hst HTk
        cases hb : refB A v with
        | false =>
          rw [hb] at hst HRv
          have HST : Hid (KS (k + 1) = KS k) := hide (by rw [hst]; simp)
          clear hst ht hb
          go_wp2_with (first | (go_at_call 72; refine (unhide HTk _).mono ?_; rintro e w' ⟨rfl, rfl⟩) | (go_at_call 60; refine (unhide HRv).mono ?_; rintro e w4 ⟨rfl, hF4⟩))
          have HF4 := hide ((unhide HF3).trans hF4)
          have HO4 := hide (own_fr (unhide HO3) hF4 (fun _ x => x.elim))
          clear hF4
          try go_wp2
          go_roundw
          case rel => exact ⟨k + 1, by omega, by go_num, c0, ao, cp, rfl, hcl, by rw [unhide HST]; exact hc0, by rw [unhide HST]; exact HO4, HF4⟩
          case measure => simp [intOf]; omega
        | true =>
          rw [hb] at hst HRv
          have HST : Hid (KS (k + 1) = KS k ++ [v]) := hide (by rw [hst]; simp)
          clear hst ht hb
          go_wp2_with (first | (go_at_call 72; refine (unhide HTk _).mono ?_; rintro e w' ⟨rfl, rfl⟩) | (go_at_call 60; refine (unhide HRv).mono ?_; rintro e w4 ⟨rfl, hF4⟩; have hbw4 : base ≤ w4.heap.size := Nat.le_trans hbw hF4.size; have HF4 := hide ((unhide HF3).trans hF4); have HO4 := hide (own_fr (unhide HO3) hF4 (fun _ x => x.elim)); clear hF4) | (at_builtin; refine wpList_append_own _ rfl _ _ 31 rfl base 3 i0 (.int .i64 0) 1 8 Tryd.underlying31 hi hz0 hz1 hz2 rfl (by decide) _ _ _ rfl ((unhide HO4).alloc _) ⟨w4.heap.size, 0, none⟩ 1 1 [.int .i64 v] rfl rfl ?c1 ?c2 ?c3 ?c4 ?c5 ?_))
          case c1 =>
            intro j u hj
            match j, hj with
            | 0, hj => simp at hj; subst hj; simp [Addr.add]
          case c2 => intro u hu; simp at hu; subst hu; rfl
          case c3 => unfold maxLen; omega
          case c4 => omega
          case c5 => simp; omega
          · intro v' w5 hown' hgrow _
            obtain ⟨ao', cp', hv', _⟩ := own_form hown'
            subst hv'
            have hlo : ∀ j, some j = (Value.slice ao c0 cp).ownBlock → base ≤ j := fun j e => ((unhide HO4).lt j e.symm).1
            have HF5 : Hid (Fr (fun _ => False) w w5) := hide (((unhide HF4).alloc _).up (Fr.grown hgrow) (fun j e => by have := hlo j e; have := unhide HBs; omega))
            have HO5 : Hid (w5.ownsRow base 3 1 (.slice ao' (c0 + 1) cp') (c0 + 1) ((KS (k + 1)).map (Value.int .i64))) := hide (by rw [unhide HST, List.map_append]; exact hown')
            clear hown' hgrow hlo
            go_wp2
            go_roundw
            case rel => exact ⟨k + 1, by omega, by go_num, c0 + 1, ao', cp', rfl, by omega, hide (by rw [unhide HST, List.length_append, ← unhide hc0]; rfl), HO5, HF5⟩
            case measure => simp [intOf]; omega
    · have e : k = m := by omega
      subst e
      go_wp2
      go_ret
      exact unhide HP _ _ _ _ (unhide hc0) (unhide hO) (unhide hF)
theorem Children_any (B : HB) (n : Nat) (A : Nat → Kd) (wd : Nat → Int) (z : Int) (w : World) (h : At w B n (hrOf A wd)) (hI : Inv n A) : Calls Tryd.prog 61 #[B.ptr, .int .i64 z] w fun e w' => KidsP w (kids A wd z) e w' := by
  unfold kids
  by_cases h0 : roomI A z = 0
  · rw [if_neg (fun x => x.1 h0)]
    refine Children_no B z 0 w (by decide) (hide ?_)
    refine (Load_any B n (hrOf A wd) z 0 w h (fine_of wd hI) (fits_of wd hI)).mono ?_
    rintro e w' ⟨rfl, hF⟩
    refine ⟨⟨false, ?_⟩, hF⟩
    unfold loadV
    rw [if_neg (by unfold inB; rw [roomR_I wd hI, h0]; decide)]
  · obtain ⟨x, rfl, hx, _⟩ := ref_nat hI (refB_iff.2 h0)
    have e : roomI A (x : Int) = roomN A x := by unfold roomI; rw [if_pos (by omega), Int.toNat_natCast]
    rw [Int.toNat_natCast]
    by_cases h1 : IsH (wd x)
    · rw [if_pos ⟨h0, h1⟩, e]
      exact Children_yes B n A wd x (roomN A x) _ w h hI rfl hx h1 rfl
    · rw [if_neg (fun y => h1 y.2)]
      exact Children_no B x (wd x) w h1 (hide ((Load_in B n A wd x (roomN A x) 0 w h hI rfl (by omega)).mono fun e w' y => ⟨⟨true, y.1⟩, y.2⟩))
end Go.Proofs.YtjblmincldaklaaDoor
namespace Go.Proofs.YtjblmincldaklaaDoor
open Go.RowKit Go.Proofs.YtjblmincldaklaaDoor.Hp Go.Maps
theorem law3 : Keyed Tryd.prog 3 := int_keyed Tryd.underlying3
theorem zero73 (w : World) : (zeroValue 86).run Tryd.prog w = .ok (.agg #[]) w := by kernel_rfl
def setD (ks : List Int) : DataW Unit := setOf (.agg []) (ks.map (Lit.int .i64))
theorem any_int (x : Int) : ∀ l : List Int, l.any ((fun y : Lit => y.sameKey (.int .i64 x)) ∘ Lit.int .i64) = l.contains x
  | [] => rfl
  | a :: r => by
    rw [List.any_cons, List.contains_cons, any_int x r]
    congr 1
    show decide (IntKind.i64 = IntKind.i64 ∧ a = x) = (x == a)
    by_cases e : a = x
    · subst e; simp
    · have e' : ¬ x = a := fun h => e h.symm
      simp [e, e']
theorem has_setD (ks : List Int) (x : Int) : Maps.has (setD ks) (.int .i64 x) = ks.contains x := by
  unfold setD
  rw [has_setOf _ _ _ (fun y hy => by obtain ⟨_, _, rfl⟩ := List.mem_map.1 hy; trivial), List.any_map]
  exact any_int x _
theorem setD_snoc (ks : List Int) (x : Int) : setD (ks ++ [x]) = (setD ks).put (.int .i64 x) (.agg []) := by
  unfold setD
  rw [List.map_append, List.map_singleton, setOf_snoc]
theorem wf_i64 {x : Int} (h : -9223372036854775808 ≤ x ∧ x < 9223372036854775808) : (Lit.int .i64 x).wf = true := WalkArith.wf_i64 (by omega)
/-- What mark and meet hold: the box of the heap at s, the set at s + 1, its variable at s + 2, the waiting ones' at s + 3. -/
structure Mt (s : Nat) (w : World) (B : HB) (n : Nat) (A : Nat → Kd) (wd : Nat → Int) (ks wt : List Int) (v : Value) : Prop where
  at_ : At w B n (hrOf A wd)
  mem : ∀ k, B.mem k → k < s
  ch : w.cell? ⟨s, 0, none⟩ = some B.ptr
  cr : w.cell? ⟨s + 2, 0, none⟩ = some (.map (some (s + 1)))
  ct : w.cell? ⟨s + 3, 0, none⟩ = some v
  ft : w.frozen? ⟨s + 3, 0, none⟩ = false
  own : w.ownsRow (s + 4) 3 1 v wt.length (wt.map (Value.int .i64))
  map : w.ownsMap Tryd.prog 3 (unitElem (H := Unit)) (s + 1) ks.length (setD ks)
  sz : s + 4 ≤ w.heap.size
theorem map_fr {w w' : World} {K : Nat → Prop} {b m : Nat} {D : DataW Unit} (h : w.ownsMap Tryd.prog 3 (unitElem (H := Unit)) b m D) (k : Fr K w w') (hb : ¬ K b) : w'.ownsMap Tryd.prog 3 (unitElem (H := Unit)) b m D := by
  obtain ⟨es, clock, hb1, r⟩ := h
  exact ⟨es, clock, (k.block b (Array.getElem?_eq_some_iff.1 hb1).1 hb).trans hb1, r⟩
theorem Mt.quiet {s : Nat} {w w' : World} {B : HB} {n : Nat} {A : Nat → Kd} {wd : Nat → Int} {ks wt : List Int} {v : Value} (h : Mt s w B n A wd ks wt v) (k : Fr (fun _ => False) w w') : Mt s w' B n A wd ks wt v := by
  have hs := h.sz
  refine ⟨h.at_.quiet k, h.mem, ?_, ?_, ?_, ?_, own_fr h.own k (fun _ x => x.elim), map_fr h.map k id, Nat.le_trans h.sz k.size⟩
  · exact (World.cell?_of_block (w := w) (a := ⟨s, 0, none⟩) (k.block s (by omega) id)).trans h.ch
  · exact (World.cell?_of_block (w := w) (a := ⟨s + 2, 0, none⟩) (k.block (s + 2) (by omega) id)).trans h.cr
  · exact (World.cell?_of_block (w := w) (a := ⟨s + 3, 0, none⟩) (k.block (s + 3) (by omega) id)).trans h.ct
  · exact (World.frozen?_of_block (w := w) (a := ⟨s + 3, 0, none⟩) (k.block (s + 3) (by omega) id)).trans h.ft
/-- Behind a store into the set. -/
theorem Mt.put {s : Nat} {w w' : World} {B : HB} {n : Nat} {A : Nat → Kd} {wd : Nat → Int} {ks wt : List Int} {v : Value} (h : Mt s w B n A wd ks wt v) {z : Int} (hm : w'.ownsMap Tryd.prog 3 (unitElem (H := Unit)) (s + 1) (ks.length + 1) ((setD ks).put (.int .i64 z) (.agg []))) (hg : w.grownBy w' (some (s + 1))) :
    Mt s w' B n A wd (ks ++ [z]) wt v := by
  have hs := h.sz
  have k : Fr (fun j => some j = some (s + 1)) w w' := Fr.grown hg
  have hn : ∀ j, j ≠ s + 1 → ¬ (some j = some (s + 1)) := fun j hj e => hj (by cases e; rfl)
  refine ⟨h.at_.fr' k (fun b hb => hn b (by have := h.mem b hb; omega)), h.mem, ?_, ?_, ?_, ?_, own_fr h.own k (fun j e => by cases e; omega), by rw [setD_snoc, List.length_append]; exact hm, Nat.le_trans h.sz k.size⟩
  · exact (World.cell?_of_block (w := w) (a := ⟨s, 0, none⟩) (k.block s (by omega) (hn _ (by omega)))).trans h.ch
  · exact (World.cell?_of_block (w := w) (a := ⟨s + 2, 0, none⟩) (k.block (s + 2) (by omega) (hn _ (by omega)))).trans h.cr
  · exact (World.cell?_of_block (w := w) (a := ⟨s + 3, 0, none⟩) (k.block (s + 3) (by omega) (hn _ (by omega)))).trans h.ct
  · exact (World.frozen?_of_block (w := w) (a := ⟨s + 3, 0, none⟩) (k.block (s + 3) (by omega) (hn _ (by omega)))).trans h.ft
/-- Behind an append to the waiting ones. -/
theorem Mt.push {s : Nat} {w w1 : World} {B : HB} {n : Nat} {A : Nat → Kd} {wd : Nat → Int} {ks wt : List Int} {v v' : Value} (h : Mt s w B n A wd ks wt v) {z : Int} (o : Obj)
    (ho : w1.ownsRow (s + 4) 3 1 v' (wt.length + 1) (wt.map (Value.int .i64) ++ [.int .i64 z])) (hg : (w.alloc o).grownBy w1 v.ownBlock) :
    w1.cell? ⟨s + 3, 0, none⟩ = some v ∧ w1.frozen? ⟨s + 3, 0, none⟩ = false ∧ Mt s (w1.setCell ⟨s + 3, 0, none⟩ v') B n A wd ks (wt ++ [z]) v' := by
  have hs := h.sz
  have k : Fr (fun j => some j = v.ownBlock) w w1 := ((Fr.refl _ w).alloc o).trans (Fr.grown hg)
  have hn : ∀ j, j < s + 4 → ¬ (some j = v.ownBlock) := fun j hj e => by have := (h.own.lt j e.symm).1; omega
  have c3 : w1.cell? ⟨s + 3, 0, none⟩ = some v := (World.cell?_of_block (w := w) (a := ⟨s + 3, 0, none⟩) (k.block (s + 3) (by omega) (hn _ (by omega)))).trans h.ct
  have f3 : w1.frozen? ⟨s + 3, 0, none⟩ = false := (World.frozen?_of_block (w := w) (a := ⟨s + 3, 0, none⟩) (k.block (s + 3) (by omega) (hn _ (by omega)))).trans h.ft
  have k2 : Fr (fun j => j = s + 3) w1 (w1.setCell ⟨s + 3, 0, none⟩ v') := (Fr.refl (fun j => j = s + 3) w1).setCell (p := ⟨s + 3, 0, none⟩) rfl _
  refine ⟨c3, f3, (h.at_.fr' k (fun b hb => hn b (by have := h.mem b hb; omega))).fr' k2 (fun b hb e => by have := h.mem b hb; omega), h.mem, ?_, ?_, ?_, ?_, ?_, ?_, ?_⟩
  · exact (World.cell?_of_block (w := w1) (a := ⟨s, 0, none⟩) (k2.block s (Nat.lt_of_lt_of_le (by omega) k.size) (by omega))).trans ((World.cell?_of_block (w := w) (a := ⟨s, 0, none⟩) (k.block s (by omega) (hn _ (by omega)))).trans h.ch)
  · exact (World.cell?_of_block (w := w1) (a := ⟨s + 2, 0, none⟩) (k2.block (s + 2) (Nat.lt_of_lt_of_le (by omega) k.size) (by omega))).trans ((World.cell?_of_block (w := w) (a := ⟨s + 2, 0, none⟩) (k.block (s + 2) (by omega) (hn _ (by omega)))).trans h.cr)
  · exact World.cell?_setCell_same _ _ _ c3
  · rw [World.frozen?_setCell]; exact f3
  · rw [List.length_append, List.map_append]
    exact own_fr ho k2 (fun j e => by omega)
  · exact map_fr (map_fr h.map k (hn _ (by omega))) k2 (by omega)
  · exact Nat.le_trans (Nat.le_trans h.sz k.size) k2.size
theorem Fr.over {K K' : Nat → Prop} {w0 w w' : World} (h : Fr K w0 w) (k : Fr K' w w') (hk : ∀ b, K' b → b < w0.heap.size → K b) : Fr K w0 w' :=
  ⟨k.os.trans h.os, k.tape.trans h.tape, k.output.trans h.output, Nat.le_trans h.size k.size, fun i hi hn => (k.block i (Nat.lt_of_lt_of_le hi h.size) (fun x => hn (hk i x hi))).trans (h.block i hi hn)⟩
def MeetK (s : Nat) (k : Nat) : Prop := k = s + 1 ∨ s + 3 ≤ k
def MeetP (s : Nat) (w : World) (B : HB) (n : Nat) (A : Nat → Kd) (wd : Nat → Int) (t : List Int × List Int) (e : Ending) (w' : World) : Prop :=
  e = .returned (.tuple #[]) ∧ (∃ v, Mt s w' B n A wd t.1 t.2 v) ∧ Fr (MeetK s) w w'
set_option maxRecDepth 100000 in
set_option maxHeartbeats 4000000 in
theorem meet_any (s : Nat) (w : World) (B : HB) (n : Nat) (A : Nat → Kd) (wd : Nat → Int) (ks wt : List Int) (v0 : Value) (a0 : Option Addr) (cap : Nat) (zs : List Int)
    (h : Mt s w B n A wd ks wt v0) (hI : Inv n A) (hl : ks.length + zs.length ≤ 3000000) (hl2 : wt.length + zs.length ≤ 3000000) (hz : ∀ z ∈ zs, -9223372036854775808 ≤ z ∧ z < 9223372036854775808)
    (hc : ∀ j, j < zs.length → ∃ b off, a0 = some ⟨b, off, none⟩ ∧ b < w.heap.size ∧ b ≠ s + 1 ∧ b ≠ s + 3 ∧ v0.ownBlock ≠ some b ∧ w.cell? ⟨b, off + j, none⟩ = some (.int .i64 (zs.getD j 0))) :
    Calls Tryd.prog 59 #[.slice a0 zs.length cap, .pointer (some ⟨s + 2, 0, none⟩), .pointer (some ⟨s, 0, none⟩), .pointer (some ⟨s + 3, 0, none⟩)] w fun e w' => MeetP s w B n A wd (meetM (refB A) (ks, wt) zs) e w' := by
  obtain ⟨i0, hi, hz0, hz1, hz2⟩ := info_parts Tryd.info3
  obtain ⟨len, hlen⟩ : ∃ len, len = zs.length := ⟨_, rfl⟩
  have hln : len ≤ 3000000 := by omega
  rw [← hlen]
  have HP : Hid (∀ w' v, Mt s w' B n A wd (meetM (refB A) (ks, wt) (zs.take len)).1 (meetM (refB A) (ks, wt) (zs.take len)).2 v → Fr (fun j => j = s + 1 ∨ j = s + 3 ∨ v0.ownBlock = some j) w w' → MeetP s w B n A wd (meetM (refB A) (ks, wt) zs) (.returned (.tuple #[])) w') := hide fun w' v hm hf => by
    rw [hlen, List.take_length] at hm
    refine ⟨rfl, ⟨v, hm⟩, hf.mono fun j hj => ?_⟩
    rcases hj with e | e | e
    · exact .inl e
    · exact .inr (by omega)
    · exact .inr (by have := (h.own.lt j e).1; omega)
  have HI := hide hI
  have HZ := hide hz
  have HC := hide hc
  have HH := hide h
  have HLn := hide hlen
  have HL1 : Hid (∀ k, k ≤ len → (meetM (refB A) (ks, wt) (zs.take k)).1.length ≤ 3000000 ∧ (meetM (refB A) (ks, wt) (zs.take k)).2.length ≤ 3000000) := hide fun k hk => by
    have h1 := meetM_len (refB A) (ks, wt) (zs.take k)
    rw [List.length_take] at h1
    have h2 := h1.1
    have h3 := h1.2
    simp only [] at h2 h3
    omega
  clear hI hz hc h hlen hl hl2
  go_enter Tryd.func59, Tryd.ntmps59
  go_wp2
  go_loopw [11] (fun i wr => ∃ k : Nat, k ≤ len ∧ i = .int .i64 k ∧ ∃ v, Hid (Mt s wr B n A wd (meetM (refB A) (ks, wt) (zs.take k)).1 (meetM (refB A) (ks, wt) (zs.take k)).2 v) ∧ Hid (Fr (fun j => j = s + 1 ∨ j = s + 3 ∨ v0.ownBlock = some j) w wr) ∧ Hid (∀ b, v0.ownBlock ≠ some b → b < w.heap.size → v.ownBlock ≠ some b)) (fun i _ => len - (intOf i).toNat)
  case atStart => exact ⟨0, by omega, rfl, v0, HH, hide (Fr.refl _ _), hide fun b h _ => h⟩
  case round =>
    obtain ⟨k, hk, rfl, v, hM, hF, hN⟩ := hrel
    by_cases hlt : k < len
    · obtain ⟨b, off, hab, hb1, hb2, hb3, hb4, hcz⟩ := unhide HC k (by have := unhide HLn; omega)
      subst hab
      have hkz : k < zs.length := by have := unhide HLn; omega
      have cz : wr.cell? ⟨b, off + k, none⟩ = some (.int .i64 (zs.getD k 0)) := (World.cell?_of_block (w := w) (a := ⟨b, off + k, none⟩) ((unhide hF).block b hb1 (fun x => by rcases x with e | e | e; exact hb2 e; exact hb3 e; exact hb4 e))).trans hcz
      have hkey : keyOf Tryd.prog 3 (.int .i64 (zs.getD k 0)) = some (.int .i64 (zs.getD k 0)) := keyOf_int_mk Tryd.underlying3 (wf_i64 (unhide HZ _ (by rw [List.getD, List.getElem?_eq_getElem hkz]; exact List.getElem_mem hkz)))
      have cr := (unhide hM).cr
      have ch := (unhide hM).ch
      have hst := meet_take (R := refB A) (s := (ks, wt)) hkz
      obtain ⟨ao, cp, hv, _⟩ := own_form (unhide hM).own
      subst hv
      have HMp := hide (unhide hM).map
      have hsz := (unhide hM).sz
      obtain ⟨hL1, hL2⟩ := unhide HL1 k hk
      generalize meetM (refB A) (ks, wt) (zs.take k) = t at *
      generalize zs.getD k 0 = z at *
      unfold stepM at hst
      clear hb1 hb2 hb3 hb4 hcz hkz
      cases hcn : t.1.contains z with
      | true =>
        have hhas : Maps.has (setD t.1) (Lit.int .i64 z) = true := by rw [has_setD]; exact hcn
        rw [if_pos (by rw [hcn]; rfl)] at hst
        have HST := hide hst
        clear hst hcn
        go_wp2_with (first | (at_lookup; refine wpList_lookup_own_unit _ rfl _ _ 84 rfl 3 86 law3 Tryd.underlying84 (zero73 _) (s + 1) t.1.length _ rfl (unhide HMp) _ _ rfl hkey ?_))
        go_roundw
        case rel => exact ⟨k + 1, by omega, by go_num, _, by rw [unhide HST]; exact hide ((unhide hM).quiet ((Fr.refl _ wr).alloc _)), hide ((unhide hF).alloc _), hN⟩
        case measure => simp [intOf]; omega
      | false =>
        have hhas : Maps.has (setD t.1) (Lit.int .i64 z) = false := by rw [has_setD]; exact hcn
        have HM2 := hide ((unhide hM).quiet ((Fr.refl _ wr).alloc (.cells #[] 86)))
        have HRv := hide (isRef_any B n A wd z (wr.alloc (.cells #[] 86)) (unhide HM2).at_ (unhide HI))
        have ch2 := (unhide HM2).ch
        have HF2 : Hid (Fr (fun _ => False) wr (wr.alloc (.cells #[] 86))) := hide ((Fr.refl _ wr).alloc (.cells #[] 86))
        unfold HB.ptr at HRv ch ch2
        cases hb : refB A z with
        | false =>
          rw [hb] at HRv
          rw [if_pos (by rw [hb]; simp)] at hst
          have HST := hide hst
          clear hst hcn hb
          go_wp2_with (first | (at_lookup; refine wpList_lookup_own_unit _ rfl _ _ 84 rfl 3 86 law3 Tryd.underlying84 (zero73 _) (s + 1) t.1.length _ rfl (unhide HMp) _ _ rfl hkey ?_) | (go_at_call 60; refine (unhide HRv).mono ?_; rintro e w4 ⟨rfl, hF4⟩))
          try go_wp2
          go_roundw
          case rel => exact ⟨k + 1, by omega, by go_num, _, by rw [unhide HST]; exact hide ((unhide HM2).quiet hF4), hide (((unhide hF).trans ((unhide HF2).mono fun _ x => x.elim)).trans (hF4.mono fun _ x => x.elim)), hN⟩
          case measure => simp [intOf]; omega
        | true =>
          rw [hb] at HRv
          rw [if_neg (by rw [hb, hcn]; simp)] at hst
          have HST := hide hst
          clear hst hcn hb
          go_wp2_with (first | (at_lookup; refine wpList_lookup_own_unit _ rfl _ _ 84 rfl 3 86 law3 Tryd.underlying84 (zero73 _) (s + 1) t.1.length _ rfl (unhide HMp) _ _ rfl hkey ?_) | (go_at_call 60; refine (unhide HRv).mono ?_; rintro e w4 ⟨rfl, hF4⟩; have HM4 := hide ((unhide HM2).quiet hF4); have cr4 := (unhide HM4).cr; have HF4 := hide ((unhide HF2).trans hF4); clear hF4) | (at_mapUpdate; refine wpList_mapUpdate_own _ rfl _ _ _ 84 rfl 3 86 law3 Tryd.underlying84 (unitElem (H := Unit)) (s + 1) t.1.length _ rfl (unhide HM4).map (by unfold maxLen; omega) _ _ _ rfl rfl hkey _ [] unitElem_mk ?_; intro w5 hown5 hgrow5; have HM5 := hide ((unhide HM4).put hown5 hgrow5); have ct5 := (unhide HM5).ct; have hsz5 := (unhide HM5).sz; have HF5 := hide (Fr.grown hgrow5); clear hown5 hgrow5) | (at_builtin; refine wpList_append_lies _ rfl _ _ 31 rfl (s + 4) 3 i0 (.int .i64 0) 1 8 Tryd.underlying31 hi hz0 hz1 hz2 rfl (by decide) (.slice ao t.2.length cp) t.2.length (t.2.map (Value.int .i64)) rfl ((unhide HM5).own.alloc _) ⟨w5.heap.size, 0, none⟩ 1 1 [.int .i64 z] rfl rfl (cell_one_new _ _ _) (ints_oneCell .i64 [z]) (by decide) (by unfold maxLen; omega) (by omega) (by simp; omega) _ rfl ?_; intro g cap6 w6 hown6 hgrow6 hat6 hgl6; have hp6 := (unhide HM5).push _ hown6 hgrow6; have c6 := hp6.1; have f6 := hp6.2.1; have HM6 := hide hp6.2.2; have HG6 := hide hgrow6; have HA6 := hide hat6; clear hp6 hown6 hgrow6 hat6 hgl6))
          have HF6 : Hid (Fr (fun j => j = s + 1 ∨ j = s + 3 ∨ v0.ownBlock = some j) w w6) := hide (((((unhide hF).trans ((unhide HF4).mono fun _ x => x.elim)).over (unhide HF5) (fun b e _ => .inl (by cases e; rfl))).alloc _).over (Fr.grown (unhide HG6)) (fun b e hb => .inr (.inr (Classical.byContradiction fun hne => unhide hN b hne hb e.symm))))
          have hw5 : w.heap.size ≤ w5.heap.size := Nat.le_trans (unhide hF).size (Nat.le_trans (unhide HF4).size (unhide HF5).size)
          go_roundw
          case rel =>
            refine ⟨k + 1, by omega, by go_num, _, by rw [unhide HST]; exact HM6, hide ((unhide HF6).over ((Fr.refl (fun j => j = s + 3) w6).setCell (p := ⟨s + 3, 0, none⟩) rfl _) (fun b e _ => .inr (.inl e))), hide fun b hb1 hb2 e => ?_⟩
            have eg : g = b := by simpa [Value.ownBlock] using e
            rcases unhide HA6 with e1 | e1
            · exact unhide hN b hb1 hb2 (by rw [e1, eg])
            · simp at e1; omega
          case measure => simp [intOf]; omega
    · have e : k = len := by omega
      subst e
      go_wp2
      go_end0
      exact unhide HP _ _ (unhide hM) (unhide hF)
end Go.Proofs.YtjblmincldaklaaDoor
namespace Go.Proofs.YtjblmincldaklaaDoor
open Go.RowKit Go.Proofs.YtjblmincldaklaaDoor.Hp Go.Maps
/-- What mark leaves: the set of what is reached. -/
def MarkP (w : World) (A : Nat → Kd) (wd : Nat → Int) (n : Nat) (roots : List Int) (e : Ending) (w' : World) : Prop :=
  ∃ (bm : Nat) (ks : List Int), e = .returned (.map (some bm)) ∧ w.heap.size ≤ bm ∧ w'.ownsMap Tryd.prog 3 (unitElem (H := Unit)) bm ks.length (setD ks) ∧ ks.Nodup ∧ (∀ x, x ∈ ks ↔ Reach (refB A) (kids A wd) roots x) ∧ ks.length ≤ 64 * n ∧ Fr (fun _ => False) w w'
theorem own_pop {w : World} {base n cp : Nat} {ao : Option Addr} {wt : List Int} {a : Int} (h : w.ownsRow base 3 1 (.slice ao (n + 1) cp) (n + 1) ((wt ++ [a]).map (Value.int .i64))) : w.ownsRow base 3 1 (.slice ao n cp) n (wt.map (Value.int .i64)) := by
  obtain ⟨h1, h2⟩ := h
  have hl : wt.length = n := by simpa using h1
  refine ⟨by simp [hl], ?_⟩
  rcases h2 with ⟨h3, h4⟩ | ⟨g, cap, cur, h3, h4, h5, h6, h7, h8, h9⟩
  · omega
  · cases h3
    refine .inr ⟨g, _, cur, rfl, h4, h5, by omega, h7, h8, ?_⟩
    have : (cur.toList.take ((n + 1) * 1)).take (n * 1) = ((wt ++ [a]).map (Value.int .i64)).take (n * 1) := by rw [h9]
    rw [List.take_take, Nat.min_eq_left (by omega)] at this
    rw [this, List.map_append, List.take_append_of_le_length (by simp [hl]), List.take_of_length_le (by simp [hl])]
/-- Behind taking the last of the waiting ones. -/
theorem Mt.pop {s : Nat} {w : World} {B : HB} {n : Nat} {A : Nat → Kd} {wd : Nat → Int} {ks wt : List Int} {a : Int} {ao : Option Addr} {cp : Nat} (h : Mt s w B n A wd ks (wt ++ [a]) (.slice ao (wt.length + 1) cp)) :
    Mt s (w.setCell ⟨s + 3, 0, none⟩ (.slice ao wt.length cp)) B n A wd ks wt (.slice ao wt.length cp) := by
  have hs := h.sz
  have k2 : Fr (fun j => j = s + 3) w (w.setCell ⟨s + 3, 0, none⟩ (.slice ao wt.length cp)) := (Fr.refl (fun j => j = s + 3) w).setCell (p := ⟨s + 3, 0, none⟩) rfl _
  refine ⟨h.at_.fr' k2 (fun b hb e => by have := h.mem b hb; omega), h.mem, ?_, ?_, ?_, ?_, ?_, ?_, ?_⟩
  · exact (World.cell?_of_block (w := w) (a := ⟨s, 0, none⟩) (k2.block s (by omega) (by omega))).trans h.ch
  · exact (World.cell?_of_block (w := w) (a := ⟨s + 2, 0, none⟩) (k2.block (s + 2) (by omega) (by omega))).trans h.cr
  · exact World.cell?_setCell_same _ _ _ h.ct
  · rw [World.frozen?_setCell]; exact h.ft
  · have := h.own
    rw [List.length_append] at this
    exact own_fr (own_pop this) k2 (fun j e => by omega)
  · exact map_fr h.map k2 (by omega)
  · exact Nat.le_trans h.sz k2.size
theorem own_cap {w : World} {base e size n cp : Nat} {ao : Option Addr} {xs : List Value} (h : w.ownsRow base e size (.slice ao n cp) n xs) : n ≤ cp := by
  rcases h.2 with ⟨h2, h3⟩ | ⟨g, cap, cur, h2, _, _, h5, _⟩
  · omega
  · cases h2; exact h5
theorem own_cells {w : World} {base n cp : Nat} {ao : Option Addr} {ys : List Int} (h : w.ownsRow base 3 1 (.slice ao n cp) n (ys.map (Value.int .i64))) : ∀ j, j < n → ∃ b, ao = some ⟨b, 0, none⟩ ∧ base ≤ b ∧ b < w.heap.size ∧ w.cell? ⟨b, j, none⟩ = some (.int .i64 (ys.getD j 0)) := by
  intro j hj
  obtain ⟨ao', cp', e, hg⟩ := own_form h
  cases e
  obtain ⟨g, rfl⟩ := hg (by omega)
  have hl := h.lt g rfl
  have hn : ys.length = n := by simpa using h.1
  exact ⟨g, rfl, hl.1, hl.2, by rw [h.cellAt j (by omega)]; simp [List.getD, List.getElem?_eq_getElem (show j < ys.length by omega)]⟩
theorem MkI.few {n : Nat} {A : Nat → Kd} {wd : Nat → Int} {roots ks wt : List Int} (hI : Inv n A) (h : MkI (refB A) (kids A wd) roots ks wt) : ks.length ≤ 64 * n :=
  nd_le (64 * n) ks h.nd fun x hx => by
    obtain ⟨y, rfl, h1, h2, h3, _⟩ := ref_nat hI (h.sound x hx).ref
    omega
theorem kids_few {n : Nat} {A : Nat → Kd} (wd : Nat → Int) (z : Int) (_hI : Inv n A) : (kids A wd z).length ≤ 40000 := by
  unfold kids
  split
  · rename_i h
    have h1 := kidsTo_len A wd z.toNat (min (hS (wd z.toNat)).toNat (roomI A z - 1))
    have h2 := h.2
    unfold IsH at h2
    have : (hS (wd z.toNat)).toNat ≤ 16447 := by unfold hS; omega
    omega
  · simp
theorem start_any {w : World} {B : HB} {n : Nat} {A : Nat → Kd} {wd : Nat → Int} (h : At w B n (hrOf A wd)) (s : Nat) (hs : s = w.heap.size) :
    Mt s ((((w.alloc (Obj.cells #[B.ptr] 52)).alloc (Obj.map #[] 0)).alloc (Obj.cells #[Value.map (some (s + 1))] 84)).alloc (Obj.cells #[Value.slice none 0 0] 31)) B n A wd [] [] (.slice none 0 0) ∧ Fr (fun _ => False) w ((((w.alloc (Obj.cells #[B.ptr] 52)).alloc (Obj.map #[] 0)).alloc (Obj.cells #[Value.map (some (s + 1))] 84)).alloc (Obj.cells #[Value.slice none 0 0] 31)) := by
  have e1 : (w.alloc (Obj.cells #[B.ptr] 52)).heap.size = s + 1 := by simp [hs]
  have c1 : (w.alloc (Obj.cells #[B.ptr] 52)).cell? ⟨s, 0, none⟩ = some B.ptr := by rw [hs, World.cell?_alloc_at _ _ _ _ rfl]; rfl
  have f1 : Fr (fun _ => False) w (w.alloc (Obj.cells #[B.ptr] 52)) := (Fr.refl _ w).alloc _
  generalize w.alloc (Obj.cells #[B.ptr] 52) = w1 at *
  have e2 : (w1.alloc (Obj.map #[] 0)).heap.size = s + 2 := by simp [e1]
  have m2 : (w1.alloc (Obj.map #[] 0)).ownsMap Tryd.prog 3 (unitElem (H := Unit)) (s + 1) 0 (setD []) := by
    have := World.ownsMap_made w1 Tryd.prog 3 (unitElem (H := Unit))
    rw [e1] at this
    exact this
  have f2 : Fr (fun _ => False) w1 (w1.alloc (Obj.map #[] 0)) := (Fr.refl _ w1).alloc _
  generalize w1.alloc (Obj.map #[] 0) = w2 at *
  have e3 : (w2.alloc (Obj.cells #[Value.map (some (s + 1))] 84)).heap.size = s + 3 := by simp [e2]
  have c3 : (w2.alloc (Obj.cells #[Value.map (some (s + 1))] 84)).cell? ⟨s + 2, 0, none⟩ = some (Value.map (some (s + 1))) := by rw [← e2, World.cell?_alloc_at _ _ _ _ rfl]; rfl
  have f3 : Fr (fun _ => False) w2 (w2.alloc (Obj.cells #[Value.map (some (s + 1))] 84)) := (Fr.refl _ w2).alloc _
  generalize w2.alloc (Obj.cells #[Value.map (some (s + 1))] 84) = w3 at *
  have e4 : (w3.alloc (Obj.cells #[Value.slice none 0 0] 31)).heap.size = s + 4 := by simp [e3]
  have c4 : (w3.alloc (Obj.cells #[Value.slice none 0 0] 31)).cell? ⟨s + 3, 0, none⟩ = some (Value.slice none 0 0) := by rw [← e3, World.cell?_alloc_at _ _ _ _ rfl]; rfl
  have g4 : (w3.alloc (Obj.cells #[Value.slice none 0 0] 31)).frozen? ⟨s + 3, 0, none⟩ = false := by rw [← e3]; exact World.frozen?_alloc_at _ _ _ _ rfl
  have f4 : Fr (fun _ => False) w3 (w3.alloc (Obj.cells #[Value.slice none 0 0] 31)) := (Fr.refl _ w3).alloc _
  generalize w3.alloc (Obj.cells #[Value.slice none 0 0] 31) = w4 at *
  have F := ((f1.trans f2).trans f3).trans f4
  refine ⟨⟨h.quiet F, fun k hk => by rw [hs]; exact h.lt hk, ?_, ?_, c4, g4, by have := World.ownsRow_nil w4 (s + 4) 3 1; exact this, map_fr m2 (f3.trans f4) id, by omega⟩, F⟩
  · exact (World.cell?_of_block (w := w1) (a := ⟨s, 0, none⟩) (((f2.trans f3).trans f4).block s (by omega) id)).trans c1
  · exact (World.cell?_of_block (w := w3) (a := ⟨s + 2, 0, none⟩) (f4.block (s + 2) (by omega) id)).trans c3
theorem getD_last (wt : List Int) (a : Int) : (wt ++ [a]).getD wt.length 0 = a := by simp [List.getD]
set_option maxRecDepth 100000 in
set_option maxHeartbeats 4000000 in
theorem mark_any (w : World) (B : HB) (n : Nat) (A : Nat → Kd) (wd : Nat → Int) (a0 : Option Addr) (cap : Nat) (zs : List Int)
    (h : At w B n (hrOf A wd)) (hI : Inv n A) (hl : zs.length ≤ 1000) (hz : ∀ z ∈ zs, -9223372036854775808 ≤ z ∧ z < 9223372036854775808)
    (hc : ∀ j, j < zs.length → ∃ b off, a0 = some ⟨b, off, none⟩ ∧ b < w.heap.size ∧ w.cell? ⟨b, off + j, none⟩ = some (.int .i64 (zs.getD j 0))) :
    Calls Tryd.prog 46 #[B.ptr, .slice a0 zs.length cap] w fun e w' => MarkP w A wd n zs e w' := by
  have hmm := @run_makeMap Tryd.prog
  obtain ⟨s, hs⟩ : ∃ s, s = w.heap.size := ⟨_, rfl⟩
  have HS := hide hs
  have hmem : ∀ k, B.mem k → k < s := fun k hk => by rw [hs]; exact h.lt hk
  have HH := hide h
  have HI := hide hI
  have HZ := hide hz
  have HC := hide hc
  have HMm := hide hmem
  clear h hI hz hc hmem
  obtain ⟨len, hlen⟩ : ∃ len, len = zs.length := ⟨_, rfl⟩
  rw [← hlen]
  have HLn := hide hlen
  have hln : len ≤ 1000 := by omega
  clear hlen hl
  unfold HB.ptr
  go_enter Tryd.func46, Tryd.ntmps46
  go_wp2_with fail
  rw [← hs]
  simp only [Nat.add_assoc, Nat.reduceAdd]
  have HW : Hid (Mt s ((((w.alloc (Obj.cells #[.pointer (some ⟨B.p, 0, none⟩)] 52)).alloc (Obj.map #[] 0)).alloc (Obj.cells #[Value.map (some (s + 1))] 84)).alloc (Obj.cells #[Value.slice none 0 0] 31)) B n A wd [] [] (.slice none 0 0) ∧ Fr (fun _ => False) w ((((w.alloc (Obj.cells #[.pointer (some ⟨B.p, 0, none⟩)] 52)).alloc (Obj.map #[] 0)).alloc (Obj.cells #[Value.map (some (s + 1))] 84)).alloc (Obj.cells #[Value.slice none 0 0] 31))) := hide (start_any (unhide HH) s hs)
  clear hs
  generalize ((((w.alloc (Obj.cells #[.pointer (some ⟨B.p, 0, none⟩)] 52)).alloc (Obj.map #[] 0)).alloc (Obj.cells #[Value.map (some (s + 1))] 84)).alloc (Obj.cells #[Value.slice none 0 0] 31)) = W at *
  have HCm : Hid (Calls Tryd.prog 59 #[.slice a0 len cap, .pointer (some ⟨s + 2, 0, none⟩), .pointer (some ⟨s, 0, none⟩), .pointer (some ⟨s + 3, 0, none⟩)] W fun e w' => MeetP s W B n A wd (meetM (refB A) ([], []) zs) e w') := hide (by
    have hlen := unhide HLn
    rw [hlen]
    refine meet_any s W B n A wd [] [] _ a0 cap zs (unhide HW).1 (unhide HI) (by simp; omega) (by simp; omega) (unhide HZ) fun j hj => ?_
    obtain ⟨b, off, h1, h2, h3⟩ := unhide HC j hj
    have hs := unhide HS
    refine ⟨b, off, h1, Nat.lt_of_lt_of_le h2 (unhide HW).2.size, by omega, by omega, by simp [Value.ownBlock], ?_⟩
    exact (World.cell?_of_block (w := w) (a := ⟨b, off + j, none⟩) ((unhide HW).2.block b h2 id)).trans h3)
  refine (unhide HCm).mono ?_
  rintro e w1 ⟨rfl, ⟨v, hM⟩, hF⟩
  have hst := MkI.start (refB A) (kids A wd) zs
  have hml := met_full (refB A) ([], []) zs
  generalize meetM (refB A) ([], []) zs = t at *
  have HMt := hide hM
  have HF1 : Hid (Fr (fun _ => False) w w1) := hide ((unhide HW).2.up hF (fun b hb => by have := unhide HS; rcases hb with e | e <;> omega))
  have HSt : Hid (MkI (refB A) (kids A wd) zs t.1 t.2 ∧ t.2.length ≤ t.1.length) := hide ⟨hst, by have := hml.len; simp at this; omega⟩
  clear hM hF hst hml HCm HW
  go_wp2
  go_loopg [15] ((64 * n - t.1.length) + t.2.length) (fun gk _ wr => ∃ (ks wt : List Int) (v : Value), Hid (gk = (64 * n - ks.length) + wt.length) ∧ Hid (Mt s wr B n A wd ks wt v) ∧ Hid (MkI (refB A) (kids A wd) zs ks wt ∧ wt.length ≤ ks.length) ∧ Hid (Fr (fun _ => False) w wr))
  case atStart => exact ⟨t.1, t.2, v, hide rfl, HMt, HSt, HF1⟩
  case round =>
    obtain ⟨ks, wt, v1, hgk, hM, hK, hF⟩ := hrel
    obtain ⟨ao, cp, hv, hg⟩ := own_form (unhide hM).own
    subst hv
    have ct := (unhide hM).ct
    have ft := (unhide hM).ft
    have cr := (unhide hM).cr
    rcases List.eq_nil_or_concat wt with rfl | ⟨wt0, a, rfl⟩
    · clear hg
      have HR : Hid (MarkP w A wd n zs (.returned (.map (some (s + 1)))) wr) := hide ⟨s + 1, ks, rfl, by have := unhide HS; omega, (unhide hM).map, (unhide hK).1.nd, (unhide hK).1.done, (unhide hK).1.few (unhide HI), unhide hF⟩
      simp only [List.length_nil] at ct
      go_wp2
      go_ret
      exact unhide HR
    · obtain ⟨g, hg'⟩ := hg (by simp)
      subst hg'
      clear hg
      obtain ⟨m, hm⟩ : ∃ m, m = wt0.length := ⟨_, rfl⟩
      have hml : (wt0.concat a).length = m + 1 := by simp [hm]
      have hcc : wt0.concat a = wt0 ++ [a] := by simp
      rw [hml] at ct hM
      rw [hcc] at hM hK hgk
      have hmb : m ≤ 3000000 := by
        have h1 := (unhide hK).1.few (unhide HI)
        have h2 := (unhide hK).2
        have h3 := (unhide HH).hi
        rw [List.length_append, ← hm] at h2
        omega
      have hcap : m + 1 ≤ cp := by
        have := (unhide hM).own
        rw [List.length_append, ← hm] at this
        exact own_cap this
      have ca : wr.cell? ⟨g, m, none⟩ = some (.int .i64 a) := by
        have := (unhide hM).own
        rw [List.length_append, ← hm] at this
        obtain ⟨b, hb, _, _, hc⟩ := own_cells this m (by simp)
        cases hb
        rw [hc, hm, getD_last]
      have HPp : Hid (Mt s (wr.setCell ⟨s + 3, 0, none⟩ (.slice (some ⟨g, 0, none⟩) m cp)) B n A wd ks wt0 (.slice (some ⟨g, 0, none⟩) m cp)) := hide (by
        have := unhide hM
        rw [hm] at this ⊢
        exact this.pop)
      have ch2 := (unhide HPp).ch
      unfold HB.ptr at ch2
      have HCh := hide (Children_any B n A wd a _ (unhide HPp).at_ (unhide HI))
      unfold HB.ptr at HCh
      have HF2 : Hid (Fr (fun _ => False) w (wr.setCell ⟨s + 3, 0, none⟩ (.slice (some ⟨g, 0, none⟩) m cp))) := hide ((unhide hF).up ((Fr.refl (fun j => j = s + 3) wr).setCell (p := ⟨s + 3, 0, none⟩) rfl _) (fun b hb => by have := unhide HS; omega))
      have hgl : g < (wr.setCell ⟨s + 3, 0, none⟩ (.slice (some ⟨g, 0, none⟩) m cp)).heap.size := ((unhide HPp).own.lt g rfl).2
      have hsz := (unhide HPp).sz
      have HMl := hide hm
      clear hml hcc hm
      go_wp2_with fail
      refine (unhide HCh).mono ?_
      rintro e w2 ⟨ao2, cp2, rfl, hO2, hF3⟩
      have HM2 := hide ((unhide HPp).quiet hF3)
      have HCm2 : Hid (Calls Tryd.prog 59 #[.slice ao2 (kids A wd a).length cp2, .pointer (some ⟨s + 2, 0, none⟩), .pointer (some ⟨s, 0, none⟩), .pointer (some ⟨s + 3, 0, none⟩)] w2 fun e w' => MeetP s w2 B n A wd (meetM (refB A) (ks, wt0) (kids A wd a)) e w') := hide (by
        have h1 := (unhide hK).1.few (unhide HI)
        have h2 := (unhide hK).2
        have h3 := (unhide HH).hi
        have h4 := kids_few wd a (unhide HI)
        rw [List.length_append] at h2
        refine meet_any s w2 B n A wd ks wt0 _ ao2 cp2 (kids A wd a) (unhide HM2) (unhide HI) (by omega) (by omega) (fun z hz => ?_) fun j hj => ?_
        · obtain ⟨y, rfl, _, _, h5, _⟩ := ref_nat (unhide HI) (kids_ref hz)
          omega
        · obtain ⟨b, hb1, hb2, hb3, hb4⟩ := own_cells hO2 j hj
          refine ⟨b, 0, hb1, hb3, by omega, by omega, ?_, by rw [Nat.zero_add]; exact hb4⟩
          intro e
          have eg : g = b := by simpa [Value.ownBlock] using e
          omega)
      have HF4 := hide ((unhide HF2).trans hF3)
      clear hO2 hF3
      go_wp2_with fail
      refine (unhide HCm2).mono ?_
      rintro e w3 ⟨rfl, ⟨v3, hM3⟩, hF5⟩
      have hst := (unhide hK).1.step
      have hfew := hst.1.few (unhide HI)
      have hfew0 := (unhide hK).1.few (unhide HI)
      generalize meetM (refB A) (ks, wt0) (kids A wd a) = t2 at *
      have HX : Hid (∃ (ks wt : List Int) (v : Value), Hid ((64 * n - t2.1.length) + t2.2.length = (64 * n - ks.length) + wt.length) ∧ Hid (Mt s w3 B n A wd ks wt v) ∧ Hid (MkI (refB A) (kids A wd) zs ks wt ∧ wt.length ≤ ks.length) ∧ Hid (Fr (fun _ => False) w w3)) := hide ⟨t2.1, t2.2, v3, hide rfl, hide hM3, hide ⟨hst.1, by have := (unhide hK).2; rw [List.length_append] at this; omega⟩, hide ((unhide HF4).up hF5 (fun b hb => by have := unhide HS; rcases hb with e | e <;> omega))⟩
      have HLt : Hid ((64 * n - t2.1.length) + t2.2.length < gk) := hide (by
        have h1 := unhide hgk
        have h2 := hst.2
        rw [List.length_append, List.length_singleton] at h1
        omega)
      clear hM3 hF5 hst hfew hfew0
      go_wp2
      go_roundg ((64 * n - t2.1.length) + t2.2.length)
      case measure => exact unhide HLt
      case rel => exact unhide HX
end Go.Proofs.YtjblmincldaklaaDoor
