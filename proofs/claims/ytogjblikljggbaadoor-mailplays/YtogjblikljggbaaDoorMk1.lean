/- meet, the function within mark. -/
import Derived.Test.YtogjblikljggbaaDoorKd1
import Derived.Maps.OwnSet
import Derived.Maps.AppendAt
import Derived.Deep.AppendLies
namespace Go.Proofs.YtogjblikljggbaaDoor
open Go.RowKit Go.Proofs.YtogjblikljggbaaDoor.Hp Go.Maps
theorem law3 : Keyed Tryd.prog 3 := int_keyed Tryd.underlying3
theorem zero73 (w : World) : (zeroValue 76).run Tryd.prog w = .ok (.agg #[]) w := by kernel_rfl
def setD (ks : List Int) : DataW Unit := setOf (.agg []) (ks.map (Lit.int .i64))
theorem any_int (x : Int) : ∀ l : List Int, l.any ((fun y : Lit => y.sameKey (.int .i64 x)) ∘ Lit.int .i64) = l.contains x
  | [] => rfl
  | a :: r => by
    rw [List.any_cons, List.contains_cons, any_int x r]
    congr 1
    show decide (IntKind.i64 = IntKind.i64 ∧ a = x) = (x == a)
    by_cases e : a = x
    · subst e; simp
    · have e' : ¬ x = a := fun h => e h.symm
      simp [e, e']
theorem has_setD (ks : List Int) (x : Int) : Maps.has (setD ks) (.int .i64 x) = ks.contains x := by
  unfold setD
  rw [has_setOf _ _ _ (fun y hy => by obtain ⟨_, _, rfl⟩ := List.mem_map.1 hy; trivial), List.any_map]
  exact any_int x _
theorem setD_snoc (ks : List Int) (x : Int) : setD (ks ++ [x]) = (setD ks).put (.int .i64 x) (.agg []) := by
  unfold setD
  rw [List.map_append, List.map_singleton, setOf_snoc]
theorem wf_i64 {x : Int} (h : -9223372036854775808 ≤ x ∧ x < 9223372036854775808) : (Lit.int .i64 x).wf = true := WalkArith.wf_i64 (by omega)
/-- What mark and meet hold: the box of the heap at s, the set at s + 1, its variable at s + 2, the waiting ones' at s + 3. -/
structure Mt (s : Nat) (w : World) (B : HB) (n : Nat) (A : Nat → Kd) (wd : Nat → Int) (ks wt : List Int) (v : Value) : Prop where
  at_ : At w B n (hrOf A wd)
  mem : ∀ k, B.mem k → k < s
  ch : w.cell? ⟨s, 0, none⟩ = some B.ptr
  cr : w.cell? ⟨s + 2, 0, none⟩ = some (.map (some (s + 1)))
  ct : w.cell? ⟨s + 3, 0, none⟩ = some v
  ft : w.frozen? ⟨s + 3, 0, none⟩ = false
  own : w.ownsRow (s + 4) 3 1 v wt.length (wt.map (Value.int .i64))
  map : w.ownsMap Tryd.prog 3 (unitElem (H := Unit)) (s + 1) ks.length (setD ks)
  sz : s + 4 ≤ w.heap.size
theorem map_fr {w w' : World} {K : Nat → Prop} {b m : Nat} {D : DataW Unit} (h : w.ownsMap Tryd.prog 3 (unitElem (H := Unit)) b m D) (k : Fr K w w') (hb : ¬ K b) : w'.ownsMap Tryd.prog 3 (unitElem (H := Unit)) b m D := by
  obtain ⟨es, clock, hb1, r⟩ := h
  exact ⟨es, clock, (k.block b (Array.getElem?_eq_some_iff.1 hb1).1 hb).trans hb1, r⟩
theorem Mt.quiet {s : Nat} {w w' : World} {B : HB} {n : Nat} {A : Nat → Kd} {wd : Nat → Int} {ks wt : List Int} {v : Value} (h : Mt s w B n A wd ks wt v) (k : Fr (fun _ => False) w w') : Mt s w' B n A wd ks wt v := by
  have hs := h.sz
  refine ⟨h.at_.quiet k, h.mem, ?_, ?_, ?_, ?_, own_fr h.own k (fun _ x => x.elim), map_fr h.map k id, Nat.le_trans h.sz k.size⟩
  · exact (World.cell?_of_block (w := w) (a := ⟨s, 0, none⟩) (k.block s (by omega) id)).trans h.ch
  · exact (World.cell?_of_block (w := w) (a := ⟨s + 2, 0, none⟩) (k.block (s + 2) (by omega) id)).trans h.cr
  · exact (World.cell?_of_block (w := w) (a := ⟨s + 3, 0, none⟩) (k.block (s + 3) (by omega) id)).trans h.ct
  · exact (World.frozen?_of_block (w := w) (a := ⟨s + 3, 0, none⟩) (k.block (s + 3) (by omega) id)).trans h.ft
/-- Behind a store into the set. -/
theorem Mt.put {s : Nat} {w w' : World} {B : HB} {n : Nat} {A : Nat → Kd} {wd : Nat → Int} {ks wt : List Int} {v : Value} (h : Mt s w B n A wd ks wt v) {z : Int} (hm : w'.ownsMap Tryd.prog 3 (unitElem (H := Unit)) (s + 1) (ks.length + 1) ((setD ks).put (.int .i64 z) (.agg []))) (hg : w.grownBy w' (some (s + 1))) :
    Mt s w' B n A wd (ks ++ [z]) wt v := by
  have hs := h.sz
  have k : Fr (fun j => some j = some (s + 1)) w w' := Fr.grown hg
  have hn : ∀ j, j ≠ s + 1 → ¬ (some j = some (s + 1)) := fun j hj e => hj (by cases e; rfl)
  refine ⟨h.at_.fr' k (fun b hb => hn b (by have := h.mem b hb; omega)), h.mem, ?_, ?_, ?_, ?_, own_fr h.own k (fun j e => by cases e; omega), by rw [setD_snoc, List.length_append]; exact hm, Nat.le_trans h.sz k.size⟩
  · exact (World.cell?_of_block (w := w) (a := ⟨s, 0, none⟩) (k.block s (by omega) (hn _ (by omega)))).trans h.ch
  · exact (World.cell?_of_block (w := w) (a := ⟨s + 2, 0, none⟩) (k.block (s + 2) (by omega) (hn _ (by omega)))).trans h.cr
  · exact (World.cell?_of_block (w := w) (a := ⟨s + 3, 0, none⟩) (k.block (s + 3) (by omega) (hn _ (by omega)))).trans h.ct
  · exact (World.frozen?_of_block (w := w) (a := ⟨s + 3, 0, none⟩) (k.block (s + 3) (by omega) (hn _ (by omega)))).trans h.ft
/-- Behind an append to the waiting ones. -/
theorem Mt.push {s : Nat} {w w1 : World} {B : HB} {n : Nat} {A : Nat → Kd} {wd : Nat → Int} {ks wt : List Int} {v v' : Value} (h : Mt s w B n A wd ks wt v) {z : Int} (o : Obj)
    (ho : w1.ownsRow (s + 4) 3 1 v' (wt.length + 1) (wt.map (Value.int .i64) ++ [.int .i64 z])) (hg : (w.alloc o).grownBy w1 v.ownBlock) :
    w1.cell? ⟨s + 3, 0, none⟩ = some v ∧ w1.frozen? ⟨s + 3, 0, none⟩ = false ∧ Mt s (w1.setCell ⟨s + 3, 0, none⟩ v') B n A wd ks (wt ++ [z]) v' := by
  have hs := h.sz
  have k : Fr (fun j => some j = v.ownBlock) w w1 := ((Fr.refl _ w).alloc o).trans (Fr.grown hg)
  have hn : ∀ j, j < s + 4 → ¬ (some j = v.ownBlock) := fun j hj e => by have := (h.own.lt j e.symm).1; omega
  have c3 : w1.cell? ⟨s + 3, 0, none⟩ = some v := (World.cell?_of_block (w := w) (a := ⟨s + 3, 0, none⟩) (k.block (s + 3) (by omega) (hn _ (by omega)))).trans h.ct
  have f3 : w1.frozen? ⟨s + 3, 0, none⟩ = false := (World.frozen?_of_block (w := w) (a := ⟨s + 3, 0, none⟩) (k.block (s + 3) (by omega) (hn _ (by omega)))).trans h.ft
  have k2 : Fr (fun j => j = s + 3) w1 (w1.setCell ⟨s + 3, 0, none⟩ v') := (Fr.refl (fun j => j = s + 3) w1).setCell (p := ⟨s + 3, 0, none⟩) rfl _
  refine ⟨c3, f3, (h.at_.fr' k (fun b hb => hn b (by have := h.mem b hb; omega))).fr' k2 (fun b hb e => by have := h.mem b hb; omega), h.mem, ?_, ?_, ?_, ?_, ?_, ?_, ?_⟩
  · exact (World.cell?_of_block (w := w1) (a := ⟨s, 0, none⟩) (k2.block s (Nat.lt_of_lt_of_le (by omega) k.size) (by omega))).trans ((World.cell?_of_block (w := w) (a := ⟨s, 0, none⟩) (k.block s (by omega) (hn _ (by omega)))).trans h.ch)
  · exact (World.cell?_of_block (w := w1) (a := ⟨s + 2, 0, none⟩) (k2.block (s + 2) (Nat.lt_of_lt_of_le (by omega) k.size) (by omega))).trans ((World.cell?_of_block (w := w) (a := ⟨s + 2, 0, none⟩) (k.block (s + 2) (by omega) (hn _ (by omega)))).trans h.cr)
  · exact World.cell?_setCell_same _ _ _ c3
  · rw [World.frozen?_setCell]; exact f3
  · rw [List.length_append, List.map_append]
    exact own_fr ho k2 (fun j e => by omega)
  · exact map_fr (map_fr h.map k (hn _ (by omega))) k2 (by omega)
  · exact Nat.le_trans (Nat.le_trans h.sz k.size) k2.size
theorem Fr.over {K K' : Nat → Prop} {w0 w w' : World} (h : Fr K w0 w) (k : Fr K' w w') (hk : ∀ b, K' b → b < w0.heap.size → K b) : Fr K w0 w' :=
  ⟨k.os.trans h.os, k.tape.trans h.tape, k.output.trans h.output, Nat.le_trans h.size k.size, fun i hi hn => (k.block i (Nat.lt_of_lt_of_le hi h.size) (fun x => hn (hk i x hi))).trans (h.block i hi hn)⟩
def MeetK (s : Nat) (k : Nat) : Prop := k = s + 1 ∨ s + 3 ≤ k
def MeetP (s : Nat) (w : World) (B : HB) (n : Nat) (A : Nat → Kd) (wd : Nat → Int) (t : List Int × List Int) (e : Ending) (w' : World) : Prop :=
  e = .returned (.tuple #[]) ∧ (∃ v, Mt s w' B n A wd t.1 t.2 v) ∧ Fr (MeetK s) w w'
set_option maxRecDepth 100000 in
set_option maxHeartbeats 4000000 in
theorem meet_any (s : Nat) (w : World) (B : HB) (n : Nat) (A : Nat → Kd) (wd : Nat → Int) (ks wt : List Int) (v0 : Value) (a0 : Option Addr) (cap : Nat) (zs : List Int)
    (h : Mt s w B n A wd ks wt v0) (hI : Inv n A) (hl : ks.length + zs.length ≤ 3000000) (hl2 : wt.length + zs.length ≤ 3000000) (hz : ∀ z ∈ zs, -9223372036854775808 ≤ z ∧ z < 9223372036854775808)
    (hc : ∀ j, j < zs.length → ∃ b off, a0 = some ⟨b, off, none⟩ ∧ b < w.heap.size ∧ b ≠ s + 1 ∧ b ≠ s + 3 ∧ v0.ownBlock ≠ some b ∧ w.cell? ⟨b, off + j, none⟩ = some (.int .i64 (zs.getD j 0))) :
    Calls Tryd.prog 53 #[.slice a0 zs.length cap, .pointer (some ⟨s + 2, 0, none⟩), .pointer (some ⟨s, 0, none⟩), .pointer (some ⟨s + 3, 0, none⟩)] w fun e w' => MeetP s w B n A wd (meetM (refB A) (ks, wt) zs) e w' := by
  obtain ⟨i0, hi, hz0, hz1, hz2⟩ := info_parts Tryd.info3
  obtain ⟨len, hlen⟩ : ∃ len, len = zs.length := ⟨_, rfl⟩
  have hln : len ≤ 3000000 := by omega
  rw [← hlen]
  have HP : Hid (∀ w' v, Mt s w' B n A wd (meetM (refB A) (ks, wt) (zs.take len)).1 (meetM (refB A) (ks, wt) (zs.take len)).2 v → Fr (fun j => j = s + 1 ∨ j = s + 3 ∨ v0.ownBlock = some j) w w' → MeetP s w B n A wd (meetM (refB A) (ks, wt) zs) (.returned (.tuple #[])) w') := hide fun w' v hm hf => by
    rw [hlen, List.take_length] at hm
    refine ⟨rfl, ⟨v, hm⟩, hf.mono fun j hj => ?_⟩
    rcases hj with e | e | e
    · exact .inl e
    · exact .inr (by omega)
    · exact .inr (by have := (h.own.lt j e).1; omega)
  have HI := hide hI
  have HZ := hide hz
  have HC := hide hc
  have HH := hide h
  have HLn := hide hlen
  have HL1 : Hid (∀ k, k ≤ len → (meetM (refB A) (ks, wt) (zs.take k)).1.length ≤ 3000000 ∧ (meetM (refB A) (ks, wt) (zs.take k)).2.length ≤ 3000000) := hide fun k hk => by
    have h1 := meetM_len (refB A) (ks, wt) (zs.take k)
    rw [List.length_take] at h1
    have h2 := h1.1
    have h3 := h1.2
    simp only [] at h2 h3
    omega
  clear hI hz hc h hlen hl hl2
  go_enter Tryd.func53, Tryd.ntmps53
  go_wp2
  go_loopw [11] (fun i wr => ∃ k : Nat, k ≤ len ∧ i = .int .i64 k ∧ ∃ v, Hid (Mt s wr B n A wd (meetM (refB A) (ks, wt) (zs.take k)).1 (meetM (refB A) (ks, wt) (zs.take k)).2 v) ∧ Hid (Fr (fun j => j = s + 1 ∨ j = s + 3 ∨ v0.ownBlock = some j) w wr) ∧ Hid (∀ b, v0.ownBlock ≠ some b → b < w.heap.size → v.ownBlock ≠ some b)) (fun i _ => len - (intOf i).toNat)
  case atStart => exact ⟨0, by omega, rfl, v0, HH, hide (Fr.refl _ _), hide fun b h _ => h⟩
  case round =>
    obtain ⟨k, hk, rfl, v, hM, hF, hN⟩ := hrel
    by_cases hlt : k < len
    · obtain ⟨b, off, hab, hb1, hb2, hb3, hb4, hcz⟩ := unhide HC k (by have := unhide HLn; omega)
      subst hab
      have hkz : k < zs.length := by have := unhide HLn; omega
      have cz : wr.cell? ⟨b, off + k, none⟩ = some (.int .i64 (zs.getD k 0)) := (World.cell?_of_block (w := w) (a := ⟨b, off + k, none⟩) ((unhide hF).block b hb1 (fun x => by rcases x with e | e | e; exact hb2 e; exact hb3 e; exact hb4 e))).trans hcz
      have hkey : keyOf Tryd.prog 3 (.int .i64 (zs.getD k 0)) = some (.int .i64 (zs.getD k 0)) := keyOf_int_mk Tryd.underlying3 (wf_i64 (unhide HZ _ (by rw [List.getD, List.getElem?_eq_getElem hkz]; exact List.getElem_mem hkz)))
      have cr := (unhide hM).cr
      have ch := (unhide hM).ch
      have hst := meet_take (R := refB A) (s := (ks, wt)) hkz
      obtain ⟨ao, cp, hv, _⟩ := own_form (unhide hM).own
      subst hv
      have HMp := hide (unhide hM).map
      have hsz := (unhide hM).sz
      obtain ⟨hL1, hL2⟩ := unhide HL1 k hk
      generalize meetM (refB A) (ks, wt) (zs.take k) = t at *
      generalize zs.getD k 0 = z at *
      unfold stepM at hst
      clear hb1 hb2 hb3 hb4 hcz hkz
      cases hcn : t.1.contains z with
      | true =>
        have hhas : Maps.has (setD t.1) (Lit.int .i64 z) = true := by rw [has_setD]; exact hcn
        rw [if_pos (by rw [hcn]; rfl)] at hst
        have HST := hide hst
        clear hst hcn
        go_wp2_with (first | (at_lookup; refine wpList_lookup_own_unit _ rfl _ _ 74 rfl 3 76 law3 Tryd.underlying74 (zero73 _) (s + 1) t.1.length _ rfl (unhide HMp) _ _ rfl hkey ?_))
        go_roundw
        case rel => exact ⟨k + 1, by omega, by go_num, _, by rw [unhide HST]; exact hide ((unhide hM).quiet ((Fr.refl _ wr).alloc _)), hide ((unhide hF).alloc _), hN⟩
        case measure => simp [intOf]; omega
      | false =>
        have hhas : Maps.has (setD t.1) (Lit.int .i64 z) = false := by rw [has_setD]; exact hcn
        have HM2 := hide ((unhide hM).quiet ((Fr.refl _ wr).alloc (.cells #[] 76)))
        have HRv := hide (isRef_any B n A wd z (wr.alloc (.cells #[] 76)) (unhide HM2).at_ (unhide HI))
        have ch2 := (unhide HM2).ch
        have HF2 : Hid (Fr (fun _ => False) wr (wr.alloc (.cells #[] 76))) := hide ((Fr.refl _ wr).alloc (.cells #[] 76))
        unfold HB.ptr at HRv ch ch2
        cases hb : refB A z with
        | false =>
          rw [hb] at HRv
          rw [if_pos (by rw [hb]; simp)] at hst
          have HST := hide hst
          clear hst hcn hb
          go_wp2_with (first | (at_lookup; refine wpList_lookup_own_unit _ rfl _ _ 74 rfl 3 76 law3 Tryd.underlying74 (zero73 _) (s + 1) t.1.length _ rfl (unhide HMp) _ _ rfl hkey ?_) | (go_at_call 54; refine (unhide HRv).mono ?_; rintro e w4 ⟨rfl, hF4⟩))
          try go_wp2
          go_roundw
          case rel => exact ⟨k + 1, by omega, by go_num, _, by rw [unhide HST]; exact hide ((unhide HM2).quiet hF4), hide (((unhide hF).trans ((unhide HF2).mono fun _ x => x.elim)).trans (hF4.mono fun _ x => x.elim)), hN⟩
          case measure => simp [intOf]; omega
        | true =>
          rw [hb] at HRv
          rw [if_neg (by rw [hb, hcn]; simp)] at hst
          have HST := hide hst
          clear hst hcn hb
          go_wp2_with (first | (at_lookup; refine wpList_lookup_own_unit _ rfl _ _ 74 rfl 3 76 law3 Tryd.underlying74 (zero73 _) (s + 1) t.1.length _ rfl (unhide HMp) _ _ rfl hkey ?_) | (go_at_call 54; refine (unhide HRv).mono ?_; rintro e w4 ⟨rfl, hF4⟩; have HM4 := hide ((unhide HM2).quiet hF4); have cr4 := (unhide HM4).cr; have HF4 := hide ((unhide HF2).trans hF4); clear hF4) | (at_mapUpdate; refine wpList_mapUpdate_own _ rfl _ _ _ 74 rfl 3 76 law3 Tryd.underlying74 (unitElem (H := Unit)) (s + 1) t.1.length _ rfl (unhide HM4).map (by unfold maxLen; omega) _ _ _ rfl rfl hkey _ [] unitElem_mk ?_; intro w5 hown5 hgrow5; have HM5 := hide ((unhide HM4).put hown5 hgrow5); have ct5 := (unhide HM5).ct; have hsz5 := (unhide HM5).sz; have HF5 := hide (Fr.grown hgrow5); clear hown5 hgrow5) | (at_builtin; refine wpList_append_lies _ rfl _ _ 28 rfl (s + 4) 3 i0 (.int .i64 0) 1 8 Tryd.underlying28 hi hz0 hz1 hz2 rfl (by decide) (.slice ao t.2.length cp) t.2.length (t.2.map (Value.int .i64)) rfl ((unhide HM5).own.alloc _) ⟨w5.heap.size, 0, none⟩ 1 1 [.int .i64 z] rfl rfl (cell_one_new _ _ _) (ints_oneCell .i64 [z]) (by decide) (by unfold maxLen; omega) (by omega) (by simp; omega) _ rfl ?_; intro g cap6 w6 hown6 hgrow6 hat6 hgl6; have hp6 := (unhide HM5).push _ hown6 hgrow6; have c6 := hp6.1; have f6 := hp6.2.1; have HM6 := hide hp6.2.2; have HG6 := hide hgrow6; have HA6 := hide hat6; clear hp6 hown6 hgrow6 hat6 hgl6))
          have HF6 : Hid (Fr (fun j => j = s + 1 ∨ j = s + 3 ∨ v0.ownBlock = some j) w w6) := hide (((((unhide hF).trans ((unhide HF4).mono fun _ x => x.elim)).over (unhide HF5) (fun b e _ => .inl (by cases e; rfl))).alloc _).over (Fr.grown (unhide HG6)) (fun b e hb => .inr (.inr (Classical.byContradiction fun hne => unhide hN b hne hb e.symm))))
          have hw5 : w.heap.size ≤ w5.heap.size := Nat.le_trans (unhide hF).size (Nat.le_trans (unhide HF4).size (unhide HF5).size)
          go_roundw
          case rel =>
            refine ⟨k + 1, by omega, by go_num, _, by rw [unhide HST]; exact HM6, hide ((unhide HF6).over ((Fr.refl (fun j => j = s + 3) w6).setCell (p := ⟨s + 3, 0, none⟩) rfl _) (fun b e _ => .inr (.inl e))), hide fun b hb1 hb2 e => ?_⟩
            have eg : g = b := by simpa [Value.ownBlock] using e
            rcases unhide HA6 with e1 | e1
            · exact unhide hN b hb1 hb2 (by rw [e1, eg])
            · simp at e1; omega
          case measure => simp [intOf]; omega
    · have e : k = len := by omega
      subst e
      go_wp2
      go_end0
      exact unhide HP _ _ (unhide hM) (unhide hF)
end Go.Proofs.YtogjblikljggbaaDoor
