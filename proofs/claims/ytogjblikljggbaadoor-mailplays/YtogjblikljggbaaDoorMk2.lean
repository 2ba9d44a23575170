/- mark. -/
import Derived.Test.YtogjblikljggbaaDoorMk1
import Derived.Deep.LoopGhost
namespace Go.Proofs.YtogjblikljggbaaDoor
open Go.RowKit Go.Proofs.YtogjblikljggbaaDoor.Hp Go.Maps
/-- What mark leaves: the set of what is reached. -/
def MarkP (w : World) (A : Nat → Kd) (wd : Nat → Int) (n : Nat) (roots : List Int) (e : Ending) (w' : World) : Prop :=
  ∃ (bm : Nat) (ks : List Int), e = .returned (.map (some bm)) ∧ w.heap.size ≤ bm ∧ w'.ownsMap Tryd.prog 3 (unitElem (H := Unit)) bm ks.length (setD ks) ∧ ks.Nodup ∧ (∀ x, x ∈ ks ↔ Reach (refB A) (kids A wd) roots x) ∧ ks.length ≤ 64 * n ∧ Fr (fun _ => False) w w'
theorem own_pop {w : World} {base n cp : Nat} {ao : Option Addr} {wt : List Int} {a : Int} (h : w.ownsRow base 3 1 (.slice ao (n + 1) cp) (n + 1) ((wt ++ [a]).map (Value.int .i64))) : w.ownsRow base 3 1 (.slice ao n cp) n (wt.map (Value.int .i64)) := by
  obtain ⟨h1, h2⟩ := h
  have hl : wt.length = n := by simpa using h1
  refine ⟨by simp [hl], ?_⟩
  rcases h2 with ⟨h3, h4⟩ | ⟨g, cap, cur, h3, h4, h5, h6, h7, h8, h9⟩
  · omega
  · cases h3
    refine .inr ⟨g, _, cur, rfl, h4, h5, by omega, h7, h8, ?_⟩
    have : (cur.toList.take ((n + 1) * 1)).take (n * 1) = ((wt ++ [a]).map (Value.int .i64)).take (n * 1) := by rw [h9]
    rw [List.take_take, Nat.min_eq_left (by omega)] at this
    rw [this, List.map_append, List.take_append_of_le_length (by simp [hl]), List.take_of_length_le (by simp [hl])]
/-- Behind taking the last of the waiting ones. -/
theorem Mt.pop {s : Nat} {w : World} {B : HB} {n : Nat} {A : Nat → Kd} {wd : Nat → Int} {ks wt : List Int} {a : Int} {ao : Option Addr} {cp : Nat} (h : Mt s w B n A wd ks (wt ++ [a]) (.slice ao (wt.length + 1) cp)) :
    Mt s (w.setCell ⟨s + 3, 0, none⟩ (.slice ao wt.length cp)) B n A wd ks wt (.slice ao wt.length cp) := by
  have hs := h.sz
  have k2 : Fr (fun j => j = s + 3) w (w.setCell ⟨s + 3, 0, none⟩ (.slice ao wt.length cp)) := (Fr.refl (fun j => j = s + 3) w).setCell (p := ⟨s + 3, 0, none⟩) rfl _
  refine ⟨h.at_.fr' k2 (fun b hb e => by have := h.mem b hb; omega), h.mem, ?_, ?_, ?_, ?_, ?_, ?_, ?_⟩
  · exact (World.cell?_of_block (w := w) (a := ⟨s, 0, none⟩) (k2.block s (by omega) (by omega))).trans h.ch
  · exact (World.cell?_of_block (w := w) (a := ⟨s + 2, 0, none⟩) (k2.block (s + 2) (by omega) (by omega))).trans h.cr
  · exact World.cell?_setCell_same _ _ _ h.ct
  · rw [World.frozen?_setCell]; exact h.ft
  · have := h.own
    rw [List.length_append] at this
    exact own_fr (own_pop this) k2 (fun j e => by omega)
  · exact map_fr h.map k2 (by omega)
  · exact Nat.le_trans h.sz k2.size
theorem own_cap {w : World} {base e size n cp : Nat} {ao : Option Addr} {xs : List Value} (h : w.ownsRow base e size (.slice ao n cp) n xs) : n ≤ cp := by
  rcases h.2 with ⟨h2, h3⟩ | ⟨g, cap, cur, h2, _, _, h5, _⟩
  · omega
  · cases h2; exact h5
theorem own_cells {w : World} {base n cp : Nat} {ao : Option Addr} {ys : List Int} (h : w.ownsRow base 3 1 (.slice ao n cp) n (ys.map (Value.int .i64))) : ∀ j, j < n → ∃ b, ao = some ⟨b, 0, none⟩ ∧ base ≤ b ∧ b < w.heap.size ∧ w.cell? ⟨b, j, none⟩ = some (.int .i64 (ys.getD j 0)) := by
  intro j hj
  obtain ⟨ao', cp', e, hg⟩ := own_form h
  cases e
  obtain ⟨g, rfl⟩ := hg (by omega)
  have hl := h.lt g rfl
  have hn : ys.length = n := by simpa using h.1
  exact ⟨g, rfl, hl.1, hl.2, by rw [h.cellAt j (by omega)]; simp [List.getD, List.getElem?_eq_getElem (show j < ys.length by omega)]⟩
theorem MkI.few {n : Nat} {A : Nat → Kd} {wd : Nat → Int} {roots ks wt : List Int} (hI : Inv n A) (h : MkI (refB A) (kids A wd) roots ks wt) : ks.length ≤ 64 * n :=
  nd_le (64 * n) ks h.nd fun x hx => by
    obtain ⟨y, rfl, h1, h2, h3, _⟩ := ref_nat hI (h.sound x hx).ref
    omega
theorem kids_few {n : Nat} {A : Nat → Kd} (wd : Nat → Int) (z : Int) (_hI : Inv n A) : (kids A wd z).length ≤ 40000 := by
  unfold kids
  split
  · rename_i h
    have h1 := kidsTo_len A wd z.toNat (min (hS (wd z.toNat)).toNat (roomI A z - 1))
    have h2 := h.2
    unfold IsH at h2
    have : (hS (wd z.toNat)).toNat ≤ 16447 := by unfold hS; omega
    omega
  · simp
theorem start_any {w : World} {B : HB} {n : Nat} {A : Nat → Kd} {wd : Nat → Int} (h : At w B n (hrOf A wd)) (s : Nat) (hs : s = w.heap.size) :
    Mt s ((((w.alloc (Obj.cells #[B.ptr] 49)).alloc (Obj.map #[] 0)).alloc (Obj.cells #[Value.map (some (s + 1))] 74)).alloc (Obj.cells #[Value.slice none 0 0] 28)) B n A wd [] [] (.slice none 0 0) ∧ Fr (fun _ => False) w ((((w.alloc (Obj.cells #[B.ptr] 49)).alloc (Obj.map #[] 0)).alloc (Obj.cells #[Value.map (some (s + 1))] 74)).alloc (Obj.cells #[Value.slice none 0 0] 28)) := by
  have e1 : (w.alloc (Obj.cells #[B.ptr] 49)).heap.size = s + 1 := by simp [hs]
  have c1 : (w.alloc (Obj.cells #[B.ptr] 49)).cell? ⟨s, 0, none⟩ = some B.ptr := by rw [hs, World.cell?_alloc_at _ _ _ _ rfl]; rfl
  have f1 : Fr (fun _ => False) w (w.alloc (Obj.cells #[B.ptr] 49)) := (Fr.refl _ w).alloc _
  generalize w.alloc (Obj.cells #[B.ptr] 49) = w1 at *
  have e2 : (w1.alloc (Obj.map #[] 0)).heap.size = s + 2 := by simp [e1]
  have m2 : (w1.alloc (Obj.map #[] 0)).ownsMap Tryd.prog 3 (unitElem (H := Unit)) (s + 1) 0 (setD []) := by
    have := World.ownsMap_made w1 Tryd.prog 3 (unitElem (H := Unit))
    rw [e1] at this
    exact this
  have f2 : Fr (fun _ => False) w1 (w1.alloc (Obj.map #[] 0)) := (Fr.refl _ w1).alloc _
  generalize w1.alloc (Obj.map #[] 0) = w2 at *
  have e3 : (w2.alloc (Obj.cells #[Value.map (some (s + 1))] 74)).heap.size = s + 3 := by simp [e2]
  have c3 : (w2.alloc (Obj.cells #[Value.map (some (s + 1))] 74)).cell? ⟨s + 2, 0, none⟩ = some (Value.map (some (s + 1))) := by rw [← e2, World.cell?_alloc_at _ _ _ _ rfl]; rfl
  have f3 : Fr (fun _ => False) w2 (w2.alloc (Obj.cells #[Value.map (some (s + 1))] 74)) := (Fr.refl _ w2).alloc _
  generalize w2.alloc (Obj.cells #[Value.map (some (s + 1))] 74) = w3 at *
  have e4 : (w3.alloc (Obj.cells #[Value.slice none 0 0] 28)).heap.size = s + 4 := by simp [e3]
  have c4 : (w3.alloc (Obj.cells #[Value.slice none 0 0] 28)).cell? ⟨s + 3, 0, none⟩ = some (Value.slice none 0 0) := by rw [← e3, World.cell?_alloc_at _ _ _ _ rfl]; rfl
  have g4 : (w3.alloc (Obj.cells #[Value.slice none 0 0] 28)).frozen? ⟨s + 3, 0, none⟩ = false := by rw [← e3]; exact World.frozen?_alloc_at _ _ _ _ rfl
  have f4 : Fr (fun _ => False) w3 (w3.alloc (Obj.cells #[Value.slice none 0 0] 28)) := (Fr.refl _ w3).alloc _
  generalize w3.alloc (Obj.cells #[Value.slice none 0 0] 28) = w4 at *
  have F := ((f1.trans f2).trans f3).trans f4
  refine ⟨⟨h.quiet F, fun k hk => by rw [hs]; exact h.lt hk, ?_, ?_, c4, g4, by have := World.ownsRow_nil w4 (s + 4) 3 1; exact this, map_fr m2 (f3.trans f4) id, by omega⟩, F⟩
  · exact (World.cell?_of_block (w := w1) (a := ⟨s, 0, none⟩) (((f2.trans f3).trans f4).block s (by omega) id)).trans c1
  · exact (World.cell?_of_block (w := w3) (a := ⟨s + 2, 0, none⟩) (f4.block (s + 2) (by omega) id)).trans c3
theorem getD_last (wt : List Int) (a : Int) : (wt ++ [a]).getD wt.length 0 = a := by simp [List.getD]
set_option maxRecDepth 100000 in
set_option maxHeartbeats 4000000 in
theorem mark_any (w : World) (B : HB) (n : Nat) (A : Nat → Kd) (wd : Nat → Int) (a0 : Option Addr) (cap : Nat) (zs : List Int)
    (h : At w B n (hrOf A wd)) (hI : Inv n A) (hl : zs.length ≤ 1000) (hz : ∀ z ∈ zs, -9223372036854775808 ≤ z ∧ z < 9223372036854775808)
    (hc : ∀ j, j < zs.length → ∃ b off, a0 = some ⟨b, off, none⟩ ∧ b < w.heap.size ∧ w.cell? ⟨b, off + j, none⟩ = some (.int .i64 (zs.getD j 0))) :
    Calls Tryd.prog 43 #[B.ptr, .slice a0 zs.length cap] w fun e w' => MarkP w A wd n zs e w' := by
  have hmm := @run_makeMap Tryd.prog
  obtain ⟨s, hs⟩ : ∃ s, s = w.heap.size := ⟨_, rfl⟩
  have HS := hide hs
  have hmem : ∀ k, B.mem k → k < s := fun k hk => by rw [hs]; exact h.lt hk
  have HH := hide h
  have HI := hide hI
  have HZ := hide hz
  have HC := hide hc
  have HMm := hide hmem
  clear h hI hz hc hmem
  obtain ⟨len, hlen⟩ : ∃ len, len = zs.length := ⟨_, rfl⟩
  rw [← hlen]
  have HLn := hide hlen
  have hln : len ≤ 1000 := by omega
  clear hlen hl
  unfold HB.ptr
  go_enter Tryd.func43, Tryd.ntmps43
  go_wp2_with fail
  rw [← hs]
  simp only [Nat.add_assoc, Nat.reduceAdd]
  have HW : Hid (Mt s ((((w.alloc (Obj.cells #[.pointer (some ⟨B.p, 0, none⟩)] 49)).alloc (Obj.map #[] 0)).alloc (Obj.cells #[Value.map (some (s + 1))] 74)).alloc (Obj.cells #[Value.slice none 0 0] 28)) B n A wd [] [] (.slice none 0 0) ∧ Fr (fun _ => False) w ((((w.alloc (Obj.cells #[.pointer (some ⟨B.p, 0, none⟩)] 49)).alloc (Obj.map #[] 0)).alloc (Obj.cells #[Value.map (some (s + 1))] 74)).alloc (Obj.cells #[Value.slice none 0 0] 28))) := hide (start_any (unhide HH) s hs)
  clear hs
  generalize ((((w.alloc (Obj.cells #[.pointer (some ⟨B.p, 0, none⟩)] 49)).alloc (Obj.map #[] 0)).alloc (Obj.cells #[Value.map (some (s + 1))] 74)).alloc (Obj.cells #[Value.slice none 0 0] 28)) = W at *
  have HCm : Hid (Calls Tryd.prog 53 #[.slice a0 len cap, .pointer (some ⟨s + 2, 0, none⟩), .pointer (some ⟨s, 0, none⟩), .pointer (some ⟨s + 3, 0, none⟩)] W fun e w' => MeetP s W B n A wd (meetM (refB A) ([], []) zs) e w') := hide (by
    have hlen := unhide HLn
    rw [hlen]
    refine meet_any s W B n A wd [] [] _ a0 cap zs (unhide HW).1 (unhide HI) (by simp; omega) (by simp; omega) (unhide HZ) fun j hj => ?_
    obtain ⟨b, off, h1, h2, h3⟩ := unhide HC j hj
    have hs := unhide HS
    refine ⟨b, off, h1, Nat.lt_of_lt_of_le h2 (unhide HW).2.size, by omega, by omega, by simp [Value.ownBlock], ?_⟩
    exact (World.cell?_of_block (w := w) (a := ⟨b, off + j, none⟩) ((unhide HW).2.block b h2 id)).trans h3)
  refine (unhide HCm).mono ?_
  rintro e w1 ⟨rfl, ⟨v, hM⟩, hF⟩
  have hst := MkI.start (refB A) (kids A wd) zs
  have hml := met_full (refB A) ([], []) zs
  generalize meetM (refB A) ([], []) zs = t at *
  have HMt := hide hM
  have HF1 : Hid (Fr (fun _ => False) w w1) := hide ((unhide HW).2.up hF (fun b hb => by have := unhide HS; rcases hb with e | e <;> omega))
  have HSt : Hid (MkI (refB A) (kids A wd) zs t.1 t.2 ∧ t.2.length ≤ t.1.length) := hide ⟨hst, by have := hml.len; simp at this; omega⟩
  clear hM hF hst hml HCm HW
  go_wp2
  go_loopg [15] ((64 * n - t.1.length) + t.2.length) (fun gk _ wr => ∃ (ks wt : List Int) (v : Value), Hid (gk = (64 * n - ks.length) + wt.length) ∧ Hid (Mt s wr B n A wd ks wt v) ∧ Hid (MkI (refB A) (kids A wd) zs ks wt ∧ wt.length ≤ ks.length) ∧ Hid (Fr (fun _ => False) w wr))
  case atStart => exact ⟨t.1, t.2, v, hide rfl, HMt, HSt, HF1⟩
  case round =>
    obtain ⟨ks, wt, v1, hgk, hM, hK, hF⟩ := hrel
    obtain ⟨ao, cp, hv, hg⟩ := own_form (unhide hM).own
    subst hv
    have ct := (unhide hM).ct
    have ft := (unhide hM).ft
    have cr := (unhide hM).cr
    rcases List.eq_nil_or_concat wt with rfl | ⟨wt0, a, rfl⟩
    · clear hg
      have HR : Hid (MarkP w A wd n zs (.returned (.map (some (s + 1)))) wr) := hide ⟨s + 1, ks, rfl, by have := unhide HS; omega, (unhide hM).map, (unhide hK).1.nd, (unhide hK).1.done, (unhide hK).1.few (unhide HI), unhide hF⟩
      simp only [List.length_nil] at ct
      go_wp2
      go_ret
      exact unhide HR
    · obtain ⟨g, hg'⟩ := hg (by simp)
      subst hg'
      clear hg
      obtain ⟨m, hm⟩ : ∃ m, m = wt0.length := ⟨_, rfl⟩
      have hml : (wt0.concat a).length = m + 1 := by simp [hm]
      have hcc : wt0.concat a = wt0 ++ [a] := by simp
      rw [hml] at ct hM
      rw [hcc] at hM hK hgk
      have hmb : m ≤ 3000000 := by
        have h1 := (unhide hK).1.few (unhide HI)
        have h2 := (unhide hK).2
        have h3 := (unhide HH).hi
        rw [List.length_append, ← hm] at h2
        omega
      have hcap : m + 1 ≤ cp := by
        have := (unhide hM).own
        rw [List.length_append, ← hm] at this
        exact own_cap this
      have ca : wr.cell? ⟨g, m, none⟩ = some (.int .i64 a) := by
        have := (unhide hM).own
        rw [List.length_append, ← hm] at this
        obtain ⟨b, hb, _, _, hc⟩ := own_cells this m (by simp)
        cases hb
        rw [hc, hm, getD_last]
      have HPp : Hid (Mt s (wr.setCell ⟨s + 3, 0, none⟩ (.slice (some ⟨g, 0, none⟩) m cp)) B n A wd ks wt0 (.slice (some ⟨g, 0, none⟩) m cp)) := hide (by
        have := unhide hM
        rw [hm] at this ⊢
        exact this.pop)
      have ch2 := (unhide HPp).ch
      unfold HB.ptr at ch2
      have HCh := hide (Children_any B n A wd a _ (unhide HPp).at_ (unhide HI))
      unfold HB.ptr at HCh
      have HF2 : Hid (Fr (fun _ => False) w (wr.setCell ⟨s + 3, 0, none⟩ (.slice (some ⟨g, 0, none⟩) m cp))) := hide ((unhide hF).up ((Fr.refl (fun j => j = s + 3) wr).setCell (p := ⟨s + 3, 0, none⟩) rfl _) (fun b hb => by have := unhide HS; omega))
      have hgl : g < (wr.setCell ⟨s + 3, 0, none⟩ (.slice (some ⟨g, 0, none⟩) m cp)).heap.size := ((unhide HPp).own.lt g rfl).2
      have hsz := (unhide HPp).sz
      have HMl := hide hm
      clear hml hcc hm
      go_wp2_with fail
      refine (unhide HCh).mono ?_
      rintro e w2 ⟨ao2, cp2, rfl, hO2, hF3⟩
      have HM2 := hide ((unhide HPp).quiet hF3)
      have HCm2 : Hid (Calls Tryd.prog 53 #[.slice ao2 (kids A wd a).length cp2, .pointer (some ⟨s + 2, 0, none⟩), .pointer (some ⟨s, 0, none⟩), .pointer (some ⟨s + 3, 0, none⟩)] w2 fun e w' => MeetP s w2 B n A wd (meetM (refB A) (ks, wt0) (kids A wd a)) e w') := hide (by
        have h1 := (unhide hK).1.few (unhide HI)
        have h2 := (unhide hK).2
        have h3 := (unhide HH).hi
        have h4 := kids_few wd a (unhide HI)
        rw [List.length_append] at h2
        refine meet_any s w2 B n A wd ks wt0 _ ao2 cp2 (kids A wd a) (unhide HM2) (unhide HI) (by omega) (by omega) (fun z hz => ?_) fun j hj => ?_
        · obtain ⟨y, rfl, _, _, h5, _⟩ := ref_nat (unhide HI) (kids_ref hz)
          omega
        · obtain ⟨b, hb1, hb2, hb3, hb4⟩ := own_cells hO2 j hj
          refine ⟨b, 0, hb1, hb3, by omega, by omega, ?_, by rw [Nat.zero_add]; exact hb4⟩
          intro e
          have eg : g = b := by simpa [Value.ownBlock] using e
          omega)
      have HF4 := hide ((unhide HF2).trans hF3)
      clear hO2 hF3
      go_wp2_with fail
      refine (unhide HCm2).mono ?_
      rintro e w3 ⟨rfl, ⟨v3, hM3⟩, hF5⟩
      have hst := (unhide hK).1.step
      have hfew := hst.1.few (unhide HI)
      have hfew0 := (unhide hK).1.few (unhide HI)
      generalize meetM (refB A) (ks, wt0) (kids A wd a) = t2 at *
      have HX : Hid (∃ (ks wt : List Int) (v : Value), Hid ((64 * n - t2.1.length) + t2.2.length = (64 * n - ks.length) + wt.length) ∧ Hid (Mt s w3 B n A wd ks wt v) ∧ Hid (MkI (refB A) (kids A wd) zs ks wt ∧ wt.length ≤ ks.length) ∧ Hid (Fr (fun _ => False) w w3)) := hide ⟨t2.1, t2.2, v3, hide rfl, hide hM3, hide ⟨hst.1, by have := (unhide hK).2; rw [List.length_append] at this; omega⟩, hide ((unhide HF4).up hF5 (fun b hb => by have := unhide HS; rcases hb with e | e <;> omega))⟩
      have HLt : Hid ((64 * n - t2.1.length) + t2.2.length < gk) := hide (by
        have h1 := unhide hgk
        have h2 := hst.2
        rw [List.length_append, List.length_singleton] at h1
        omega)
      clear hM3 hF5 hst hfew hfew0
      go_wp2
      go_roundg ((64 * n - t2.1.length) + t2.2.length)
      case measure => exact unhide HLt
      case rel => exact unhide HX
end Go.Proofs.YtogjblikljggbaaDoor
