/- Reached. -/
import Derived.Test.YtinmaogbfcmagaaDoorSo
namespace Go.Proofs.YtinmaogbfcmagaaDoor
open Go.RowKit Go.Proofs.YtinmaogbfcmagaaDoor.Hp Go.Maps Go.Sort
/-- The keys met so far. -/
structure Col (ks : List Int) (left : Lit → Bool) (cs : List Int) : Prop where
  nd : cs.Nodup
  mem : ∀ x, x ∈ cs ↔ x ∈ ks ∧ left (.int .i64 x) = false
  sub : ∀ x, left (.int .i64 x) = true → x ∈ ks
theorem Col.start (ks : List Int) : Col ks (Maps.has (setD ks)) [] := by
  refine ⟨List.Pairwise.nil, fun x => ?_, fun x hx => ?_⟩
  · rw [has_setD]
    constructor
    · intro h; simp at h
    · rintro ⟨h1, h2⟩
      rw [List.contains_eq_mem, decide_eq_true h1] at h2
      cases h2
  · rw [has_setD] at hx
    simpa using hx
theorem same_int (x y : Int) : (Lit.int .i64 y).sameKey (.int .i64 x) = decide (y = x) := by
  show decide (IntKind.i64 = IntKind.i64 ∧ y = x) = _
  by_cases e : y = x <;> simp [e]
theorem Col.step {ks : List Int} {left : Lit → Bool} {cs : List Int} (h : Col ks left cs) {x : Int} (hl : left (.int .i64 x) = true) : Col ks (fun z => left z && !z.sameKey (.int .i64 x)) (cs ++ [x]) := by
  have hx : x ∉ cs := fun hc => by have := ((h.mem x).1 hc).2; rw [hl] at this; cases this
  refine ⟨?_, fun y => ?_, fun y hy => ?_⟩
  · rw [List.nodup_append]
    refine ⟨h.nd, by simp, fun a ha b hb => ?_⟩
    rintro rfl
    obtain rfl : a = x := by simpa using hb
    exact hx ha
  · rw [List.mem_append, h.mem y]
    simp only [same_int]
    constructor
    · rintro (⟨h1, h2⟩ | h1)
      · exact ⟨h1, by rw [h2]; rfl⟩
      · obtain rfl : y = x := by simpa using h1
        exact ⟨h.sub y hl, by simp⟩
    · rintro ⟨h1, h2⟩
      by_cases e : y = x
      · exact .inr (by simp [e])
      · exact .inl ⟨h1, by simpa [e] using h2⟩
  · simp only [Bool.and_eq_true] at hy
    exact h.sub y hy.1
theorem Col.done {ks : List Int} {left : Lit → Bool} {cs : List Int} (h : Col ks left cs) (hl : ∀ kl, left kl = false) (x : Int) : x ∈ cs ↔ x ∈ ks := by
  rw [h.mem x]
  exact ⟨fun y => y.1, fun y => ⟨y, hl _⟩⟩
/-- Sorted, they are a rising list of addresses. -/
theorem sorted_nat {N : Nat} {cs : List Int} (hn : cs.Nodup) (hr : ∀ x ∈ cs, 0 ≤ x ∧ x < N) : ∃ ys : List Nat, ys.Pairwise (· < ·) ∧ (∀ x : Nat, x ∈ ys ↔ (x : Int) ∈ cs) ∧ ys.map nv = (cs.mergeSort fun x y => decide (x ≤ y)).map (Value.int .i64) ∧ ys.length = cs.length := by
  have hp := List.mergeSort_perm cs (fun x y => decide (x ≤ y))
  have hs := List.pairwise_mergeSort (le := fun x y : Int => decide (x ≤ y)) (fun a b c h1 h2 => by simp at *; omega) (fun a b => by simp; omega) cs
  generalize cs.mergeSort (fun x y => decide (x ≤ y)) = ss at *
  have hnd : ss.Nodup := hp.symm.nodup hn
  have hm : ∀ x, x ∈ ss ↔ x ∈ cs := fun x => hp.mem_iff
  refine ⟨ss.map Int.toNat, ?_, fun x => ?_, ?_, by rw [List.length_map]; exact hp.length_eq⟩
  · rw [List.pairwise_map]
    have := hs.and hnd
    refine List.Pairwise.imp_of_mem ?_ this
    rintro a b ha hb ⟨h1, h2⟩
    have h3 := hr a ((hm a).1 ha)
    have h4 := hr b ((hm b).1 hb)
    simp at h1
    omega
  · rw [List.mem_map]
    constructor
    · rintro ⟨y, hy, rfl⟩
      have := hr y ((hm y).1 hy)
      rw [Int.toNat_of_nonneg this.1]
      exact (hm y).1 hy
    · intro h
      exact ⟨x, (hm _).2 h, by simp⟩
  · rw [List.map_map]
    apply List.map_congr_left
    intro a ha
    have := hr a ((hm a).1 ha)
    simp [nv]
    omega
def RchP (w : World) (A : Nat → Kd) (wd : Nat → Int) (zs : List Int) (e : Ending) (w' : World) : Prop :=
  ∃ ys : List Nat, ys.Pairwise (· < ·) ∧ (∀ x : Nat, x ∈ ys ↔ Reach (refB A) (kids A wd) zs (x : Int)) ∧ BlkP w ys e w'
set_option maxRecDepth 100000 in
set_option maxHeartbeats 4000000 in
theorem Reached_any (w : World) (B : HB) (n : Nat) (A : Nat → Kd) (wd : Nat → Int) (a0 : Option Addr) (cap : Nat) (zs : List Int)
    (h : At w B n (hrOf A wd)) (hI : Inv n A) (hl : zs.length ≤ 1000) (hz : ∀ z ∈ zs, -9223372036854775808 ≤ z ∧ z < 9223372036854775808)
    (hc : ∀ j, j < zs.length → ∃ b off, a0 = some ⟨b, off, none⟩ ∧ b < w.heap.size ∧ w.cell? ⟨b, off + j, none⟩ = some (.int .i64 (zs.getD j 0))) :
    Calls Tryd.prog 17 #[B.ptr, .slice a0 zs.length cap] w fun e w' => RchP w A wd zs e w' := by
  have HC := hide (mark_any w B n A wd a0 cap zs h hI hl hz hc)
  have hn := h.hi
  have HI := hide hI
  obtain ⟨i0, hi, hz0, hz1, hz2⟩ := info_parts Tryd.info3
  unfold HB.ptr at HC ⊢
  clear h hI hz hc
  go_enter Tryd.func17, Tryd.ntmps17
  go_wp2_with fail
  refine (unhide HC).mono ?_
  rintro e w1 ⟨bm, ks, rfl, hbm, hmap, hnd, hks, hkl, hF⟩
  have HM := hide hmap
  have HF := hide hF
  have HK : Hid (ks.Nodup ∧ (∀ x, x ∈ ks ↔ Reach (refB A) (kids A wd) zs x) ∧ w.heap.size ≤ bm ∧ bm < w1.heap.size) := hide ⟨hnd, hks, hbm, hmap.lt⟩
  have HR : Hid (∀ x ∈ ks, 0 ≤ x ∧ x < ((64 * n : Nat) : Int)) := hide fun x hx => by
    obtain ⟨y, rfl, h1, h2, h3, _⟩ := ref_nat (unhide HI) ((hks x).1 hx).ref
    omega
  clear hmap hF hnd hks hbm HC
  go_wp2_with (first | (at_range; refine wpList_range_own _ rfl _ 70 rfl 3 73 law3 Tryd.underlying70 _ bm ks.length _ rfl (unhide HM) ?_; intro w2 hrg0 hg0 hs0))
  go_frame
  have HG0 := hide hg0
  have HR0 := hide hrg0
  obtain ⟨r, hr⟩ : ∃ r, r = w1.heap.size := ⟨_, rfl⟩
  rw [← hr] at hs0 HR0
  have HRr := hide hr
  rw [← hr]
  clear hg0 hrg0 hr
  have HF2 : Hid (Fr (fun _ => False) w w2) := hide ((unhide HF).trans ((Fr.grown (unhide HG0)).mono fun _ x => by cases x))
  go_loopw [5] (fun v wr => ∃ (left : Lit → Bool) (cnt : Nat) (cs : List Int) (c : Nat) (ao : Option Addr) (cp : Nat), v = .slice ao c cp ∧ c ≤ 2000000 ∧ Hid (c = cs.length) ∧ Hid (wr.ranges Tryd.prog 3 (unitElem (H := Unit)) bm r ks.length (setD ks) left cnt) ∧ Hid (Col ks left cs) ∧ Hid (wr.ownsRow (r + 1) 3 1 (.slice ao c cp) c (cs.map (Value.int .i64))) ∧ Hid (Fr (fun _ => False) w wr) ∧ r + 1 ≤ wr.heap.size) (fun _ wr => wr.rangeLeft bm r)
  case atStart => exact ⟨_, _, [], 0, none, 0, rfl, by omega, hide rfl, HR0, hide (Col.start ks), hide (by have := World.ownsRow_nil w2 (r + 1) 3 1; exact this), HF2, by omega⟩
  case round =>
    obtain ⟨left, cnt, cs, c, ao, cp, rfl, hcl, hcc, hrg, hcol, hO, hF, hsz⟩ := hrel
    clear HR0 HG0 HF2 HM hs0
    go_wp2_with (first | (at_next; refine wpList_next_ranges _ rfl _ rfl 3 law3 (unitElem (H := Unit)) (Value.int .i64) (fun _ : Unit => Value.agg #[]) (fun key kl hk => by obtain ⟨x, rfl, _⟩ := Maps.keyOf_int_inv Tryd.underlying3 hk; exact ⟨x, rfl⟩) (fun v y hv => ⟨(), (unitElem_inv hv).1⟩) bm r ks.length _ _ _ rfl (unhide hrg) ?_ ?_))
    · intro _ hl0
      have hdone := (unhide hcol).done hl0
      have hcs : cs.length = c := (unhide hcc).symm
      obtain ⟨ys, hy1, hy2, hy3, hy4⟩ := sorted_nat (unhide hcol).nd (fun x hx => unhide HR x ((hdone x).1 hx))
      have HY : Hid (∀ (e : Ending) (w' : World), BlkP w ys e w' → RchP w A wd zs e w') := hide fun e w' hb => ⟨ys, hy1, fun x => by rw [hy2 x, hdone]; exact (unhide HK).2.1 x, hb⟩
      have HY3 := hide hy3
      have HY4 := hide hy4
      clear hy1 hy2 hy3 hy4 hdone hl0
      rcases (unhide hO).2 with ⟨hv, hc0⟩ | ⟨g, cpx, cur, hv, hg1, hg2, hg3, hg4, hg5, hg6⟩
      · cases hv
        have HSn := hide (Sort_nil wr)
        have HE : Hid (RchP w A wd zs (.returned (.slice none 0 0)) wr) := hide (unhide HY _ _ (by
          have : ys = [] := List.eq_nil_of_length_eq_zero (by rw [unhide HY4]; exact hcs)
          rw [this]
          exact ⟨none, 0, rfl, by have := World.ownsRow_nil wr w.heap.size 3 1; exact this, unhide hF⟩))
        clear hcs hc0
        go_wp2_with (first | (go_at_call 34; refine (unhide HSn).mono ?_; rintro e w' ⟨rfl, rfl⟩))
        go_ret
        exact unhide HE
      · cases hv
        have HSo : Hid (Calls Tryd.prog 34 #[.slice (some ⟨g, 0, none⟩) c cp] wr fun e w' => e = .returned (.tuple #[]) ∧ ∃ n os, w' = grow (putRow (Value.int .i64) (Sort.ahead wr n) g 0 (cs.mergeSort fun x y => decide (x ≤ y)).toArray) os) := hide (by
          have := Sort_any g 0 cp cs wr (holds_of_blockI hg2 (by rw [hcs]; simpa using hg6)) (Array.getElem?_eq_some_iff.1 hg2).1 (by omega)
          rw [hcs] at this
          exact this)
        have HE : Hid (∀ n os, RchP w A wd zs (.returned (.slice (some ⟨g, 0, none⟩) c cp)) (grow (putRow (Value.int .i64) (Sort.ahead wr n) g 0 (cs.mergeSort fun x y => decide (x ≤ y)).toArray) os)) := hide fun nn os => unhide HY _ _ (by
          have h1 := ownsRow_sortedI (w := wr) (base := r + 1) (g := g) (cap := cp) (n := nn) (e := 3) (os := os) (cur := cur) (ss := cs) (ts := cs.mergeSort fun x y => decide (x ≤ y)) (by simp) hg1 hg2 (by omega) hg4 hg5
          have h2 := grownBy_sortedI (w := wr) (g := g) (n := nn) (os := os) (cs.mergeSort fun x y => decide (x ≤ y)).toArray
          have hl := unhide HY4
          have h3 : w.heap.size ≤ r := by rw [unhide HRr]; exact (unhide HF).size
          refine ⟨some ⟨g, 0, none⟩, cp, by rw [hl, hcs], ?_, (unhide hF).up (Fr.grown h2) (fun j e => by cases e; omega)⟩
          rw [hl, unhide HY3]
          exact own_low (by omega) h1)
        clear hg2 hg3 hg4 hg5 hg6 hcs
        go_wp2_with (first | (go_at_call 34; refine (unhide HSo).mono ?_; rintro e w' ⟨rfl, nn, os, rfl⟩))
        go_ret
        exact unhide HE _ _
    · intro x kl yd yp w3 cnt3 hkey hlk hv hat hrg3 hlt hg3 hs3 hen
      obtain ⟨x', ex, rfl, _⟩ := Maps.keyOf_int_inv Tryd.underlying3 hkey
      cases ex
      have hcol3 := (unhide hcol).step hlk
      have hc1 : c + 1 ≤ 1048576 := by
        have h1 := nd_le (64 * n) _ hcol3.nd (fun y hy => unhide HR y ((hcol3.mem y).1 hy).1)
        rw [List.length_append, ← unhide hcc] at h1
        simp at h1
        omega
      have HC3 := hide hcol3
      have HR3 := hide hrg3
      have HLt := hide hlt
      have HO3 := hide (own_fr (unhide hO) (Fr.grown hg3) (fun j e => by cases e; omega))
      have hsz3 : r + 1 ≤ w3.heap.size := by omega
      have h3 : w.heap.size ≤ r := by rw [unhide HRr]; exact (unhide HF).size
      have HF3 := hide ((unhide hF).up (Fr.grown hg3) (fun j e => by cases e; omega))
      clear hcol3 hrg3 hlt hg3 hs3 hv hat hkey hlk
      go_wp2_with (first | (at_builtin; refine wpList_append_own _ rfl _ _ 29 rfl (r + 1) 3 i0 (.int .i64 0) 1 8 Tryd.underlying29 hi hz0 hz1 hz2 rfl (by decide) (.slice ao c cp) c (cs.map (Value.int .i64)) rfl ((unhide HO3).alloc _) ⟨w3.heap.size, 0, none⟩ 1 1 [.int .i64 x] rfl rfl (cell_one_new _ _ _) (ints_oneCell .i64 [x]) (by unfold maxLen; omega) (by omega) (by simp; omega) ?_; intro v' w4 hown4 hgrow4 hnil4; obtain ⟨ao4, cp4, hv4, _⟩ := own_form hown4; subst hv4))
      have hlo : ∀ j, some j = (Value.slice ao c cp).ownBlock → r + 1 ≤ j := fun j e => ((unhide HO3).lt j e.symm).1
      have hbr : bm < r := by rw [unhide HRr]; exact (unhide HK).2.2.2
      have hR4 := ((unhide HR3).alloc (.cells #[.int .i64 x] 3)).kept hgrow4 (fun e => by have := hlo _ e; omega) (fun e => by have := hlo _ e; omega)
      go_roundw
      case rel => exact ⟨_, cnt3, cs ++ [x], c + 1, ao4, cp4, rfl, by omega, hide (by rw [List.length_append, ← unhide hcc]; rfl), hide hR4, HC3, hide (by rw [List.map_append]; exact hown4), hide (((unhide HF3).alloc _).up (Fr.grown hgrow4) (fun j e => by have := hlo j e; omega)), by have := hgrow4.size; simp at this; omega⟩
      case measure => rw [hR4.left_eq, (unhide hrg).left_eq]; exact unhide HLt
end Go.Proofs.YtinmaogbfcmagaaDoor
