/- HeapReuses, walked. -/
import Derived.Test.YtkhegceikdegbaaDoorRe1
namespace Go.Proofs.YtkhegceikdegbaaDoor
open Go.RowKit Go.Proofs.YtkhegceikdegbaaDoor.Hp
theorem own_blk {w w' : World} {base e size n : Nat} {v : Value} {xs : List Value} (h : w.ownsRow base e size v n xs) (hb : ∀ g, v.ownBlock = some g → w'.heap[g]? = w.heap[g]?) : w'.ownsRow base e size v n xs := by
  refine ⟨h.1, ?_⟩
  rcases h.2 with h2 | ⟨g, cap, cur, rfl, h3, h4, h5⟩
  · exact .inl h2
  · exact .inr ⟨g, cap, cur, rfl, h3, (hb g rfl).trans h4, h5⟩
theorem own_fr {w w' : World} {K : Nat → Prop} {base e size n : Nat} {v : Value} {xs : List Value} (h : w.ownsRow base e size v n xs) (k : Fr K w w') (hb : ∀ j, K j → j < base) : w'.ownsRow base e size v n xs :=
  own_blk h fun g hg => k.block g (h.lt g hg).2 fun x => by have := hb g x; have := (h.lt g hg).1; omega
theorem own_form {w : World} {base e size n : Nat} {v : Value} {xs : List Value} (h : w.ownsRow base e size v n xs) : ∃ ao cp, v = .slice ao n cp ∧ (0 < n → ∃ g, ao = some ⟨g, 0, none⟩) := by
  rcases h.2 with ⟨h2, h3⟩ | ⟨g, cap, cur, h2, _⟩
  · exact ⟨none, 0, by rw [h2, h3], fun hn => by omega⟩
  · exact ⟨_, cap, h2, fun _ => ⟨g, rfl⟩⟩
theorem Fr.grown {w w' : World} {row : Option Nat} (h : w.grownBy w' row) : Fr (fun k => some k = row) w w' := ⟨h.os, h.tape, h.output, h.size, fun k hk hn => h.block k hk hn⟩
def adL (ad : Nat → Nat) (k : Nat) : List Value := (List.range k).map fun j => .int .i64 (ad j)
theorem adL_len (ad : Nat → Nat) (k : Nat) : (adL ad k).length = k := by simp [adL]
theorem adL_succ (ad : Nat → Nat) (k : Nat) : adL ad k ++ [.int .i64 (ad k)] = adL ad (k + 1) := by simp [adL, List.range_succ]
theorem adL_get (ad : Nat → Nat) {j k : Nat} (h : j < k) : (adL ad k)[j]? = some (.int .i64 (ad j)) := by simp [adL, h]
/-- Addresses in a slice of the law's own, beside the heap. -/
structure L1 (w0 w : World) (B : HB) (base n : Nat) (ad : Nat → Nat) (A : Nat → Kd) (k : Nat) (v : Value) : Prop where
  own : w.ownsRow base 3 1 v k (adL ad k)
  hp : ∃ wd, At w B n (hrOf A wd)
  far : Fr (fun _ => False) w0 w
  vars : Vars w
  le : base ≤ w.heap.size
theorem L1.heap {w0 w w' : World} {B : HB} {base n k : Nat} {ad : Nat → Nat} {A A' : Nat → Kd} {v : Value} (h : L1 w0 w B base n ad A k v) (hB : ∀ j, B.mem j → w0.heap.size ≤ j ∧ j < base) (hF : Fr B.mem w w') (hV : Vars w') {wd : Nat → Int} (hA : At w' B n (hrOf A' wd)) : L1 w0 w' B base n ad A' k v :=
  ⟨own_fr h.own hF (fun j hj => (hB j hj).2), ⟨wd, hA⟩, h.far.up hF (fun j hj => (hB j hj).1), hV, Nat.le_trans h.le hF.size⟩
theorem L1.push {w0 w w1 : World} {B : HB} {base n k : Nat} {ad : Nat → Nat} {A : Nat → Kd} {v v' : Value} (h : L1 w0 w B base n ad A k v) (hB : ∀ j, B.mem j → w0.heap.size ≤ j ∧ j < base) (h2 : 2 ≤ w0.heap.size) (hb : w0.heap.size ≤ base) (o : Obj)
    (ho : w1.ownsRow base 3 1 v' (k + 1) (adL ad k ++ [.int .i64 (ad k)])) (hg : (w.alloc o).grownBy w1 v.ownBlock) : L1 w0 w1 B base n ad A (k + 1) v' := by
  have hlt : ∀ g, v.ownBlock = some g → base ≤ g := fun g hg => (h.own.lt g hg).1
  have hF : Fr (fun j => some j = v.ownBlock) w w1 := ((Fr.refl _ w).alloc o).trans (Fr.grown hg)
  have hn : ∀ j, j < base → ¬ (some j = v.ownBlock) := fun j hj e => by have := hlt j e.symm; omega
  obtain ⟨wd, hA⟩ := h.hp
  refine ⟨by rw [← adL_succ]; exact ho, ⟨wd, hA.fr' hF fun b hb' => hn b (hB b hb').2⟩, h.far.up hF (fun j hj => Nat.le_trans hb (hlt j hj.symm)), h.vars.fr hF (hn 0 (by omega)) (hn 1 (by omega)), Nat.le_trans h.le hF.size⟩
theorem L1.cell {w0 w : World} {B : HB} {base n k g cp : Nat} {ad : Nat → Nat} {A : Nat → Kd} (h : L1 w0 w B base n ad A k (.slice (some ⟨g, 0, none⟩) k cp)) {j : Nat} (hj : j < k) : w.cell? ⟨g, j, none⟩ = some (.int .i64 (ad j)) := by
  rw [h.own.cellAt j (by omega), adL_get ad hj]
theorem L1.quiet {w0 w w' : World} {B : HB} {base n k : Nat} {ad : Nat → Nat} {A : Nat → Kd} {v : Value} (h : L1 w0 w B base n ad A k v) (hF : Fr (fun _ => False) w w') : L1 w0 w' B base n ad A k v := by
  obtain ⟨wd, hA⟩ := h.hp
  exact ⟨own_fr h.own hF (fun j hj => hj.elim), ⟨wd, hA.quiet hF⟩, h.far.trans hF, h.vars.fr hF id id, Nat.le_trans h.le hF.size⟩
theorem L1.beside {w0 w w' : World} {B : HB} {base n k gb : Nat} {ad : Nat → Nat} {A : Nat → Kd} {v : Value} (h : L1 w0 w B base n ad A k v) (hB : ∀ j, B.mem j → w0.heap.size ≤ j ∧ j < base) (h2 : 2 ≤ w0.heap.size) (hb : w0.heap.size ≤ base) (hg : base ≤ gb) (hn : v.ownBlock ≠ some gb) (hF : Fr (· = gb) w w') : L1 w0 w' B base n ad A k v := by
  obtain ⟨wd, hA⟩ := h.hp
  exact ⟨own_blk h.own (fun g hgv => hF.block g (h.own.lt g hgv).2 (fun e => hn (by rw [hgv, e]))), ⟨wd, hA.fr' hF fun b hb' e => by have := (hB b hb').2; omega⟩, h.far.up hF (fun j hj => by omega), h.vars.fr hF (by omega) (by omega), Nat.le_trans h.le hF.size⟩
structure L2 (w0 w : World) (B : HB) (base nn r : Nat) (ad : Nat → Nat) (ao : Option Addr) (cp gb : Nat) (gone : Nat → Bool) (A : Nat → Kd) : Prop where
  l1 : L1 w0 w B base 256 ad A nn (.slice ao nn cp)
  re : Reu nn r ad gone A
  row : Row w gb nn (fun j => .bool (gone j))
  gb1 : base ≤ gb
  gb2 : (Value.slice ao nn cp).ownBlock ≠ some gb
def Low (nn c : Nat) (l : Int) (gone : Nat → Bool) (A : Nat → Kd) : Prop := (l = -1 ∧ (∀ j, j < nn → gone j = false) ∧ A = fillA 256 c nn) ∨ ∃ x : Nat, x < nn ∧ l = x ∧ gone x = true
theorem Low.keep {nn c : Nat} {l : Int} {gone : Nat → Bool} {A A' : Nat → Kd} (h : Low nn c l gone A) (hl : 0 ≤ l) (k : Nat) : Low nn c l (upd gone k true) A' := by
  rcases h with ⟨h1, _⟩ | ⟨x, hx, h1, h2⟩
  · omega
  · exact .inr ⟨x, hx, h1, by unfold upd; split <;> first | rfl | exact h2⟩
theorem Low.take {nn c : Nat} {gone : Nat → Bool} {A' : Nat → Kd} {k : Nat} (hk : k < nn) : Low nn c (k : Int) (upd gone k true) A' := .inr ⟨k, hk, rfl, upd_same _ _ _⟩
theorem Low.bound {nn c : Nat} {l : Int} {gone : Nat → Bool} {A : Nat → Kd} (h : Low nn c l gone A) : -1 ≤ l ∧ l < nn := by
  rcases h with ⟨h1, _⟩ | ⟨x, hx, h1, h2⟩ <;> omega
/-- A step of the second loop in memory. -/
theorem L2.free {w0 w w' : World} {B : HB} {base nn r cp gb x : Nat} {ad : Nat → Nat} {ao : Option Addr} {gone : Nat → Bool} {A : Nat → Kd} (h : L2 w0 w B base nn r ad ao cp gb gone A) (hB : ∀ j, B.mem j → w0.heap.size ≤ j ∧ j < base) (h2 : 2 ≤ w0.heap.size) (hb : w0.heap.size ≤ base)
    (hinj : ∀ i j, ad i = ad j → i = j) (hr : 0 < r) (hx : x < nn) (hg : gone x = false) (hF : Fr B.mem (w.setCell ⟨gb, x, none⟩ (.bool true)) w') (hV : Vars w') {wd : Nat → Int} (hA : At w' B 256 (hrOf (freeA A (ad x)) wd)) : L2 w0 w' B base nn r ad ao cp gb (upd gone x true) (freeA A (ad x)) := by
  have hS : Fr (· = gb) w (w.setCell ⟨gb, x, none⟩ (.bool true)) := (Fr.refl (· = gb) w).setCell (p := ⟨gb, x, none⟩) rfl _
  have l1 := (h.l1.beside hB h2 hb h.gb1 h.gb2 hS).heap hB hF hV hA
  refine ⟨l1, (h.re.step hinj hx hr hg).2, ((h.row.set x _ hx).fr hF (fun hm => by have := (hB _ hm).2; have := h.gb1; omega)).ext fun j _ => ?_, h.gb1, h.gb2⟩
  by_cases e : j = x
  · rw [e, upd_same, upd_same]
  · rw [upd_ne _ _ e, upd_ne _ _ e]
theorem Alloc_some (B : HB) (n : Nat) (A : Nat → Kd) (wd : Nat → Int) (m : Nat) (w : World) (h : At w B n (hrOf A wd)) (hI : Inv n A) (hV : Vars w) (h0 : ∀ k, B.mem k → 2 ≤ k) (hm : 1 ≤ m) (hm2 : m ≤ 16448) (hn : ¬ NoPlace n A m) :
    Calls Tryd.prog 13 #[B.ptr, .int .i64 m] w fun e w' => ∃ a A', Goes n A m a A' ∧ e = .returned (.tuple #[.int .i64 ((a : Nat) : Int), .bool true]) ∧ Fr B.mem w w' ∧ Vars w' ∧ Inv n A' ∧ At w' B n (hrOf A' (clearW wd a (roomOfM m))) := by
  have h00 : ¬ B.mem 0 := fun x => by have := h0 0 x; omega
  have h01 : ¬ B.mem 1 := fun x => by have := h0 1 x; omega
  refine (Alloc_any B n A wd (m : Int) w h hI hV h00 h01).mono ?_
  rintro e w' ⟨hF, ⟨a', A1, _, _, g', rfl, hA⟩ | ⟨hn', rfl, hA⟩⟩
  · exact ⟨a', A1, g', rfl, hF, hV.fr hF h00 h01, g'.inv hI hm2, hA⟩
  · rcases hn' with hn' | hn' | hn'
    · omega
    · omega
    · exact absurd hn' hn
theorem Tryd.info4 : (Tryd.prog.info? 4).map (fun i => (i.zero, i.size, i.bytes)) = some (some (.bool false), 1, 1) := by kernel_rfl
theorem make35 (W : World) (k : Nat) (hk : k ≤ 2000000) : (Instr.makeSlice 35 (.int .i64 (k : Int)) (.int .i64 (k : Int))).run Tryd.prog W = .ok (.slice (some ⟨W.heap.size, 0, none⟩) k k) (W.alloc (.cells (madeCells #[.bool false] k) 4)) := by
  obtain ⟨i0, hi, hz0, hz1, hz2⟩ := info_parts Tryd.info4
  have := run_make (P := Tryd.prog) W 35 4 i0 _ Tryd.underlying35 hi hz0 .i64 .i64 (k : Int) (k : Int) (by omega) (Int.le_refl _) (by rw [hz2]; omega) (by omega)
  rw [this, hz1]
  simp [Value.cells]
set_option maxRecDepth 100000 in
set_option maxHeartbeats 8000000 in
theorem reuses_big (nn m : Nat) (a0 : Option Addr) (len0 cap0 : Nat) (zs : List Int) (w : World) (hV : Vars w) (hn1 : 1 ≤ nn) (hn2 : nn ≤ 200) (hm1 : 1 ≤ m) (hm2 : m ≤ 64) (hl : len0 ≤ 300)
    (hz : ∀ j, j < len0 → ∃ b off, a0 = some ⟨b, off, none⟩ ∧ b < w.heap.size ∧ w.cell? ⟨b, off + j, none⟩ = some (.int .i64 (zs.getD j 0))) :
    Calls Tryd.prog 6 #[.int .i64 nn, .slice a0 len0 cap0, .int .i64 m] w fun e w' => e = .returned (.bool true) ∧ Below w.heap.size w w' := by
  have HAn := hide (anchor_any w hV)
  obtain ⟨c, hc⟩ : ∃ c, c = clOf m := ⟨_, rfl⟩
  obtain ⟨r, hr⟩ : ∃ r, r = 2 ^ (c + 1) := ⟨_, rfl⟩
  obtain ⟨ad, had⟩ : ∃ ad : Nat → Nat, ∀ j, ad j = 64 + j * r := ⟨_, fun _ => rfl⟩
  have hr1 : 1 ≤ r := by rw [hr]; exact Nat.pow_pos (by decide)
  have hr64 : r ≤ 64 := by rw [hr, hc]; exact room_le (clOf_lt m)
  have HAD := hide had
  have hadl : Hid (∀ j, j ≤ 300 → ad j ≤ 20000) := hide fun j hj => by
    rw [had]
    have : j * r ≤ 300 * 64 := Nat.mul_le_mul hj hr64
    omega
  have hadn : Hid (∀ j, ad j < ad (j + 1)) := hide fun j => by rw [had, had, Nat.succ_mul]; omega
  have hinj : Hid (∀ i j, ad i = ad j → i = j) := hide fun i j h => by
    rw [had, had] at h
    exact Nat.eq_of_mul_eq_mul_right hr1 (by omega)
  have HGo : Hid (∀ k, k < nn → Goes 256 (fillA 256 c k) m (ad k) (fillA 256 c (k + 1))) := hide fun k hk => by
    rw [had, hr, hc]
    refine fill_goes hm2 ?_
    have hq : 1 ≤ 2 ^ (5 - clOf m) := Nat.pow_pos (by decide)
    have : 1 * (256 - 1) ≤ 2 ^ (5 - clOf m) * (256 - 1) := Nat.mul_le_mul_right _ hq
    omega
  have HGl : Hid (Goes 256 (fillA 256 c nn) m (ad nn) (fillA 256 c (nn + 1))) := hide (by
    rw [had, hr, hc]
    refine fill_goes hm2 ?_
    have hq : 1 ≤ 2 ^ (5 - clOf m) := Nat.pow_pos (by decide)
    have : 1 * (256 - 1) ≤ 2 ^ (5 - clOf m) * (256 - 1) := Nat.mul_le_mul_right _ hq
    omega)
  have HIf : Hid (∀ k, k ≤ nn → Inv 256 (fillA 256 c k)) := hide fun k hk => by
    rw [hc]
    refine fill_inv hm2 k ?_
    have hq : 1 ≤ 2 ^ (5 - clOf m) := Nat.pow_pos (by decide)
    have : 1 * (256 - 1) ≤ 2 ^ (5 - clOf m) * (256 - 1) := Nat.mul_le_mul_right _ hq
    omega
  have HRe : Hid (Reu nn r ad (fun _ => false) (fillA 256 c nn)) := hide (by rw [hr, hc]; exact Reu.start hm2 hn2 (fun j => by rw [had, hr, hc]))
  have HE : Hid (fillA 256 c 0 = emptyA 256) := hide (fill_empty 256 c)
  have HZ := hide hz
  have hsz := hV.size
  clear had hc hr hz hV
  obtain ⟨i0, hi, hz0, hz1, hz2⟩ := info_parts Tryd.info3
  go_enter Tryd.func6, Tryd.ntmps6
  go_wp2_with fail
  refine (unhide HAn).mono ?_
  rintro e w1 ⟨rfl, hF1, hV1⟩
  have HN : Hid (Calls Tryd.prog 9 #[.int .i64 16384] w1 fun e w' => NewP 16384 w1 e w') := hide (New_any 16384 w1 (by decide) (by decide))
  have HF1 := hide hF1
  have HV1 := hide hV1
  clear hF1 hV1 HAn
  go_wp2_with fail
  refine (unhide HN).mono ?_
  rintro e w2 ⟨B, rfl, hlo, hF2, hA2⟩
  have hs2 := (unhide HF1).size
  have hs3 := hF2.size
  have HBm : Hid (∀ j, B.mem j → w.heap.size ≤ j ∧ j < w2.heap.size) := hide fun j hj => ⟨by have := hlo j hj; omega, hA2.lt hj⟩
  have HL0 : Hid (L1 w w2 B w2.heap.size 256 ad (fillA 256 c 0) 0 (.slice none 0 0)) := hide ⟨by have := World.ownsRow_nil w2 w2.heap.size 3 1; exact this, ⟨_, by rw [unhide HE]; exact hA2⟩, (unhide HF1).trans hF2, (unhide HV1).fr hF2 id id, Nat.le_refl _⟩
  have HS : Hid (w.heap.size ≤ w2.heap.size) := hide (by omega)
  obtain ⟨base, hbase⟩ : ∃ base, base = w2.heap.size := ⟨_, rfl⟩
  rw [← hbase] at HBm HL0 HS
  clear hbase hlo hF2 hA2 HF1 HV1 HN hs2 hs3
  unfold HB.ptr
  go_wp2
  go_loopw [8, 9] (fun v i wr => ∃ k : Nat, k ≤ nn ∧ i = .int .i64 k ∧ ∃ ao cp, v = .slice ao k cp ∧ Hid (L1 w wr B base 256 ad (fillA 256 c k) k (.slice ao k cp))) (fun _ i _ => nn - (intOf i).toNat)
  case atStart => exact ⟨0, by omega, rfl, none, 0, rfl, HL0⟩
  case round =>
    obtain ⟨k, hk, rfl, ao, cp, rfl, hL⟩ := hrel
    by_cases hlt : k < nn
    · obtain ⟨wd, hAt⟩ := (unhide hL).hp
      have HC := hide (Alloc_to B 256 _ wd m wr hAt (unhide HIf k hk) (unhide hL).vars (fun j hj => by have := (unhide HBm j hj).1; omega) hm1 (by omega) (unhide HGo k hlt))
      clear hAt
      unfold HB.ptr at HC
      have hak := unhide hadl k (by omega)
      cases k with
      | zero =>
        go_wp2_with fail
        refine (unhide HC).mono ?_
        rintro e w3 ⟨rfl, hF3, hV3, hI3, hA3⟩
        have hL3 := (unhide hL).heap (unhide HBm) hF3 hV3 hA3
        have HL3 := hide hL3
        clear hF3 hV3 hI3 hA3 hL3 hL HC
        go_wp2_with (first | (at_builtin; refine wpList_append_own _ rfl _ _ 34 rfl base 3 i0 (.int .i64 0) 1 8 Tryd.underlying34 hi hz0 hz1 hz2 rfl (by decide) _ _ _ rfl ((unhide HL3).own.alloc _) ⟨w3.heap.size, 0, none⟩ 1 1 [.int .i64 (ad 0)] rfl rfl ?c1z ?c2z ?c3z ?c4z ?c5z ?_))
        case c1z =>
          intro j u hj
          match j, hj with
          | 0, hj => simp at hj; subst hj; simp [Addr.add]
        case c2z => intro u hu; simp at hu; subst hu; rfl
        case c3z => unfold maxLen; omega
        case c4z => omega
        case c5z => have := (unhide HL3).le; simp; omega
        · intro v' w5 hown' hgrow _
          have hP := (unhide HL3).push (unhide HBm) hsz (unhide HS) _ hown' hgrow
          obtain ⟨ao', cp', hv', _⟩ := own_form hP.own
          subst hv'
          have HP := hide hP
          clear hP hown' hgrow HL3
          go_wp2
          go_roundw
          case rel => exact ⟨0 + 1, by omega, by go_num, ao', cp', rfl, HP⟩
          case measure => simp [intOf]; omega
      | succ k =>
        obtain ⟨ao2, cp2, hv2, hg2⟩ := own_form (unhide hL).own
        obtain ⟨g, hg⟩ := hg2 (by omega)
        obtain ⟨rfl, rfl⟩ : ao = ao2 ∧ cp = cp2 := by injection hv2 with h1 h2 h3; exact ⟨h1, h3⟩
        subst hg
        clear hv2 hg2
        have hadk := unhide hadn k
        go_wp2_with fail
        refine (unhide HC).mono ?_
        rintro e w3 ⟨rfl, hF3, hV3, hI3, hA3⟩
        have hL3 := (unhide hL).heap (unhide HBm) hF3 hV3 hA3
        have ck := hL3.cell (show k < k + 1 by omega)
        have HL3 := hide hL3
        clear hF3 hV3 hI3 hA3 hL3 hL HC
        go_wp2_with (first | (at_builtin; refine wpList_append_own _ rfl _ _ 34 rfl base 3 i0 (.int .i64 0) 1 8 Tryd.underlying34 hi hz0 hz1 hz2 rfl (by decide) _ _ _ rfl ((unhide HL3).own.alloc _) ⟨w3.heap.size, 0, none⟩ 1 1 [.int .i64 (ad (k + 1))] rfl rfl ?c1s ?c2s ?c3s ?c4s ?c5s ?_))
        case c1s =>
          intro j u hj
          match j, hj with
          | 0, hj => simp at hj; subst hj; simp [Addr.add]
        case c2s => intro u hu; simp at hu; subst hu; rfl
        case c3s => unfold maxLen; omega
        case c4s => omega
        case c5s => have := (unhide HL3).le; simp; omega
        · intro v' w5 hown' hgrow _
          have hP := (unhide HL3).push (unhide HBm) hsz (unhide HS) _ hown' hgrow
          obtain ⟨ao', cp', hv', _⟩ := own_form hP.own
          subst hv'
          have HP := hide hP
          clear hP hown' hgrow HL3
          go_wp2
          go_roundw
          case rel => exact ⟨(k + 1) + 1, by omega, by go_num, ao', cp', rfl, HP⟩
          case measure => simp [intOf]; omega
    · have ek : k = nn := by omega
      subst ek
      have hmk := fun W => make35 W k (by omega)
      have R35 := hide (fun W => Row.made W #[.bool false] k 4)
      generalize madeCells #[.bool false] k = Z at *
      have hgz := (unhide hL).le
      have H2 : Hid (L2 w (wr.alloc (.cells Z 4)) B base k r ad ao cp wr.heap.size (fun _ => false) (fillA 256 c k)) := hide ⟨(unhide hL).quiet ((Fr.refl _ wr).alloc _), unhide HRe, (unhide R35 wr).ext (fun j _ => by simp [Nat.mod_one]), hgz, fun e => by have := ((unhide hL).own.lt _ e).2; omega⟩
      have HLw : Hid (Low k c (-1) (fun _ => false) (fillA 256 c k)) := hide (.inl ⟨rfl, fun _ _ => rfl, rfl⟩)
      obtain ⟨gb, hgb⟩ : ∃ gb, gb = wr.heap.size := ⟨_, rfl⟩
      rw [← hgb] at H2
      obtain ⟨ao2, cp2, hv2, hg2⟩ := own_form (unhide hL).own
      obtain ⟨g, hg⟩ := hg2 (by omega)
      obtain ⟨rfl, rfl⟩ : ao = ao2 ∧ cp = cp2 := by injection hv2 with h1 h2 h3; exact ⟨h1, h3⟩
      subst hg
      have hk1 : k ≤ 200 := hn2
      clear hv2 hg2 hL HRe HGo hgz hk hlt R35
      go_wp2
      rw [← hgb]
      generalize wr.alloc (.cells Z 4) = w6 at *
      clear hgb hmk
      go_loopw [13, 79] (fun lw iv wq => ∃ i : Nat, i ≤ len0 ∧ iv = .int .i64 i ∧ ∃ l : Int, lw = .int .i64 l ∧ ∃ gone A, Hid (L2 w wq B base k r ad (some ⟨g, 0, none⟩) cp gb gone A) ∧ Hid (Low k c l gone A)) (fun _ iv _ => len0 - (intOf iv).toNat)
      case atStart => exact ⟨0, by omega, rfl, -1, rfl, _, _, H2, HLw⟩
      case round =>
        obtain ⟨i, hi', rfl, l, rfl, gone, A, h2, hLow⟩ := hrel
        have hlb := (unhide hLow).bound
        by_cases hlt : i < len0
        · obtain ⟨b, off, ha0, hbw, hcz⟩ := unhide HZ i hlt
          subst ha0
          have cz : wr.cell? ⟨b, off + i, none⟩ = some (.int .i64 (zs.getD i 0)) := by
            rw [← hcz]
            exact World.cell?_of_block (w := w) (a := ⟨b, off + i, none⟩) ((unhide h2).l1.far.block b hbw id)
          clear hcz
          generalize zs.getD i 0 = z at *
          by_cases hz0 : z < 0
          · go_wp2
            go_roundw
            case rel =>
              exact ⟨i + 1, by omega, by go_num, l, rfl, gone, A, h2, hLow⟩
            case measure => simp [intOf]; omega
          · by_cases hz1 : z < k
            · obtain ⟨x, rfl⟩ : ∃ x : Nat, z = (x : Int) := ⟨z.toNat, by omega⟩
              have hx : x < k := by omega
              have cg : wr.cell? ⟨gb, x, none⟩ = some (.bool (gone x)) := ((unhide h2).row x hx).1
              have fg := ((unhide h2).row x hx).2
              cases hgx : gone x with
              | true =>
                rw [hgx] at cg
                clear hgx
                go_wp2
                go_roundw
                case rel =>
                  exact ⟨i + 1, by omega, by go_num, l, rfl, gone, A, h2, hLow⟩
                case measure => simp [intOf]; omega
              | false =>
                rw [hgx] at cg
                have HGX := hide hgx
                clear hgx
                have hS : Fr (· = gb) wr (wr.setCell ⟨gb, x, none⟩ (.bool true)) := (Fr.refl (· = gb) wr).setCell (p := ⟨gb, x, none⟩) rfl _
                have hl1 := (unhide h2).l1.beside (unhide HBm) hsz (unhide HS) (unhide h2).gb1 (unhide h2).gb2 hS
                have ca := hl1.cell hx
                obtain ⟨wd, hAt⟩ := hl1.hp
                have hst := (unhide h2).re.step (unhide hinj) hx hr1 (unhide HGX)
                have HC := hide (Free_to B 256 A wd (ad x) _ hAt (unhide h2).re.inv hl1.vars (fun j hj => by have := (unhide HBm j hj).1; omega) hst.1)
                unfold HB.ptr at HC
                have hax := unhide hadl x (by omega)
                clear hl1 hAt hst hS
                by_cases hl0 : l < 0
                · go_wp2_with fail
                  refine (unhide HC).mono ?_
                  rintro e w7 ⟨rfl, hF7, hV7, hI7, hA7⟩
                  have H7 := hide ((unhide h2).free (unhide HBm) hsz (unhide HS) (unhide hinj) hr1 hx (unhide HGX) hF7 hV7 hA7)
                  clear hF7 hV7 hI7 hA7 HC
                  go_wp2
                  go_roundw
                  case rel =>
                    exact ⟨i + 1, by omega, by go_num, (x : Int), rfl, _, _, H7, hide (Low.take hx)⟩
                  case measure => simp [intOf]; omega
                · by_cases hxl : (x : Int) < l
                  · go_wp2_with fail
                    refine (unhide HC).mono ?_
                    rintro e w7 ⟨rfl, hF7, hV7, hI7, hA7⟩
                    have H7 := hide ((unhide h2).free (unhide HBm) hsz (unhide HS) (unhide hinj) hr1 hx (unhide HGX) hF7 hV7 hA7)
                    clear hF7 hV7 hI7 hA7 HC
                    go_wp2
                    go_roundw
                    case rel =>
                      exact ⟨i + 1, by omega, by go_num, (x : Int), rfl, _, _, H7, hide (Low.take hx)⟩
                    case measure => simp [intOf]; omega
                  · go_wp2_with fail
                    refine (unhide HC).mono ?_
                    rintro e w7 ⟨rfl, hF7, hV7, hI7, hA7⟩
                    have H7 := hide ((unhide h2).free (unhide HBm) hsz (unhide HS) (unhide hinj) hr1 hx (unhide HGX) hF7 hV7 hA7)
                    clear hF7 hV7 hI7 hA7 HC
                    go_wp2
                    go_roundw
                    case rel =>
                      exact ⟨i + 1, by omega, by go_num, l, rfl, _, _, H7, hide ((unhide hLow).keep (by omega) x)⟩
                    case measure => simp [intOf]; omega
            · go_wp2
              go_roundw
              case rel =>
                exact ⟨i + 1, by omega, by go_num, l, rfl, gone, A, h2, hLow⟩
              case measure => simp [intOf]; omega
        · have ei : i = len0 := by omega
          clear hlt
          go_wp2
          go_loop [16, 118] (fun al iv => ∃ q : Nat, q ≤ k ∧ iv = .int .i64 q ∧ ∃ ab : Bool, al = .bool ab ∧ Hid (ab = true ↔ ∀ j, j < q → gone j = true)) (fun _ iv => k - (intOf iv).toNat)
          case atStart => exact ⟨0, by omega, rfl, true, rfl, hide ⟨fun _ j hj => by omega, fun _ => rfl⟩⟩
          case round =>
            obtain ⟨q, hq, rfl, ab, rfl, hAb⟩ := hrel
            by_cases hlt : q < k
            · have cg : wr.cell? ⟨gb, q, none⟩ = some (.bool (gone q)) := ((unhide h2).row q hlt).1
              cases ab with
              | true =>
                go_wp2
                go_round
                case rel =>
                  refine ⟨q + 1, by omega, by go_num, gone q, rfl, hide ⟨fun h j hj => ?_, fun h => h q (by omega)⟩⟩
                  by_cases e : j = q
                  · rw [e]; exact h
                  · exact (unhide hAb).1 rfl j (by omega)
                case measure => simp [intOf]; omega
              | false =>
                go_wp2
                go_round
                case rel => exact ⟨q + 1, by omega, by go_num, false, rfl, hide ⟨fun h => (by cases h), fun h => (unhide hAb).2 (fun j hj => h j (by omega))⟩⟩
                case measure => simp [intOf]; omega
            · have eq : q = k := by omega
              subst eq
              obtain ⟨wd, hAt⟩ := (unhide h2).l1.hp
              have HC := hide (Alloc_some B 256 A wd m wr hAt (unhide h2).re.inv (unhide h2).l1.vars (fun j hj => by have := (unhide HBm j hj).1; omega) hm1 (by omega) ((unhide h2).re.place hm2))
              unfold HB.ptr at HC
              clear hAt
              go_wp2_with fail
              refine (unhide HC).mono ?_
              rintro e w8 ⟨a, A', hg', rfl, hF8, hV8, hI8, hA8⟩
              have hL8 := (unhide h2).l1.heap (unhide HBm) hF8 hV8 hA8
              have HBl : Hid (Below w.heap.size w w8) := hide (hL8.far.below (Nat.le_refl _) (fun _ x => x.elim))
              cases ab with
              | true =>
                have ha : a = 64 := (unhide h2).re.all (fun j hj => (unhide hAb).1 rfl j hj) hm2 hg'
                subst ha
                clear hg' hF8 hV8 hI8 hA8 hL8 HC
                go_wp2
                go_ret
                exact ⟨rfl, unhide HBl⟩
              | false =>
                rcases unhide hLow with ⟨rfl, _, hAe⟩ | ⟨x, hx, rfl, hgx⟩
                · subst hAe
                  obtain ⟨rfl, _⟩ := (unhide HGl).det hg'
                  obtain ⟨k', rfl⟩ : ∃ k', q = k' + 1 := ⟨q - 1, by omega⟩
                  have ca := hL8.cell (show k' < k' + 1 by omega)
                  have h1 := unhide hadn k'
                  clear hg' hF8 hV8 hI8 hA8 hL8 HC
                  go_wp2
                  go_ret
                  exact ⟨ret_bool (by simp), unhide HBl⟩
                · have hla := (unhide h2).re.last hg' hx hgx
                  have ca := hL8.cell hx
                  obtain ⟨wd2, hA9⟩ := hL8.hp
                  have hrr : roomR 256 (hrOf A' wd2) (ad x : Int) = roomN A' (ad x) := by
                    rw [roomR_I wd2 hI8, roomI, if_pos (by omega)]; rfl
                  have HR := hide (Room_any B 256 (hrOf A' wd2) (ad x : Int) w8 hA9 (fine_of wd2 hI8))
                  rw [hrr] at HR
                  unfold HB.ptr at HR
                  have HFar := hide hL8.far
                  by_cases hax : a = ad x
                  · subst hax
                    clear hg' hF8 hV8 hI8 hA8 hL8 HC hA9 hrr hla HR
                    go_wp2
                    go_ret
                    exact ⟨ret_bool (by simp), unhide HBl⟩
                  · have hr0 : roomN A' (ad x) = 0 := by rcases hla with h | h; exact absurd h hax; exact h
                    rw [hr0] at HR
                    have haxb : ((a : Int) == (ad x : Int)) = false := by simp; omega
                    have haxd : ((ad x : Int) == (a : Int)) = false := by simp; omega
                    clear hg' hF8 hV8 hI8 hA8 hL8 HC hA9 hrr hla hr0
                    by_cases ham : a % 64 = 0
                    · have hamb : ((a : Int) % 64 == 0) = true := by simp; omega
                      go_wp2
                      go_ret
                      exact ⟨ret_bool (by simp), unhide HBl⟩
                    · have hamb : ((a : Int) % 64 == 0) = false := by simp; omega
                      go_wp2_with (first | (go_at_call 14; refine (unhide HR).mono ?_; rintro e w9 ⟨rfl, hq9⟩))
                      go_ret
                      exact ⟨ret_bool (by simp), ((unhide HFar).trans hq9).below (Nat.le_refl _) (fun _ x => x.elim)⟩
end Go.Proofs.YtkhegceikdegbaaDoor
