/- Collect. -/
import Derived.Test.YtogjblikljggbaaDoorMk2
import Derived.Test.YtogjblikljggbaaDoorRf8
namespace Go.Proofs.YtogjblikljggbaaDoor
open Go.RowKit Go.Proofs.YtogjblikljggbaaDoor.Hp Go.Maps
def notB (rb : Nat → Bool) (L : List Nat) : Nat := L.countP fun x => !rb x
/-- The heap while the first i blocks are gone through. -/
structure Clc (n : Nat) (A : Nat → Kd) (rb : Nat → Bool) (L : List Nat) (A' : Nat → Kd) : Prop where
  inv : Inv n A'
  room : ∀ y, roomN A' y = if y ∈ L ∧ rb y = false then 0 else roomN A y
theorem Clc.start {n : Nat} {A : Nat → Kd} (hI : Inv n A) (rb : Nat → Bool) : Clc n A rb [] A := ⟨hI, fun y => by simp⟩
theorem Clc.keep {n : Nat} {A A' : Nat → Kd} {rb : Nat → Bool} {L : List Nat} {x : Nat} (h : Clc n A rb L A') (hx : rb x = true) : Clc n A rb (L ++ [x]) A' := by
  refine ⟨h.inv, fun y => ?_⟩
  rw [h.room y]
  by_cases e : y = x
  · subst e; simp [hx]
  · simp [e]
theorem Clc.free {n : Nat} {A A' : Nat → Kd} {rb : Nat → Bool} {L : List Nat} {x : Nat} (h : Clc n A rb L A') (hx : rb x = false) (hr : roomN A' x ≠ 0) : Clc n A rb (L ++ [x]) (freeA A' x) := by
  refine ⟨h.inv.freed hr, fun y => ?_⟩
  rw [room_freed h.inv hr y, h.room y]
  by_cases e : y = x
  · subst e; simp [hx]
  · simp [e]
theorem Clc.at_ {n : Nat} {A A' : Nat → Kd} {rb : Nat → Bool} {L : List Nat} {x : Nat} (h : Clc n A rb L A') (hx : x ∉ L) : roomN A' x = roomN A x := by
  rw [h.room x, if_neg (fun e => hx e.1)]
def ClcP (w : World) (B : HB) (n : Nat) (A : Nat → Kd) (wd : Nat → Int) (zs : List Int) (e : Ending) (w' : World) : Prop :=
  ∃ (rb : Nat → Bool) (A' : Nat → Kd), (∀ x : Nat, rb x = true ↔ Reach (refB A) (kids A wd) zs (x : Int)) ∧ e = .returned (.int .i64 ((notB rb (blkL A n) : Nat) : Int)) ∧ Inv n A' ∧ (∀ y, roomN A' y = if rb y = true then roomN A y else 0) ∧ At w' B n (hrOf A' wd) ∧ Vars w' ∧ Fr B.mem w w'
theorem Clc.done {n : Nat} {A A' : Nat → Kd} {rb : Nat → Bool} (hI : Inv n A) (h : Clc n A rb (blkL A n) A') (y : Nat) : roomN A' y = if rb y = true then roomN A y else 0 := by
  rw [h.room y]
  by_cases hr : roomN A y = 0
  · simp [hr]
  · have hm : y ∈ blkL A n := (blkL_mem hI y n).2 ⟨by have := room_in hI hr; omega, hr⟩
    cases hb : rb y <;> simp [hm]
set_option maxRecDepth 100000 in
set_option maxHeartbeats 4000000 in
theorem Collect_any (w : World) (B : HB) (n : Nat) (A : Nat → Kd) (wd : Nat → Int) (a0 : Option Addr) (cap : Nat) (zs : List Int)
    (h : At w B n (hrOf A wd)) (hI : Inv n A) (hV : Vars w) (h0 : ∀ k, B.mem k → 2 ≤ k) (hbl : (blkL A n).length ≤ 100000) (hl : zs.length ≤ 1000) (hz : ∀ z ∈ zs, -9223372036854775808 ≤ z ∧ z < 9223372036854775808)
    (hc : ∀ j, j < zs.length → ∃ b off, a0 = some ⟨b, off, none⟩ ∧ b < w.heap.size ∧ w.cell? ⟨b, off + j, none⟩ = some (.int .i64 (zs.getD j 0))) :
    Calls Tryd.prog 33 #[B.ptr, .slice a0 zs.length cap] w fun e w' => ClcP w B n A wd zs e w' := by
  have HC := hide (mark_any w B n A wd a0 cap zs h hI hl hz hc)
  have HA := hide h
  have HV := hide hV
  have HI := hide hI
  have H0 := hide h0
  have hMm : Hid (∀ k, B.mem k → k < w.heap.size) := hide fun k hk => h.lt hk
  have HBl := hide hbl
  unfold HB.ptr at HC ⊢
  clear h hI hz hc hV h0 hbl
  go_enter Tryd.func33, Tryd.ntmps33
  go_wp2_with fail
  refine (unhide HC).mono ?_
  rintro e w1 ⟨bm, ks, rfl, hbm, hmap, _, hks, hkl, hF⟩
  obtain ⟨rb, hrb⟩ : ∃ rb : Nat → Bool, ∀ x : Nat, rb x = ks.contains (x : Int) := ⟨fun x => ks.contains (x : Int), fun _ => rfl⟩
  have HRb : Hid (∀ x : Nat, rb x = true ↔ Reach (refB A) (kids A wd) zs (x : Int)) := hide fun x => by rw [hrb x, ← hks]; simp
  have HHas : Hid (∀ x : Nat, Maps.has (setD ks) (.int .i64 (x : Int)) = rb x) := hide fun x => by rw [has_setD, hrb x]
  have HM := hide hmap
  have HF := hide hF
  have HBm := hide hbm
  have HB1 := hide (Blocks_full B n A wd w1 ((unhide HA).quiet hF) (unhide HI) ((unhide HV).fr hF id id) (unhide HBl))
  unfold HB.ptr at HB1
  clear hmap hF hks hbm HC hrb hkl
  go_wp2_with fail
  refine (unhide HB1).mono ?_
  rintro e w2 ⟨ao, cp, rfl, hO, hF2⟩
  obtain ⟨L, hL⟩ : ∃ L, L = blkL A n := ⟨_, rfl⟩
  rw [← hL] at hO ⊢
  have hLb : L.length ≤ 100000 := by rw [hL]; exact unhide HBl
  have HLs : Hid (L.Pairwise (· < ·) ∧ ∀ x ∈ L, roomN A x ≠ 0 ∧ x < 1048576) := hide (by
    rw [hL]
    refine ⟨blkL_sorted (unhide HI) n, fun x hx => ?_⟩
    have h1 := (blkL_mem (unhide HI) x n).1 hx
    have := (unhide HA).hi
    exact ⟨h1.2, by omega⟩)
  have HL := hide hL
  have HO := hide hO
  have HM2 := hide (map_fr (unhide HM) hF2 id)
  have HA2 := hide (((unhide HA).quiet (unhide HF)).quiet hF2)
  have HV2 := hide (((unhide HV).fr (unhide HF) id id).fr hF2 id id)
  have HF2 := hide ((unhide HF).trans hF2)
  have HP : Hid (∀ (c : Nat) A' w', c = notB rb L → Clc n A rb L A' → At w' B n (hrOf A' wd) → Vars w' → Fr B.mem w w' → ClcP w B n A wd zs (.returned (.int .i64 (c : Int))) w') := hide fun c A' w' e1 h1 h2 h3 h4 => by
    rw [hL] at e1 h1
    subst e1
    exact ⟨rb, A', unhide HRb, rfl, h1.inv, h1.done (unhide HI), h2, h3, h4⟩
  have hMs : w.heap.size ≤ w1.heap.size := (unhide HF).size
  have HMs := hide hMs
  clear hO hF2 hL HB1 HM HL hMs
  obtain ⟨len, hlen⟩ : ∃ len, len = L.length := ⟨_, rfl⟩
  rw [← hlen] at hLb HO ⊢
  have HLn := hide hlen
  clear hlen
  go_wp2
  go_loopw [6, 17] (fun f i wr => ∃ k c : Nat, k ≤ len ∧ i = .int .i64 k ∧ f = .int .i64 c ∧ c ≤ k ∧ ∃ A', Hid (c = notB rb (L.take k)) ∧ Hid (Clc n A rb (L.take k) A') ∧ Hid (At wr B n (hrOf A' wd)) ∧ Hid (Vars wr) ∧ Hid (Fr B.mem w2 wr)) (fun _ i _ => len - (intOf i).toNat)
  case atStart => exact ⟨0, 0, by omega, rfl, rfl, by omega, A, hide rfl, hide (by rw [List.take_zero]; exact Clc.start (unhide HI) rb), HA2, HV2, hide (Fr.refl _ _)⟩
  case round =>
    obtain ⟨k, c, hk, rfl, rfl, hck, A', hcn, hcl, hA, hVr, hF⟩ := hrel
    by_cases hlt : k < len
    · have hkL : k < L.length := by have := unhide HLn; omega
      obtain ⟨x, hx⟩ : ∃ x, L[k]? = some x := ⟨L[k], by simp [hkL]⟩
      have hxL : x ∈ L := List.mem_of_getElem? hx
      have htk : L.take (k + 1) = L.take k ++ [x] := by
        rw [List.take_succ_eq_append_getElem hkL]
        have : L[k] = x := by rw [List.getElem?_eq_getElem hkL] at hx; exact Option.some.inj hx
        rw [this]
      have hxn : x ∉ L.take k := by
        intro hm
        have hp : (L.take k ++ [x]).Pairwise (· < ·) := by rw [← htk]; exact (unhide HLs).1.sublist (List.take_sublist _ _)
        have := (List.pairwise_append.1 hp).2.2 x hm x (by simp)
        omega
      obtain ⟨b, hb⟩ : ∃ b, ao = some ⟨b, 0, none⟩ := by
        obtain ⟨ao', cp', e, hg⟩ := own_form (unhide HO)
        cases e
        exact hg (by omega)
      subst hb
      have hbl := (unhide HO).lt b rfl
      have hmf : ¬ B.mem b := fun hm => by have := unhide hMm b hm; have := unhide HMs; omega
      have cz : wr.cell? ⟨b, k, none⟩ = some (.int .i64 (x : Int)) := by
        refine (World.cell?_of_block (w := w2) (a := ⟨b, k, none⟩) ((unhide hF).block b hbl.2 hmf)).trans ?_
        rw [(unhide HO).cellAt k (by omega)]
        simp [nv, hx]
      have hxb := ((unhide HLs).2 x hxL)
      have hkey : keyOf Tryd.prog 3 (.int .i64 (x : Int)) = some (.int .i64 (x : Int)) := keyOf_int_mk Tryd.underlying3 (wf_i64 (by omega))
      have hmb : ¬ B.mem bm := fun hm => by have := unhide hMm bm hm; have := unhide HBm; omega
      have HMp := hide (map_fr (unhide HM2) (unhide hF) hmb)
      have hhas := unhide HHas x
      have hroom : roomN A' x ≠ 0 := by rw [(unhide hcl).at_ hxn]; exact hxb.1
      have hcnt : notB rb (L.take (k + 1)) = notB rb (L.take k) + (if rb x then 0 else 1) := by
        rw [htk]
        unfold notB
        rw [List.countP_append]
        cases hq : rb x <;> simp [hq]
      have HCnt := hide hcnt
      have HTk := hide htk
      have HRm := hide hroom
      clear hcnt htk hroom hxb hxn hxL hx hkL
      cases hb : rb x with
      | true =>
        rw [hb] at hhas HCnt
        have HBx := hide hb
        clear hb
        go_wp2_with (first | (at_lookup; refine wpList_lookup_own_unit _ rfl _ _ 74 rfl 3 76 law3 Tryd.underlying74 (zero73 _) bm ks.length _ rfl (unhide HMp) _ _ rfl hkey ?_))
        go_roundw
        case rel => exact ⟨k + 1, c, by omega, by go_num, rfl, by omega, A', hide (by rw [unhide HCnt, ← unhide hcn]; rfl), hide (by rw [unhide HTk]; exact (unhide hcl).keep (unhide HBx)), hide ((unhide hA).quiet ((Fr.refl _ wr).alloc _)), hide ((unhide hVr).fr ((Fr.refl (fun _ => False) wr).alloc _) id id), hide ((unhide hF).alloc _)⟩
        case measure => simp [intOf]; omega
      | false =>
        rw [hb] at hhas HCnt
        have HBx := hide hb
        have HFr := hide (Free_to B n A' wd x (wr.alloc (.cells #[] 76)) ((unhide hA).quiet ((Fr.refl _ wr).alloc _)) (unhide hcl).inv ((unhide hVr).fr ((Fr.refl (fun _ => False) wr).alloc _) id id) (unhide H0) (unhide HRm))
        unfold HB.ptr at HFr
        clear hb
        go_wp2_with (first | (at_lookup; refine wpList_lookup_own_unit _ rfl _ _ 74 rfl 3 76 law3 Tryd.underlying74 (zero73 _) bm ks.length _ rfl (unhide HMp) _ _ rfl hkey ?_) | (go_at_call 44; refine (unhide HFr).mono ?_; rintro e w4 ⟨rfl, hF4, hV4, hI4, hA4⟩; have HF4 := hide hF4; have HV4 := hide hV4; have HA4 := hide hA4; clear hF4 hV4 hI4 hA4))
        go_roundw
        case rel => exact ⟨k + 1, c + 1, by omega, by go_num, by go_num, by omega, _, hide (by rw [unhide HCnt, ← unhide hcn]; rfl), hide (by rw [unhide HTk]; exact (unhide hcl).free (unhide HBx) (unhide HRm)), HA4, HV4, hide (((unhide hF).alloc _).trans (unhide HF4))⟩
        case measure => simp [intOf]; omega
    · have e : k = len := by omega
      subst e
      have HE : Hid (ClcP w B n A wd zs (.returned (.int .i64 (c : Int))) wr) := hide (by
        have h1 := unhide hcl
        have h2 := unhide hcn
        rw [unhide HLn, List.take_length] at h1 h2
        exact unhide HP c A' wr h2 h1 (unhide hA) (unhide hVr) (((unhide HF2).mono fun _ x => x.elim).trans (unhide hF)))
      go_wp2
      go_ret
      exact unhide HE
end Go.Proofs.YtogjblikljggbaaDoor
