/- The law's own digits. -/
import Derived.Test.YtipnefogflpkhaaDoorAh0
import Derived.Laws.IdiomStrings
import Derived.IntWalk
set_option linter.unusedVariables false
set_option linter.unusedSimpArgs false
namespace Go.Proofs.YtipnefogflpkhaaDoor
open Go.RowKit Go.IntWalk
theorem conv_z (w : World) (g : Nat) (z : Int) (h0 : 0 ≤ z) (h1 : z < 256) (h : w.cell? ⟨g, 0, none⟩ = some (.int .u8 z)) : (convert 43 9 (.slice (some ⟨g, 0, none⟩) 1 1)).run Tryd.prog w = .ok (.string ⟨#[UInt8.ofNat z.toNat]⟩) w :=
  run_convert_bytes_back (P := Tryd.prog) _ 43 9 5 ⟨g, 0, none⟩ 1 [UInt8.ofNat z.toNat] Tryd.underlying43 Tryd.underlying5 Tryd.underlying9 fun j hj => by
    have : j = 0 := by simp at hj; omega
    subst this
    have e : ((UInt8.ofNat z.toNat).toNat : Int) = z := by
      rw [UInt8.toNat_ofNat']
      omega
    simp only [List.getElem_cons_zero, e]
    simpa [Addr.add] using h
theorem grown_cell {w w' : World} (hg : w.grownBy w' none) {a : Addr} {v : Value} (h : w.cell? a = some v) : w'.cell? a = some v := (World.cell?_of_block (hg.block a.block (World.block_lt_of_cell? w a h) (by simp))).trans h
theorem new_cell (w : World) (v : Value) (t : TypeId) : (w.alloc (.cells #[v] t)).cell? ⟨w.heap.size, 0, none⟩ = some v := by rw [World.cell?_alloc_at _ _ _ _ rfl]; rfl
theorem new_cell_d (w : World) (v : Value) (t : TypeId) : (w.drew.alloc (.cells #[v] t)).cell? ⟨w.heap.size, 0, none⟩ = some v := new_cell w.drew v t
theorem new_cell_e (w : World) (v : Value) (t : TypeId) : (w.alloc (.cells #[v] t)).drew.cell? ⟨w.heap.size, 0, none⟩ = some v := new_cell w v t
theorem grown_un {w w' : World} {r : Option Nat} (h : w.drew.grownBy w' r) : w.grownBy w' r := ⟨h.os, h.tape, h.output, h.size, h.block⟩
theorem dec_small {n : Nat} (h : n < 10) : Lib.decDigits n = [UInt8.ofNat (48 + n)] := by rw [Lib.decDigits, dif_pos h]
theorem dec_big {n : Nat} (h : ¬ n < 10) : Lib.decDigits n = Lib.decDigits (n / 10) ++ [UInt8.ofNat (48 + n % 10)] := by rw [Lib.decDigits, dif_neg h]
theorem prp_small {n : Nat} (h : n < 10) (w : World) (o : Obj) : PrP (Lib.decDigits n) w (.returned (.string ⟨#[UInt8.ofNat ((48 : Int) + n).toNat]⟩)) (w.alloc o) := by
  refine ⟨?_, World.grownBy_alloc w o none⟩
  rw [dec_small h]
  have : ((48 : Int) + n).toNat = 48 + n := by omega
  rw [this]
theorem prp_big {n : Nat} (h : ¬ n < 10) {w w' : World} {z : Int} (hz : z = (n % 10 : Nat)) (hg : w.grownBy w' none) {c : UInt8} (hc : UInt8.ofNat ((48 : Int) + z).toNat = c) {D : ByteArray} (hD : ⟨(Lib.decDigits (n / 10)).toArray⟩ = D) : PrP (Lib.decDigits n) w (.returned (.string (D ++ ⟨#[c]⟩))) w' := by
  subst hc hD
  refine ⟨?_, hg⟩
  rw [dec_big h]
  have : ((48 : Int) + z).toNat = 48 + n % 10 := by omega
  rw [this]
  rfl
set_option maxRecDepth 100000 in
set_option maxHeartbeats 1000000 in
theorem digits_n (n : Nat) : ∀ (w : World), n ≤ 9223372036854775807 → Calls Tryd.prog 6 #[.int .i64 n] w fun e w' => PrP (Lib.decDigits n) w e w' := by
  induction n using Nat.strongRecOn with
  | ind n ih =>
    intro w hn
    have h0 : ¬ (n : Int) < 0 := by omega
    by_cases h : n < 10
    · have HP := hide (prp_small h w (.cells #[.int .u8 (48 + n)] 5))
      have hcv := conv_z (w.alloc (.cells #[.int .u8 (48 + n)] 5)) w.heap.size (48 + n) (by omega) (by omega) (new_cell w _ 5)
      obtain ⟨c, hc⟩ : ∃ c, UInt8.ofNat ((48 : Int) + n).toNat = c := ⟨_, rfl⟩
      rw [hc] at HP hcv
      clear hc
      have h1 : (n : Int) < 10 := by omega
      go_enter Tryd.func6, Tryd.ntmps6
      go_wp2
      go_ret
      exact unhide HP
    · have h1 : ¬ (n : Int) < 10 := by omega
      have hz1 : IntKind.u8.wrap (IntKind.i64.wrap (48 + (n : Int).tmod 10)) = 48 + (n : Int) % 10 := by
        rw [Int.tmod_eq_emod_of_nonneg (by omega), i64_in _ (by omega), u8_in _ (by omega)]
      have hq1 : IntKind.i64.wrap ((n : Int) / 10) = ((n / 10 : Nat) : Int) := by rw [i64_in _ (by omega)]; omega
      obtain ⟨z, hz⟩ : ∃ z, IntKind.u8.wrap (IntKind.i64.wrap (48 + (n : Int).tmod 10)) = z := ⟨_, rfl⟩
      have hzr : z = 48 + (n : Int) % 10 := by rw [← hz, hz1]
      obtain ⟨c, hc⟩ : ∃ c, UInt8.ofNat z.toNat = c := ⟨_, rfl⟩
      have hcv : ∀ g w', w'.cell? ⟨g, 0, none⟩ = some (.int .u8 (IntKind.u8.wrap (IntKind.i64.wrap (48 + (n : Int).tmod 10)))) → (convert 43 9 (.slice (some ⟨g, 0, none⟩) 1 1)).run Tryd.prog w' = .ok (.string ⟨#[c]⟩) w' := by
        intro g w' h
        rw [hz] at h
        rw [← hc]
        exact conv_z w' g _ (by omega) (by omega) h
      obtain ⟨D, hD⟩ : ∃ D : ByteArray, ⟨(Lib.decDigits (n / 10)).toArray⟩ = D := ⟨_, rfl⟩
      have HP := hide (fun (w' : World) (hg : w.grownBy w' none) => prp_big h (w := w) (w' := w') (z := (n : Int) % 10) (by omega) hg (c := c) (by rw [← hzr]; exact hc) hD)
      have HD : Hid (D.size ≤ 21) := hide (by
        have h1 := Lib.nDigits_le20 (n / 10) (by omega)
        rw [← Lib.decDigits_length] at h1
        rw [← hD]
        show (Lib.decDigits (n / 10)).toArray.size ≤ 21
        rw [List.size_toArray]
        omega)
      have HC : Hid (∀ W, Calls Tryd.prog 6 #[.int .i64 (IntKind.i64.wrap ((n : Int) / 10))] W fun e w' => e = .returned (.string D) ∧ W.grownBy w' none) := hide (fun W => by
        rw [hq1]
        refine (ih (n / 10) (by omega) W (by omega)).mono ?_
        rintro e w' ⟨rfl, hg⟩
        exact ⟨by rw [← hD], hg⟩)
      clear ih hc hD hz hz1 hq1 hzr
      go_enter Tryd.func6, Tryd.ntmps6
      go_wp2
      have hd := unhide HD
      go_region_with (first | (go_at_call 6; with_reducible refine ((unhide HC) _).mono ?_; rintro e w1 ⟨rfl, hg⟩; (try (with_reducible have hc1 := grown_cell hg (new_cell_e w (.int .u8 (IntKind.u8.wrap (IntKind.i64.wrap (48 + (n : Int).tmod 10)))) 5)))))
      · have HG : Hid (w.grownBy (w1.alloc (.cells #[.int .u8 (48 + (n : Int) % 10)] 5)) none) := hide ((grown_un hg).trans (World.grownBy_alloc w1 _ none))
        clear hg
        go_wp2
        go_ret
        exact (unhide HP) _ (unhide HG)
      all_goals
        have HG : Hid (w.grownBy w1 none) := hide ((World.grownBy_alloc w _ none).trans (grown_un hg))
        clear hg hc1
        go_wp2
        go_ret
        exact (unhide HP) _ (unhide HG)
theorem prp_small' {x : Int} (h : -10 < x) (h0 : x ≤ 0) (w : World) (o : Obj) : PrP (Lib.decDigits x.natAbs) w (.returned (.string ⟨#[UInt8.ofNat ((48 : Int) - x).toNat]⟩)) (w.alloc o) := by
  refine ⟨?_, World.grownBy_alloc w o none⟩
  rw [dec_small (show x.natAbs < 10 by omega)]
  have : ((48 : Int) - x).toNat = 48 + x.natAbs := by omega
  rw [this]
set_option maxRecDepth 100000 in
set_option maxHeartbeats 1000000 in
theorem under_n (n : Nat) : ∀ (x : Int) (w : World), x.natAbs = n → x ≤ 0 → -9223372036854775808 ≤ x → Calls Tryd.prog 12 #[.int .i64 x] w fun e w' => PrP (Lib.decDigits n) w e w' := by
  induction n using Nat.strongRecOn with
  | ind n ih =>
    intro x w hx hx0 hx1
    by_cases h : -10 < x
    · have HP := hide (prp_small' h hx0 w (.cells #[.int .u8 (48 - x)] 5))
      have hcv := conv_z (w.alloc (.cells #[.int .u8 (48 - x)] 5)) w.heap.size (48 - x) (by omega) (by omega) (new_cell w _ 5)
      obtain ⟨c, hc⟩ : ∃ c, UInt8.ofNat ((48 : Int) - x).toNat = c := ⟨_, rfl⟩
      rw [hc] at HP hcv
      rw [hx] at HP
      clear hc hx
      go_enter Tryd.func12, Tryd.ntmps12
      go_wp2
      go_ret
      exact unhide HP
    · have ht : x.tmod 10 = -((x.natAbs % 10 : Nat) : Int) := by
        have e : x = -((x.natAbs : Nat) : Int) := by omega
        rw [e, Int.neg_tmod, Int.tmod_eq_emod_of_nonneg (by omega)]
        omega
      have hd : x.tdiv 10 = -((x.natAbs / 10 : Nat) : Int) := by
        have e : x = -((x.natAbs : Nat) : Int) := by omega
        rw [e, Int.neg_tdiv, Int.tdiv_eq_ediv_of_nonneg (by omega)]
        omega
      have hz1 : IntKind.u8.wrap (IntKind.i64.wrap (48 - x.tmod 10)) = 48 + ((n % 10 : Nat) : Int) := by
        rw [ht, i64_in _ (by omega), u8_in _ (by omega)]
        omega
      have hq1 : IntKind.i64.wrap (x.tdiv 10) = -((n / 10 : Nat) : Int) := by rw [hd, i64_in _ (by omega)]; omega
      obtain ⟨z, hz⟩ : ∃ z, IntKind.u8.wrap (IntKind.i64.wrap (48 - x.tmod 10)) = z := ⟨_, rfl⟩
      have hzr : z = 48 + ((n % 10 : Nat) : Int) := by rw [← hz, hz1]
      obtain ⟨c, hc⟩ : ∃ c, UInt8.ofNat z.toNat = c := ⟨_, rfl⟩
      have hcv : ∀ g w', w'.cell? ⟨g, 0, none⟩ = some (.int .u8 (IntKind.u8.wrap (IntKind.i64.wrap (48 - x.tmod 10)))) → (convert 43 9 (.slice (some ⟨g, 0, none⟩) 1 1)).run Tryd.prog w' = .ok (.string ⟨#[c]⟩) w' := by
        intro g w' h
        rw [hz] at h
        rw [← hc]
        exact conv_z w' g _ (by omega) (by omega) h
      obtain ⟨D, hD⟩ : ∃ D : ByteArray, ⟨(Lib.decDigits (n / 10)).toArray⟩ = D := ⟨_, rfl⟩
      have HP := hide (fun (w' : World) (hg : w.grownBy w' none) => prp_big (n := n) (by omega) (w := w) (w' := w') (z := ((n % 10 : Nat) : Int)) rfl hg (c := c) (by rw [← hzr]; exact hc) hD)
      have HD : Hid (D.size ≤ 21) := hide (by
        have h1 := Lib.nDigits_le20 (n / 10) (by omega)
        rw [← Lib.decDigits_length] at h1
        rw [← hD]
        show (Lib.decDigits (n / 10)).toArray.size ≤ 21
        rw [List.size_toArray]
        omega)
      have HC : Hid (∀ W, Calls Tryd.prog 12 #[.int .i64 (IntKind.i64.wrap (x.tdiv 10))] W fun e w' => e = .returned (.string D) ∧ W.grownBy w' none) := hide (fun W => by
        rw [hq1]
        refine (ih (n / 10) (by omega) _ W (by omega) (by omega) (by omega)).mono ?_
        rintro e w' ⟨rfl, hg⟩
        exact ⟨by rw [← hD], hg⟩)
      clear ih hc hD hz hz1 hq1 hzr ht hd hx
      go_enter Tryd.func12, Tryd.ntmps12
      go_wp2
      have hd := unhide HD
      go_region_with (first | (go_at_call 12; with_reducible refine ((unhide HC) _).mono ?_; rintro e w1 ⟨rfl, hg⟩; (try (with_reducible have hc1 := grown_cell hg (new_cell_e w (.int .u8 (IntKind.u8.wrap (IntKind.i64.wrap (48 - x.tmod 10)))) 5)))))
      · have HG : Hid (∀ o, w.grownBy (w1.alloc o) none) := hide (fun o => (grown_un hg).trans (World.grownBy_alloc w1 o none))
        clear hg
        go_wp2
        go_ret
        exact (unhide HP) _ ((unhide HG) _)
      all_goals
        have HG : Hid (w.grownBy w1 none) := hide ((World.grownBy_alloc w _ none).trans (grown_un hg))
        clear hg hc1
        go_wp2
        go_ret
        exact (unhide HP) _ (unhide HG)
set_option maxRecDepth 100000 in
set_option maxHeartbeats 1000000 in
theorem digits_any (z : Int) (hz : okN z) (w : World) : Calls Tryd.prog 6 #[.int .i64 z] w fun e w' => PrP (itoaT z) w e w' := by
  by_cases h : z < 0
  · obtain ⟨D, hD⟩ : ∃ D : ByteArray, ⟨(Lib.decDigits z.natAbs).toArray⟩ = D := ⟨_, rfl⟩
    have HD : Hid (D.size ≤ 21) := hide (by
      have h1 := Lib.nDigits_le20 z.natAbs (by have := hz.1; omega)
      rw [← Lib.decDigits_length] at h1
      rw [← hD]
      show (Lib.decDigits z.natAbs).toArray.size ≤ 21
      rw [List.size_toArray]
      omega)
    have HC : Hid (Calls Tryd.prog 12 #[.int .i64 z] w fun e w' => e = .returned (.string D) ∧ w.grownBy w' none) := hide (by
      refine (under_n z.natAbs z w rfl (by omega) hz.1).mono ?_
      rintro e w' ⟨rfl, hg⟩
      exact ⟨by rw [← hD], hg⟩)
    have HP : Hid (∀ w', w.grownBy w' none → PrP (itoaT z) w (.returned (.string (⟨#[45]⟩ ++ D))) w') := hide (fun w' hg => by
      refine ⟨?_, hg⟩
      unfold itoaT Lib.itoa
      rw [if_pos h, ← hD]
      rfl)
    clear hD hz
    have hd := unhide HD
    go_enter Tryd.func6, Tryd.ntmps6
    go_wp2_with (go_at_call 12; refine (unhide HC).mono ?_)
    rintro e w1 ⟨rfl, hg⟩
    have HG := hide hg
    clear hg HC
    go_wp2
    go_ret
    exact (unhide HP) _ (unhide HG)
  · obtain ⟨n, rfl⟩ : ∃ n : Nat, z = n := ⟨z.toNat, by omega⟩
    refine (digits_n n w (by have := hz.2; omega)).mono ?_
    rintro e w' hp
    have e2 : itoaT (n : Int) = Lib.decDigits n := by
      unfold itoaT Lib.itoa
      rw [if_neg h]
      rfl
    rw [e2]
    exact hp
end Go.Proofs.YtipnefogflpkhaaDoor
