/- few, walked. -/
import Derived.Test.YtfkjjljhabjcjaaDoorCf
namespace Go.Proofs.YtfkjjljhabjcjaaDoor
open Go.RowKit Go.Proofs.YtfkjjljhabjcjaaDoor.Cx
theorem sumN_take_le {α : Type} (f : α → Nat) {B n : Nat} {l : List α} (h : ∀ x ∈ l, f x ≤ B) (hn : l.length ≤ n) (i : Nat) : sumN f (l.take i) ≤ n * B := by
  have h1 := sumN_le f B (l.take i) fun x hx => h x (List.mem_of_mem_take hx)
  have h2 : (l.take i).length * B ≤ n * B := Nat.mul_le_mul_right _ (by simp; omega)
  omega
theorem row_get {α : Type} {C : (Nat → Prop) → World → α → List Value → Prop} (g : Gd C) {size : Nat} {S : Nat → Prop} {w wr : World} {l : List α} {a : Option Addr} (h : RowOf C size S w l a) (hS : ∀ k, S k → k < w.heap.size) (hF : Fr (fun _ => False) w wr) {i : Nat} (hi : i < l.length) :
    ∃ b off cs, a = some ⟨b, off, none⟩ ∧ S b ∧ C S wr l[i] cs ∧ ∀ k u, cs[k]? = some u → wr.cell? ⟨b, off + i * size + k, none⟩ = some u := by
  obtain ⟨b, off, cs, h1, h2, h3, _, h5⟩ := (g.rowS (fun k hk => hF.block k (hS k hk) id) h).2 i hi
  exact ⟨b, off, cs, h1, h2, h3, h5⟩
theorem row_all {α : Type} {C : (Nat → Prop) → World → α → List Value → Prop} {size : Nat} {S : Nat → Prop} {w : World} {l : List α} {a : Option Addr} {P : α → Prop} (h : RowOf C size S w l a) (hc : ∀ x cs, C S w x cs → P x) : ∀ x ∈ l, P x := by
  intro x hx
  obtain ⟨j, hj, rfl⟩ := List.getElem_of_mem hx
  obtain ⟨b, off, cs, _, _, h3, _⟩ := h.2 j hj
  exact hc _ _ h3
def FewP (x : Prg) (w : World) (e : Ending) (w' : World) : Prop := Fr (fun _ => False) w w' ∧ ∃ r : Bool, e = .returned (.bool r) ∧ (r = true → tot x < 5000)
set_option maxRecDepth 100000 in
set_option maxHeartbeats 8000000 in
theorem few_any (x : Prg) (cs : List Value) (w : World) (hC : prgC (· < w.heap.size) w x cs) :
    Calls Tryd.prog 9 #[.agg cs.toArray] w fun e w' => FewP x w e w' := by
  obtain ⟨o0, a1, c1, a2, c2, a3, c3, a4, c4, rfl, h1, h2, h3, h4⟩ := hC
  have l1 := h1.1
  have l2 := h2.1
  have l3 := h3.1
  have l4 := h4.1
  have H1 := hide h1
  have H3 := hide h3
  have H4 := hide h4
  have B1 : Hid (∀ y ∈ x.texts, ByteArray.size y ≤ 281474976710656) := hide (row_all h1 fun y _ hy => hy.1)
  have B3 : Hid (∀ y ∈ x.structs, List.length y ≤ 281474976710656) := hide (row_all h3 fun y _ ⟨_, _, _, hy⟩ => hy.1)
  have HFr : Hid (∀ W, Fr (fun _ => False) (w.alloc (.cells #[.slice a1 x.texts.length c1, .slice a2 x.globals.length c2, .slice a3 x.structs.length c3, .slice a4 x.funcs.length c4, .int .i64 x.main] 27)) W → Fr (fun _ => False) w W) := hide fun W h => ((Fr.refl _ w).alloc _).trans h
  clear h1 h2 h3 h4 o0
  go_enter Tryd.func9, Tryd.ntmps9
  by_cases hbig : x.texts.length + x.globals.length + x.structs.length + x.funcs.length ≤ 5000
  · have hbig' : ¬ (5000 : Int) < (x.texts.length : Int) + x.globals.length + x.structs.length + x.funcs.length := by omega
    have BC : Hid (∀ j v, #[Value.slice a1 x.texts.length c1, .slice a2 x.globals.length c2, .slice a3 x.structs.length c3, .slice a4 x.funcs.length c4, .int .i64 x.main][j]? = some v → ∀ W, Fr (fun _ => False) (w.alloc (.cells #[.slice a1 x.texts.length c1, .slice a2 x.globals.length c2, .slice a3 x.structs.length c3, .slice a4 x.funcs.length c4, .int .i64 x.main] 27)) W → W.cell? ⟨w.heap.size, j, none⟩ = some v) := hide fun j v hj W hW => hW.cell (by rw [World.cell?_alloc_at _ _ _ _ rfl]; exact hj) id
    go_wp2
    generalize w.alloc (.cells #[.slice a1 x.texts.length c1, .slice a2 x.globals.length c2, .slice a3 x.structs.length c3, .slice a4 x.funcs.length c4, .int .i64 x.main] 27) = W0 at *
    obtain ⟨n0, hn0⟩ : ∃ n0, n0 = x.texts.length + x.globals.length + x.structs.length + x.funcs.length := ⟨_, rfl⟩
    go_loopw [3, 32] (fun v t wr => ∃ i n : Nat, i ≤ x.texts.length ∧ n ≤ 1407374883553285000 ∧ v = .int .i64 n ∧ t = .int .i64 i ∧ Hid (n = n0 + sumN ByteArray.size (x.texts.take i) ∧ Fr (fun _ => False) W0 wr)) (fun _ t _ => x.texts.length - (intOf t).toNat)
    case atStart => exact ⟨0, n0, by omega, by omega, by rw [hn0]; simp [Int.natCast_add], rfl, hide ⟨by simp [sumN], Fr.refl _ _⟩⟩
    case round =>
      obtain ⟨i, n, hi, hn, rfl, rfl, hI⟩ := hrel
      by_cases hlt : i < x.texts.length
      · obtain ⟨b, off, cs, e1, _, hc, hcell⟩ := row_get textG (unhide H1) (fun k hk => hk) ((unhide HFr) _ (unhide hI).2) hlt
        obtain ⟨hz, rfl⟩ := hc
        have hc0 : wr.cell? ⟨b, off + i, none⟩ = some (.string x.texts[i]) := by have := hcell 0 _ rfl; simpa using this
        have HN : Hid (sumN ByteArray.size (x.texts.take (i + 1)) = sumN ByteArray.size (x.texts.take i) + x.texts[i].size) := hide (sumN_next _ hlt)
        have HB : Hid (sumN ByteArray.size (x.texts.take (i + 1)) ≤ 5000 * 281474976710656) := hide (sumN_take_le _ (unhide B1) (by omega) _)
        have hadd : n + x.texts[i].size ≤ 1407374883553285000 := by
          have h1 := (unhide hI).1
          have h2 := unhide HN
          have h3 := unhide HB
          omega
        subst e1
        clear hcell
        generalize x.texts[i] = s at *
        go_wp2
        go_roundw
        case rel => exact ⟨i + 1, n + s.size, by omega, hadd, by simp, rfl, hide ⟨by rw [unhide HN, (unhide hI).1]; omega, (unhide hI).2⟩⟩
        case measure => simp [intOf]; omega
      · obtain rfl : i = x.texts.length := by omega
        have hI1 := unhide hI
        rw [List.take_length] at hI1
        have HI1 := hide hI1
        have b0 := (unhide BC) 2 _ rfl wr hI1.2
        clear hI hI1
        go_wp2
        go_loopw [3, 44] (fun v t wr => ∃ i m : Nat, i ≤ x.structs.length ∧ m ≤ 2814749767106565000 ∧ v = .int .i64 m ∧ t = .int .i64 i ∧ Hid (m = n + sumN List.length (x.structs.take i) ∧ Fr (fun _ => False) W0 wr)) (fun _ t _ => x.structs.length - (intOf t).toNat)
        case atStart => exact ⟨0, n, by omega, by omega, rfl, rfl, hide ⟨by simp [sumN], (unhide HI1).2⟩⟩
        case round =>
          obtain ⟨i, m, hi, hm, rfl, rfl, hI⟩ := hrel
          by_cases hlt : i < x.structs.length
          · obtain ⟨b, off, cs, e1, _, hc, hcell⟩ := row_get (listG flagG 1) (unhide H3) (fun k hk => hk) ((unhide HFr) _ (unhide hI).2) hlt
            obtain ⟨aa, cc, rfl, hr⟩ := hc
            have hz := hr.1
            have hc0 : wr.cell? ⟨b, off + i, none⟩ = some (.slice aa x.structs[i].length cc) := by have := hcell 0 _ rfl; simpa using this
            have HN : Hid (sumN List.length (x.structs.take (i + 1)) = sumN List.length (x.structs.take i) + x.structs[i].length) := hide (sumN_next _ hlt)
            have HB : Hid (sumN List.length (x.structs.take (i + 1)) ≤ 5000 * 281474976710656) := hide (sumN_take_le _ (unhide B3) (by omega) _)
            have hadd : m + x.structs[i].length ≤ 2814749767106565000 := by
              have h1 := (unhide hI).1
              have h2 := unhide HN
              have h3 := unhide HB
              omega
            subst e1
            clear hcell hr
            generalize x.structs[i].length = s at *
            go_wp2
            go_roundw
            case rel => exact ⟨i + 1, m + s, by omega, hadd, by simp, rfl, hide ⟨by rw [unhide HN, (unhide hI).1]; omega, (unhide hI).2⟩⟩
            case measure => simp [intOf]; omega
          · obtain rfl : i = x.structs.length := by omega
            have hI1 := unhide hI
            rw [List.take_length] at hI1
            have HI2 := hide hI1
            have b0 := (unhide BC) 3 _ rfl wr hI1.2
            clear hI hI1
            go_wp2
            go_loopw [3, 56] (fun v t wr => ∃ i k : Nat, i ≤ x.funcs.length ∧ k ≤ 4222124650659900000 ∧ v = .int .i64 k ∧ t = .int .i64 i ∧ Hid (k = m + sumN fncN (x.funcs.take i) ∧ Fr (fun _ => False) W0 wr)) (fun _ t _ => x.funcs.length - (intOf t).toNat)
            case atStart => exact ⟨0, m, by omega, by omega, rfl, rfl, hide ⟨by simp [sumN], (unhide HI2).2⟩⟩
            case round =>
              obtain ⟨i, k, hi, hk, rfl, rfl, hI⟩ := hrel
              by_cases hlt : i < x.funcs.length
              · obtain ⟨b, off, cs, e1, _, hc, hcell⟩ := row_get fncG (unhide H4) (fun k hk => hk) ((unhide HFr) _ (unhide hI).2) hlt
                obtain ⟨⟨z0, _, _⟩, aa, ca, ab, cb, rfl, hra, hrb⟩ := hc
                have z1 := hra.1
                have z2 := hrb.1
                have HRb := hide hrb
                have HN : Hid (sumN fncN (x.funcs.take (i + 1)) = sumN fncN (x.funcs.take i) + fncN x.funcs[i]) := hide (sumN_next _ hlt)
                have BI : Hid (∀ y ∈ x.funcs[i].code, insN y ≤ 281474976710656) := hide (row_all hrb fun y _ ⟨_, _, _, _, hy⟩ => hy.1)
                have hc0 : wr.cell? ⟨b, off + i * 6, none⟩ = some (.string x.funcs[i].name) := by have := hcell 0 _ rfl; simpa using this
                have hc1 : wr.cell? ⟨b, off + i * 6 + 1, none⟩ = some (.slice aa x.funcs[i].refs.length ca) := by have := hcell 1 _ rfl; simpa using this
                have hc2 : wr.cell? ⟨b, off + i * 6 + 2, none⟩ = some (.int .i64 x.funcs[i].params) := by have := hcell 2 _ rfl; simpa using this
                have hc3 : wr.cell? ⟨b, off + i * 6 + 3, none⟩ = some (.int .i64 x.funcs[i].captures) := by have := hcell 3 _ rfl; simpa using this
                have hc4 : wr.cell? ⟨b, off + i * 6 + 4, none⟩ = some (.bool x.funcs[i].result) := by have := hcell 4 _ rfl; simpa using this
                have hc5 : wr.cell? ⟨b, off + i * 6 + 5, none⟩ = some (.slice ab x.funcs[i].code.length cb) := by have := hcell 5 _ rfl; simpa using this
                subst e1
                clear hcell hra hrb
                generalize x.funcs[i] = f at *
                by_cases hgt : k + (f.name.size + f.refs.length + f.code.length) ≤ 5000
                · have hgt' : ¬ (5000 : Int) < (k : Int) + ((f.name.size : Int) + f.refs.length + f.code.length) := by omega
                  have hwr : w.heap.size ≤ wr.heap.size := ((unhide HFr) _ (unhide hI).2).size
                  go_wp2
                  obtain ⟨k1, hk1⟩ : ∃ k1, k1 = k + (f.name.size + f.refs.length + f.code.length) := ⟨_, rfl⟩
                  go_loopw [3, 78] (fun v t w4 => ∃ j q : Nat, j ≤ f.code.length ∧ q ≤ 1407374883553285000 ∧ v = .int .i64 q ∧ t = .int .i64 j ∧ Hid (q = k1 + sumN insN (f.code.take j) ∧ Fr (fun _ => False) wr w4)) (fun _ t _ => f.code.length - (intOf t).toNat)
                  case atStart => exact ⟨0, k1, by omega, by omega, by rw [hk1]; simp [Int.natCast_add], rfl, hide ⟨by simp [sumN], (Fr.refl _ _).alloc _⟩⟩
                  case round =>
                    obtain ⟨j, q, hj, hq, rfl, rfl, hJ⟩ := hrel
                    by_cases hjl : j < f.code.length
                    · obtain ⟨b, off, cs, e1, _, hc, hcell⟩ := row_get insG (unhide HRb) (fun k hk => Nat.lt_of_lt_of_le hk hwr) (unhide hJ).2 hjl
                      obtain ⟨_, ad, cd, rfl, hr⟩ := hc
                      have z3 := hr.1
                      have HM : Hid (sumN insN (f.code.take (j + 1)) = sumN insN (f.code.take j) + f.code[j].list.length) := hide (sumN_next _ hjl)
                      have HB : Hid (sumN insN (f.code.take (j + 1)) ≤ 5000 * 281474976710656) := hide (sumN_take_le _ (unhide BI) (by omega) _)
                      have hadd : q + f.code[j].list.length ≤ 1407374883553285000 := by
                        have h1 := (unhide hJ).1
                        have h2 := unhide HM
                        have h3 := unhide HB
                        omega
                      have hd0 : wr.cell? ⟨b, off + j * 6, none⟩ = some (.int .i64 f.code[j].op) := by have := hcell 0 _ rfl; simpa using this
                      have hd1 : wr.cell? ⟨b, off + j * 6 + 1, none⟩ = some (.int .i64 f.code[j].a) := by have := hcell 1 _ rfl; simpa using this
                      have hd2 : wr.cell? ⟨b, off + j * 6 + 2, none⟩ = some (.int .i64 f.code[j].b) := by have := hcell 2 _ rfl; simpa using this
                      have hd3 : wr.cell? ⟨b, off + j * 6 + 3, none⟩ = some (.int .i64 f.code[j].c) := by have := hcell 3 _ rfl; simpa using this
                      have hd4 : wr.cell? ⟨b, off + j * 6 + 4, none⟩ = some (.int .i64 f.code[j].d) := by have := hcell 4 _ rfl; simpa using this
                      have hd5 : wr.cell? ⟨b, off + j * 6 + 5, none⟩ = some (.slice ad f.code[j].list.length cd) := by have := hcell 5 _ rfl; simpa using this
                      subst e1
                      clear hcell hr
                      generalize f.code[j] = g at *
                      go_wp2
                      go_roundw
                      case rel => exact ⟨j + 1, q + g.list.length, by omega, hadd, by simp, rfl, hide ⟨by rw [unhide HM, (unhide hJ).1]; omega, (unhide hJ).2.alloc _⟩⟩
                      case measure => simp [intOf]; omega
                    · obtain rfl : j = f.code.length := by omega
                      have HQ : Hid (q = k + fncN f) := hide (by
                        have h1 := (unhide hJ).1
                        rw [List.take_length] at h1
                        unfold fncN
                        omega)
                      go_wp2
                      go_roundw
                      case rel => exact ⟨i + 1, q, by omega, by omega, rfl, rfl, hide ⟨by rw [unhide HN, unhide HQ, (unhide hI).1]; omega, (unhide hI).2.trans (unhide hJ).2⟩⟩
                      case measure => simp [intOf]; omega
                · have hgt' : (5000 : Int) < (k : Int) + ((f.name.size : Int) + f.refs.length + f.code.length) := by omega
                  go_wp2
                  go_ret
                  exact ⟨(unhide HFr) _ ((unhide hI).2.alloc _), false, rfl, fun h => by cases h⟩
              · obtain rfl : i = x.funcs.length := by omega
                have HT : Hid (k = tot x) := hide (by
                  have h1 := (unhide hI).1
                  have h2 := (unhide HI2).1
                  have h3 := (unhide HI1).1
                  rw [List.take_length] at h1
                  unfold tot
                  omega)
                go_wp2
                go_ret
                refine ⟨(unhide HFr) _ (unhide hI).2, _, rfl, fun h => ?_⟩
                have h1 := unhide HT
                have h2 := of_decide_eq_true h
                omega
  · have hbig' : (5000 : Int) < (x.texts.length : Int) + x.globals.length + x.structs.length + x.funcs.length := by omega
    go_wp2
    go_ret
    exact ⟨(unhide HFr) _ (Fr.refl _ _), false, rfl, fun h => by cases h⟩
end Go.Proofs.YtfkjjljhabjcjaaDoor
