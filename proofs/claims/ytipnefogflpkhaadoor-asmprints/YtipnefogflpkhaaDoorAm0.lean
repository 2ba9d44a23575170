/- AsmPrints, walked. -/
import Derived.Test.YtipnefogflpkhaaDoorAk0
import Derived.Test.YtipnefogflpkhaaDoorAl1
set_option linter.unusedVariables false
set_option linter.unusedSimpArgs false
namespace Go.Proofs.YtipnefogflpkhaaDoor
open Go.RowKit
theorem instr_D (k : Nat) (hk : okN k) (x : Ins) (hx : IOk x) (hlen : x.list.length ≤ 3000) : ∃ Z : ByteArray, Tx (lineT (insF k x)) Z ∧ Z.size ≤ 264045 ∧ ∀ W cs, insC (· < W.heap.size) W x cs → Calls Tryd.prog 8 #[.int .i64 k, .agg cs.toArray] W fun e w' => DP Z W e w' :=
  ⟨⟨(lineT (insF k x)).toArray⟩, rfl, by have := ins_le hk hx hlen; show (lineT (insF k x)).toArray.size ≤ _; rw [List.size_toArray]; exact this, fun W cs hI => instr_r k hk x cs W hI hlen⟩
set_option maxRecDepth 100000 in
set_option maxHeartbeats 4000000 in
theorem prints_w (x : Prg) (cs : List Value) (w : World) (hV : Vs w) (hC : prgC (· < w.heap.size) w x cs) : Calls Tryd.prog 3 #[.agg cs.toArray] w fun e w' => e = .returned (.bool true) ∧ Below w.heap.size w w' := by
  have HA := hide (anchor_any w hV _ (((Below.refl w.heap.size w)).alloc (Nat.le_refl _) (.cells cs.toArray 27)))
  have hC0 := hC
  obtain ⟨o0, a1, c1, a2, c2, a3, c3, a4, c4, rfl, h1, h2, h3, h4⟩ := hC
  have l1 := h1.1
  have l4 := h4.1
  have HR1 := hide h1
  have HR2 := hide h2
  have HR3 := hide h3
  have HR4 := hide h4
  have HO := hide o0
  have HC0 : Hid (okN x.main ∧ ∀ f ∈ x.funcs, NOk f) := hide (prg_okN hC0)
  have HCp := hide hC0
  clear h1 h2 h3 h4 o0 hC0
  go_enter Tryd.func3, Tryd.ntmps3
  go_wp2_with (go_at_call 5; refine (unhide HA).mono ?_)
  rintro e w1 ⟨rfl, hg1⟩
  have hd : ∀ i v, #[Value.slice a1 x.texts.length c1, .slice a2 x.globals.length c2, .slice a3 x.structs.length c3, .slice a4 x.funcs.length c4, .int .i64 x.main][i]? = some v → w1.cell? ⟨w.heap.size, i, none⟩ = some v := fun i v h => grown_cell hg1 (by rw [World.cell?_alloc_at _ _ _ _ rfl]; exact h)
  have d0 := hd 0 _ rfl
  have d3 := hd 3 _ rfl
  have HD := hide hd
  have HG1 : Hid (w.grownBy w1 none) := hide ((World.grownBy_alloc w _ none).trans hg1)
  clear hd hg1 HA
  by_cases hbig : x.texts.length + x.funcs.length ≤ 2000
  · have hbig' : ¬ (2000 : Int) < (x.texts.length : Int) + x.funcs.length := by omega
    obtain ⟨n0, hn0⟩ : ∃ n0, n0 = x.texts.length + x.funcs.length := ⟨_, rfl⟩
    go_wp2
    go_loopw [3, 34] (fun v t wr => ∃ i n : Nat, i ≤ x.texts.length ∧ n ≤ 4000 + i * 281474976710656 ∧ v = .int .i64 n ∧ t = .int .i64 i ∧ Hid (n0 ≤ n ∧ ∀ j (h : j < x.texts.length), j < i → x.texts[j].size ≤ n) ∧ Hid (w1.grownBy wr none)) (fun _ t _ => x.texts.length - (intOf t).toNat)
    case atStart => exact ⟨0, n0, Nat.zero_le _, by omega, by rw [hn0]; simp [Int.natCast_add], rfl, hide ⟨Nat.le_refl _, fun j h hj => by omega⟩, hide (World.grownBy.refl _ _)⟩
    case round =>
      obtain ⟨i, n, hi, hn, rfl, rfl, hI, hG⟩ := hrel
      by_cases hlt : i < x.texts.length
      · obtain ⟨b, off, cs, e1, _, hc, hcell⟩ := row_get textG (unhide HR1) (fun k hk => ((unhide HG1).trans (unhide hG)).block k hk (by simp)) hlt
        obtain ⟨hz, rfl⟩ := hc
        have hc0 : wr.cell? ⟨b, off + i, none⟩ = some (.string x.texts[i]) := by have := hcell 0 _ rfl; simpa using this
        have HI : Hid (n0 ≤ n + x.texts[i].size ∧ ∀ j (h : j < x.texts.length), j < i + 1 → x.texts[j].size ≤ n + x.texts[i].size) := hide ⟨by have := (unhide hI).1; omega, fun j h hj => by
          rcases Nat.lt_or_ge j i with h2 | h2
          · have := (unhide hI).2 j h h2
            omega
          · obtain rfl : j = i := by omega
            omega⟩
        subst e1
        clear hcell hI
        generalize x.texts[i] = s at *
        go_wp2
        go_roundw
        case rel => exact ⟨i + 1, n + s.size, by omega, by omega, by simp, rfl, HI, hG⟩
        case measure => simp [intOf]; omega
      · obtain rfl : i = x.texts.length := by omega
        have HT : Hid (n0 ≤ n ∧ ∀ j (h : j < x.texts.length), x.texts[j].size ≤ n) := hide ⟨(unhide hI).1, fun j h => (unhide hI).2 j h h⟩
        have b3 := grown_cell (unhide hG) d3
        clear hI d3
        go_wp2
        go_loopw [3, 46] (fun v t wr => ∃ i m : Nat, i ≤ x.funcs.length ∧ m ≤ 900000000000000000 ∧ v = .int .i64 m ∧ t = .int .i64 i ∧ Hid (n ≤ m ∧ ∀ j (h : j < x.funcs.length), j < i → FOk x.funcs[j] m) ∧ Hid (w1.grownBy wr none)) (fun _ t _ => x.funcs.length - (intOf t).toNat)
        case atStart => exact ⟨0, n, Nat.zero_le _, by omega, rfl, rfl, hide ⟨Nat.le_refl _, fun j h hj => by omega⟩, hG⟩
        case round =>
          clear hG b3
          obtain ⟨i, m, hi, hm, rfl, rfl, hI, hG⟩ := hrel
          by_cases hlt : i < x.funcs.length
          · obtain ⟨b, off, cs, e1, _, hc, hcell⟩ := row_get fncG (unhide HR4) (fun k hk => ((unhide HG1).trans (unhide hG)).block k hk (by simp)) hlt
            obtain ⟨⟨z0, _, _⟩, aa, ca, ab, cb, rfl, hra, hrb⟩ := hc
            have z1 := hra.1
            have z2 := hrb.1
            have HRb := hide hrb
            have hc0 : wr.cell? ⟨b, off + i * 6, none⟩ = some (.string x.funcs[i].name) := by have := hcell 0 _ rfl; simpa using this
            have hc1 : wr.cell? ⟨b, off + i * 6 + 1, none⟩ = some (.slice aa x.funcs[i].refs.length ca) := by have := hcell 1 _ rfl; simpa using this
            have hc2 : wr.cell? ⟨b, off + i * 6 + 2, none⟩ = some (.int .i64 x.funcs[i].params) := by have := hcell 2 _ rfl; simpa using this
            have hc3 : wr.cell? ⟨b, off + i * 6 + 3, none⟩ = some (.int .i64 x.funcs[i].captures) := by have := hcell 3 _ rfl; simpa using this
            have hc4 : wr.cell? ⟨b, off + i * 6 + 4, none⟩ = some (.bool x.funcs[i].result) := by have := hcell 4 _ rfl; simpa using this
            have hc5 : wr.cell? ⟨b, off + i * 6 + 5, none⟩ = some (.slice ab x.funcs[i].code.length cb) := by have := hcell 5 _ rfl; simpa using this
            have HIn : Hid (∀ p, m ≤ p → FOk x.funcs[i] p → n ≤ p ∧ ∀ j (h : j < x.funcs.length), j < i + 1 → FOk x.funcs[j] p) := hide fun p hp hf => ⟨by have := (unhide hI).1; omega, fun j h hj => by
              rcases Nat.lt_or_ge j i with h2 | h2
              · exact ((unhide hI).2 j h h2).mono hp
              · obtain rfl : j = i := by omega
                exact hf⟩
            have hBl : Hid (∀ W, w1.grownBy W none → ∀ k, k < w.heap.size → W.heap[k]? = wr.heap[k]?) := hide (fun W hW k hk => (((unhide HG1).trans hW).block k hk (by simp)).trans (((unhide HG1).trans (unhide hG)).block k hk (by simp)).symm)
            subst e1
            clear hcell hra hrb hI
            generalize x.funcs[i] = f at *
            by_cases hgt : m + (f.name.size + f.refs.length + f.code.length) ≤ 3000
            · have hgt' : ¬ (3000 : Int) < (m : Int) + ((f.name.size : Int) + f.refs.length + f.code.length) := by omega
              obtain ⟨m1, hm1⟩ : ∃ m1, m1 = m + (f.name.size + f.refs.length + f.code.length) := ⟨_, rfl⟩
              have HGa : Hid (∀ o, w1.grownBy (wr.alloc o) none) := hide (fun o => (unhide hG).trans (World.grownBy_alloc wr o none))
              go_wp2
              go_loopw [3, 68] (fun v t w4 => ∃ j q : Nat, j ≤ f.code.length ∧ q ≤ 3000 + j * 281474976710656 ∧ v = .int .i64 q ∧ t = .int .i64 j ∧ Hid (m1 ≤ q ∧ ∀ p (h : p < f.code.length), p < j → f.code[p].list.length ≤ q) ∧ Hid (w1.grownBy w4 none)) (fun _ t _ => f.code.length - (intOf t).toNat)
              case atStart => exact ⟨0, m1, Nat.zero_le _, by omega, by rw [hm1]; simp [Int.natCast_add], rfl, hide ⟨Nat.le_refl _, fun j h hj => by omega⟩, hide ((unhide HGa) _)⟩
              case round =>
                obtain ⟨j, q, hj, hq, rfl, rfl, hJ, hG4⟩ := hrel
                by_cases hjl : j < f.code.length
                · obtain ⟨b, off, cs, e1, _, hc, hcell⟩ := row_get insG (unhide HRb) ((unhide hBl) _ (unhide hG4)) hjl
                  obtain ⟨_, ad, cd, rfl, hr⟩ := hc
                  have z3 := hr.1
                  have hd0 : wr.cell? ⟨b, off + j * 6, none⟩ = some (.int .i64 f.code[j].op) := by have := hcell 0 _ rfl; simpa using this
                  have hd1 : wr.cell? ⟨b, off + j * 6 + 1, none⟩ = some (.int .i64 f.code[j].a) := by have := hcell 1 _ rfl; simpa using this
                  have hd2 : wr.cell? ⟨b, off + j * 6 + 2, none⟩ = some (.int .i64 f.code[j].b) := by have := hcell 2 _ rfl; simpa using this
                  have hd3 : wr.cell? ⟨b, off + j * 6 + 3, none⟩ = some (.int .i64 f.code[j].c) := by have := hcell 3 _ rfl; simpa using this
                  have hd4 : wr.cell? ⟨b, off + j * 6 + 4, none⟩ = some (.int .i64 f.code[j].d) := by have := hcell 4 _ rfl; simpa using this
                  have hd5 : wr.cell? ⟨b, off + j * 6 + 5, none⟩ = some (.slice ad f.code[j].list.length cd) := by have := hcell 5 _ rfl; simpa using this
                  have HJ : Hid (m1 ≤ q + f.code[j].list.length ∧ ∀ p (h : p < f.code.length), p < j + 1 → f.code[p].list.length ≤ q + f.code[j].list.length) := hide ⟨by have := (unhide hJ).1; omega, fun p h hp => by
                    rcases Nat.lt_or_ge p j with h2 | h2
                    · have := (unhide hJ).2 p h h2
                      omega
                    · obtain rfl : p = j := by omega
                      omega⟩
                  have HGb : Hid (∀ o, w1.grownBy (wr.alloc o) none) := hide (fun o => (unhide hG4).trans (World.grownBy_alloc wr o none))
                  subst e1
                  clear hcell hr hJ
                  generalize f.code[j] = g at *
                  go_wp2
                  go_roundw
                  case rel => exact ⟨j + 1, q + g.list.length, by omega, by omega, by simp, rfl, HJ, hide ((unhide HGb) _)⟩
                  case measure => simp [intOf]; omega
                · obtain rfl : j = f.code.length := by omega
                  have HF : Hid (FOk f q) := hide ⟨⟨by have := (unhide hJ).1; omega, by have := (unhide hJ).1; omega, by have := (unhide hJ).1; omega⟩, fun y hy => by
                    obtain ⟨p, hp, rfl⟩ := List.getElem_of_mem hy
                    exact (unhide hJ).2 p hp hp⟩
                  have HI2 := hide ((unhide HIn) q (by have := (unhide hJ).1; omega) (unhide HF))
                  clear hJ HF
                  go_wp2
                  go_roundw
                  case rel => exact ⟨i + 1, q, by omega, by omega, rfl, by simp, HI2, hG4⟩
                  case measure => simp [intOf]; omega
            · have hgt' : (3000 : Int) < (m : Int) + ((f.name.size : Int) + f.refs.length + f.code.length) := by omega
              have HE : Hid (∀ o, Below w.heap.size w (wr.alloc o)) := hide (fun o => below_grown (Below.refl _ _) (((unhide HG1).trans (unhide hG)).trans (World.grownBy_alloc wr o none)))
              go_wp2
              go_ret
              exact ⟨rfl, (unhide HE) _⟩
          · obtain rfl : i = x.funcs.length := by omega
            by_cases hfin : m ≤ 3000
            · have hfin' : ¬ (3000 : Int) < (m : Int) := by omega
              have e0 := grown_cell (unhide hG) ((unhide HD) 0 _ rfl)
              have HTx : Hid (∀ j (h : j < x.texts.length), x.texts[j].size ≤ 3000) := hide (fun j h => by have h1 := (unhide HT).2 j h; have h2 := (unhide hI).1; omega)
              have HFx : Hid (∀ j (h : j < x.funcs.length), FOk x.funcs[j] 3000) := hide (fun j h => ((unhide hI).2 j h h).mono hfin)
              have hle := printT_le (unhide HC0).1 (unhide HC0).2 (unhide HTx) (unhide HFx) (by omega) (by omega)
              obtain ⟨T, hTd⟩ : ∃ T : Nat → List UInt8, ∀ i, cat (textT x.texts) i = T i := ⟨_, fun _ => rfl⟩
              obtain ⟨F, hFd⟩ : ∃ F : Nat → List UInt8, ∀ i, T x.texts.length ++ cat (funcT x.funcs) i = F i := ⟨_, fun _ => rfl⟩
              have hend : F x.funcs.length ++ lineT (mainP x.main) = printT x := by rw [← hFd, ← hTd, List.append_assoc]; rfl
              have HTl : Hid (∀ i, i ≤ x.texts.length → (T i).length ≤ 2000000000000) := hide (fun i hi => by
                have h1 := cat_le (textT x.texts) hi
                rw [← hend, ← hFd, ← hTd] at hle
                rw [← hTd]
                simp only [List.length_append] at hle ⊢
                omega)
              have HFl : Hid (∀ i, i ≤ x.funcs.length → (F i).length ≤ 2000000000000) := hide (fun i hi => by
                have h1 := cat_le (funcT x.funcs) hi
                rw [← hend, ← hFd] at hle
                rw [← hFd]
                simp only [List.length_append] at hle ⊢
                omega)
              have HTs : Hid (∀ i (h : i < x.texts.length), T i ++ lineT (textP i x.texts[i]) = T (i + 1)) := hide (fun i h => by rw [← hTd, ← hTd, cat_succ, textT_at h])
              have HFs : Hid (∀ i (h : i < x.funcs.length), F i ++ fncT (i + 1) x.funcs[i] = F (i + 1)) := hide (fun i h => by rw [← hFd, ← hFd, cat_succ, funcT_at h, List.append_assoc])
              have HF0 : Hid (T x.texts.length = F 0) := hide (by rw [← hFd]; simp [cat])
              have HT0 : Hid (Tx (T 0) ⟨#[]⟩) := hide (by rw [← hTd]; rfl)
              have HEnd := hide hend
              have HLe := hide hle
              clear hTd hFd hend hle hI HT
              go_wp2
              go_loopw [10, 84] (fun v t wr => ∃ (i : Nat) (X : ByteArray), i ≤ x.texts.length ∧ v = .string X ∧ t = .int .i64 i ∧ Hid (Tx (T i) X) ∧ Hid (w1.grownBy wr none)) (fun _ t _ => x.texts.length - (intOf t).toNat)
              case atStart => exact ⟨0, _, Nat.zero_le _, rfl, rfl, HT0, hG⟩
              case round =>
                clear hG e0 HT0
                obtain ⟨i, X, hi, rfl, rfl, hX, hG⟩ := hrel
                have hXs : X.size ≤ 2000000000000 := by rw [(unhide hX).size]; exact (unhide HTl) i hi
                by_cases hlt : i < x.texts.length
                · obtain ⟨b, off, cs, e1, _, hc, hcell⟩ := row_get textG (unhide HR1) (fun k hk => ((unhide HG1).trans (unhide hG)).block k hk (by simp)) hlt
                  obtain ⟨hz, rfl⟩ := hc
                  have hc0 : wr.cell? ⟨b, off + i, none⟩ = some (.string x.texts[i]) := by have := hcell 0 _ rfl; simpa using this
                  have hsz := (unhide HTx) i hlt
                  have HT := hide ((unhide HTs) i hlt)
                  obtain ⟨D, hD, hDs, HD0⟩ := digits_D i (okN_nat (by omega))
                  have HDc := hide HD0
                  subst e1
                  clear hcell HD0 hz
                  generalize x.texts[i] = s at *
                  obtain ⟨Q, hQ, hQs, HQ0⟩ : ∃ Q : ByteArray, Tx (quotedT s) Q ∧ Q.size ≤ 10000 ∧ ∀ W, Calls Tryd.prog 7 #[.string s] W fun e w' => DP Q W e w' :=
                    ⟨⟨(quotedT s).toArray⟩, rfl, by have := quotedT_le s; show (quotedT s).toArray.size ≤ _; rw [List.size_toArray]; omega, fun W => Quote_r s W (by omega)⟩
                  have HQc := hide HQ0
                  clear HQ0
                  have HX2 : Hid (Tx (T (i + 1)) (X ++ (⟨#[116, 101, 120, 116, 32]⟩ ++ D ++ ⟨#[32]⟩ ++ Q ++ ⟨#[10]⟩))) := hide ((unhide hX).app (((((Tx.mk [116, 101, 120, 116, 32]).app hD rfl).app (Tx.mk [32]) rfl).app hQ rfl).app (Tx.mk [10]) rfl) (by rw [← unhide HT, textP_text]))
                  clear hX hD hQ HT
                  go_wp2_with (go_at_call 6; refine ((unhide HDc) _).mono ?_)
                  rintro e w2 ⟨rfl, hg2⟩
                  clear hc0
                  go_wp2_with (go_at_call 7; refine ((unhide HQc) _).mono ?_)
                  rintro e w3 ⟨rfl, hg3⟩
                  have HG3 := hide (((unhide hG).trans hg2).trans hg3)
                  clear hg2 hg3 hG HDc HQc
                  go_wp2
                  go_roundw
                  case rel => exact ⟨i + 1, _, by omega, rfl, by simp, HX2, HG3⟩
                  case measure => simp [intOf]; omega
                · obtain rfl : i = x.texts.length := by omega
                  have e3 := grown_cell (unhide hG) ((unhide HD) 3 _ rfl)
                  rw [unhide HF0] at hX
                  have hX' := hide (unhide hX)
                  go_wp2
                  go_loopw [10, 103] (fun v t wr => ∃ (i : Nat) (X : ByteArray), i ≤ x.funcs.length ∧ v = .string X ∧ t = .int .i64 i ∧ Hid (Tx (F i) X) ∧ Hid (w1.grownBy wr none)) (fun _ t _ => x.funcs.length - (intOf t).toNat)
                  case atStart => exact ⟨0, _, Nat.zero_le _, rfl, rfl, hX, hG⟩
                  case round =>
                    clear hG e3 hX hX' hXs
                    obtain ⟨i, X, hi, rfl, rfl, hX, hG⟩ := hrel
                    have hXs : X.size ≤ 2000000000000 := by rw [(unhide hX).size]; exact (unhide HFl) i hi
                    by_cases hlt : i < x.funcs.length
                    · obtain ⟨b, off, cs, e1, _, hc, hcell⟩ := row_get fncG (unhide HR4) (fun k hk => ((unhide HG1).trans (unhide hG)).block k hk (by simp)) hlt
                      obtain ⟨⟨z0, _, _⟩, aa, ca, ab, cb, rfl, hra, hrb⟩ := hc
                      have z1 := hra.1
                      have z2 := hrb.1
                      have HRa := hide hra
                      have HRb := hide hrb
                      have hc0 : wr.cell? ⟨b, off + i * 6, none⟩ = some (.string x.funcs[i].name) := by have := hcell 0 _ rfl; simpa using this
                      have hc1 : wr.cell? ⟨b, off + i * 6 + 1, none⟩ = some (.slice aa x.funcs[i].refs.length ca) := by have := hcell 1 _ rfl; simpa using this
                      have hc2 : wr.cell? ⟨b, off + i * 6 + 2, none⟩ = some (.int .i64 x.funcs[i].params) := by have := hcell 2 _ rfl; simpa using this
                      have hc3 : wr.cell? ⟨b, off + i * 6 + 3, none⟩ = some (.int .i64 x.funcs[i].captures) := by have := hcell 3 _ rfl; simpa using this
                      have hc4 : wr.cell? ⟨b, off + i * 6 + 4, none⟩ = some (.bool x.funcs[i].result) := by have := hcell 4 _ rfl; simpa using this
                      have hc5 : wr.cell? ⟨b, off + i * 6 + 5, none⟩ = some (.slice ab x.funcs[i].code.length cb) := by have := hcell 5 _ rfl; simpa using this
                      have hfk := (unhide HFx) i hlt
                      have hnk := (unhide HC0).2 _ (List.getElem_mem hlt)
                      have HF := hide ((unhide HFs) i hlt)
                      have hFl1 := (unhide HFl) (i + 1) (by omega)
                      have hBl : Hid (∀ W, w1.grownBy W none → ∀ k, k < w.heap.size → W.heap[k]? = wr.heap[k]?) := hide (fun W hW k hk => (((unhide HG1).trans hW).block k hk (by simp)).trans (((unhide HG1).trans (unhide hG)).block k hk (by simp)).symm)
                      subst e1
                      clear hcell hra hrb
                      generalize x.funcs[i] = f at *
                      obtain ⟨⟨f1, f2, f3⟩, hfc⟩ := hfk
                      obtain ⟨k1, k2, k3⟩ := hnk
                      obtain ⟨N, hNm⟩ : ∃ N, nameB f.name = N := ⟨_, rfl⟩
                      have hNs : N.size ≤ 3000 := by
                        rw [← hNm]
                        unfold nameB
                        split
                        · decide
                        · exact f1
                      cases hq : f.name.toList.isEmpty with
                      | true =>
                        have hNm : nameB f.name = ⟨#[45]⟩ := name_e hq
                        obtain ⟨D, hD, hDs, HD0⟩ := digits_D ((i : Int) + 1) (by unfold okN; omega)
                        obtain ⟨P, hP, hPs, HP0⟩ := digits_D f.params k1
                        obtain ⟨E, hE, hEs, HE0⟩ := digits_D f.captures k2
                        have HX1 : Hid (Tx (F i ++ hdrT (i + 1) f) (X ++ (⟨#[102, 117, 110, 99, 32]⟩ ++ D ++ ⟨#[32]⟩ ++ ⟨#[45]⟩ ++ ⟨#[32, 112, 97, 114, 97, 109, 115, 32]⟩ ++ P ++ ⟨#[32, 99, 97, 112, 116, 117, 114, 101, 115, 32]⟩ ++ E ++ ⟨#[32, 114, 101, 103, 105, 115, 116, 101, 114, 115, 32]⟩))) := hide ((unhide hX).app (((((((((Tx.mk [102, 117, 110, 99, 32]).app hD rfl).app (Tx.mk [32]) rfl).app (m := (⟨#[45]⟩ : ByteArray).data.toList) rfl rfl).app (Tx.mk [32, 112, 97, 114, 97, 109, 115, 32]) rfl).app hP rfl).app (Tx.mk [32, 99, 97, 112, 116, 117, 114, 101, 115, 32]) rfl).app hE rfl).app (Tx.mk [32, 114, 101, 103, 105, 115, 116, 101, 114, 115, 32]) rfl) (by unfold hdrT; rw [hNm]; rfl))
                        have H1 : Hid (∀ W, Calls Tryd.prog 6 #[.int .i64 (IntKind.i64.wrap ((i : Int) + 1))] W fun e w' => DP D W e w') := hide (fun W => by rw [IntWalk.i64_in _ (by omega)]; exact HD0 W)
                        have H2 := hide HP0
                        have H3 := hide HE0
                        clear HD0 HP0 HE0 hX hD hP hE k1 k2
                        have HFc := hide hfc
                        have HK3 := hide k3
                        obtain ⟨G, hGd⟩ : ∃ G : Nat → List UInt8, ∀ j, F i ++ hdrT (i + 1) f ++ cat (refT f.refs) j = G j := ⟨_, fun _ => rfl⟩
                        obtain ⟨C, hCd⟩ : ∃ C : Nat → List UInt8, ∀ j, F i ++ lineT (fncP (i + 1) f) ++ cat (codeT f) j = C j := ⟨_, fun _ => rfl⟩
                        have hCe : C f.code.length = F (i + 1) := by rw [← hCd, ← unhide HF, List.append_assoc]; rfl
                        have hCl : ∀ j, j ≤ f.code.length → (C j).length ≤ 2000000000000 := fun j hj => by
                          have h1 := cat_le (codeT f) hj
                          rw [← hCe, ← hCd] at hFl1
                          rw [← hCd]
                          simp only [List.length_append] at hFl1 ⊢
                          omega
                        have hC0 : G f.refs.length ++ ((resB f.result).data.toList ++ [10]) = C 0 := by rw [← hGd, ← hCd, fncP_text]; simp [cat, refsT]
                        have HGl : Hid (∀ j, j ≤ f.refs.length → (G j).length ≤ 2000000000000) := hide (fun j hj => by
                          have h1 := cat_le (refT f.refs) hj
                          have h2 := hCl 0 (Nat.zero_le _)
                          rw [← hC0, ← hGd] at h2
                          rw [← hGd]
                          simp only [List.length_append] at h2 ⊢
                          omega)
                        have HGs : Hid (∀ j (h : j < f.refs.length), G j ++ [if f.refs[j] then 114 else 110] = G (j + 1)) := hide (fun j h => by rw [← hGd, ← hGd, cat_succ, refT_at h, List.append_assoc])
                        have HCs : Hid (∀ j (h : j < f.code.length), C j ++ lineT (insF j f.code[j]) = C (j + 1)) := hide (fun j h => by rw [← hCd, ← hCd, cat_succ, codeT_at h, List.append_assoc])
                        have HCe := hide hCe
                        have HCl := hide hCl
                        have HC1 := hide hC0
                        have hG0 : F i ++ hdrT (i + 1) f = G 0 := by rw [← hGd]; simp [cat]
                        rw [hG0] at HX1
                        clear hGd hCd hCe hCl hC0 hG0 hfc k3 hNm HF hFl1
                        have s1 : ¬ 9223372036854775807 < 5 + D.size := by omega
                        have s2 : ¬ 9223372036854775807 < 5 + D.size + 1 := by omega
                        have s3 : ¬ 9223372036854775807 < 5 + D.size + 1 + 1 := by omega
                        have s4 : ¬ 9223372036854775807 < 5 + D.size + 1 + 1 + 8 := by omega
                        have s5 : ¬ 9223372036854775807 < 5 + D.size + 1 + 1 + 8 + P.size := by omega
                        have s6 : ¬ 9223372036854775807 < 5 + D.size + 1 + 1 + 8 + P.size + 10 := by omega
                        have s7 : ¬ 9223372036854775807 < 5 + D.size + 1 + 1 + 8 + P.size + 10 + E.size := by omega
                        have s8 : ¬ 9223372036854775807 < 5 + D.size + 1 + 1 + 8 + P.size + 10 + E.size + 11 := by omega
                        have s9 : ¬ 9223372036854775807 < X.size + (5 + D.size + 1 + 1 + 8 + P.size + 10 + E.size + 11) := by omega
                        have HGc : Hid (w1.grownBy (wr.alloc (.cells #[.string f.name, .slice aa f.refs.length ca, .int .i64 f.params, .int .i64 f.captures, .bool f.result, .slice ab f.code.length cb] 31)).drew none) := hide (by
                          have h := (unhide hG).trans (World.grownBy_alloc wr (.cells #[.string f.name, .slice aa f.refs.length ca, .int .i64 f.params, .int .i64 f.captures, .bool f.result, .slice ab f.code.length cb] 31) none)
                          exact ⟨h.os, h.tape, h.output, h.size, h.block⟩)
                        have hcc : ∀ k v, (#[.string f.name, .slice aa f.refs.length ca, .int .i64 f.params, .int .i64 f.captures, .bool f.result, .slice ab f.code.length cb] : Array Value)[k]? = some v → (wr.alloc (.cells #[.string f.name, .slice aa f.refs.length ca, .int .i64 f.params, .int .i64 f.captures, .bool f.result, .slice ab f.code.length cb] 31)).drew.cell? ⟨wr.heap.size, k, none⟩ = some v := fun k v h => by
                          show (wr.alloc _).cell? _ = _
                          rw [World.cell?_alloc_at _ _ _ _ rfl]; exact h
                        have c1 := hcc 1 _ rfl
                        have c2 := hcc 2 _ rfl
                        have c3 := hcc 3 _ rfl
                        have c4 := hcc 4 _ rfl
                        have c5 := hcc 5 _ rfl
                        clear hcc hG
                        go_wp2
                        go_region_held2 (fun w' => w'.cell? ⟨wr.heap.size, 2, none⟩ = some (.int .i64 f.params) ∧ w'.cell? ⟨wr.heap.size, 3, none⟩ = some (.int .i64 f.captures)) (first | exact ⟨c2, c3⟩ | go_keep) (first | (go_at_call 6; (with_reducible refine ((unhide H1) _).mono ?_); rintro e w2 ⟨rfl, hg⟩; (have c1 := grown_cell hg c1); (have c2 := grown_cell hg c2); (have c3 := grown_cell hg c3); (have c4 := grown_cell hg c4); (have c5 := grown_cell hg c5); (have HGc := hide ((unhide HGc).trans hg)); clear hg) | (go_at_call 6; (with_reducible refine ((unhide H2) _).mono ?_); rintro e w2 ⟨rfl, hg⟩; (have c1 := grown_cell hg c1); (have c2 := grown_cell hg c2); (have c3 := grown_cell hg c3); (have c4 := grown_cell hg c4); (have c5 := grown_cell hg c5); (have HGc := hide ((unhide HGc).trans hg)); clear hg) | (go_at_call 6; (with_reducible refine ((unhide H3) _).mono ?_); rintro e w2 ⟨rfl, hg⟩; (have c1 := grown_cell hg c1); (have c2 := grown_cell hg c2); (have c3 := grown_cell hg c3); (have c4 := grown_cell hg c4); (have c5 := grown_cell hg c5); (have HGc := hide ((unhide HGc).trans hg)); clear hg))
                        clear s1 s2 s3 s4 s5 s6 s7 s8 s9 c2 c3
                        obtain ⟨H, hH⟩ : ∃ H, wr.heap.size = H := ⟨_, rfl⟩
                        rw [hH] at c1 c4 c5
                        go_wp2
                        rw [hH]
                        go_loopw [10, 135] (fun v t wr => ∃ (j : Nat) (Z : ByteArray), j ≤ f.refs.length ∧ v = .string Z ∧ t = .int .i64 j ∧ Hid (Tx (G j) Z) ∧ Hid (w1.grownBy wr none) ∧ Hid (w2.grownBy wr none)) (fun _ t _ => f.refs.length - (intOf t).toNat)
                        case atStart => exact ⟨0, _, Nat.zero_le _, rfl, rfl, HX1, HGc, hide (World.grownBy.refl _ _)⟩
                        case round =>
                          clear HX1 c1
                          obtain ⟨j, Z, hj, rfl, rfl, hZ, hGd, hG2⟩ := hrel
                          have hZs : Z.size ≤ 2000000000000 := by rw [(unhide hZ).size]; exact (unhide HGl) j hj
                          by_cases hjl : j < f.refs.length
                          · obtain ⟨b, off, cs, e1, _, hc, hcell⟩ := row_get flagG (unhide HRa) ((unhide hBl) _ (unhide hGd)) hjl
                            obtain rfl := hc
                            have hc0 : wr.cell? ⟨b, off + j, none⟩ = some (.bool f.refs[j]) := by have := hcell 0 _ rfl; simpa using this
                            have HGj := hide ((unhide HGs) j hjl)
                            subst e1
                            clear hcell
                            generalize f.refs[j] = r at *
                            cases r with
                            | true =>
                              have HZ2 : Hid (Tx (G (j + 1)) (Z ++ ⟨#[114]⟩)) := hide ((unhide hZ).app (m := [114]) rfl (unhide HGj))
                              clear hZ HGj
                              go_wp2
                              go_roundw
                              case rel => exact ⟨j + 1, _, by omega, rfl, by simp, HZ2, hGd, hG2⟩
                              case measure => simp [intOf]; omega
                            | false =>
                              have HZ2 : Hid (Tx (G (j + 1)) (Z ++ ⟨#[110]⟩)) := hide ((unhide hZ).app (m := [110]) rfl (unhide HGj))
                              clear hZ HGj
                              go_wp2
                              go_roundw
                              case rel => exact ⟨j + 1, _, by omega, rfl, by simp, HZ2, hGd, hG2⟩
                              case measure => simp [intOf]; omega
                          · obtain rfl : j = f.refs.length := by omega
                            have d4 := grown_cell (unhide hG2) c4
                            have d5 := grown_cell (unhide hG2) c5
                            clear c4 c5
                            cases hres : f.result with
                            | true =>
                              rw [hres] at d4 HC1
                              have hY3 : Hid (Tx (C 0) (Z ++ ⟨#[32, 114, 101, 115, 117, 108, 116]⟩ ++ ⟨#[10]⟩)) := hide (((unhide hZ).app (m := [32, 114, 101, 115, 117, 108, 116]) (y := ⟨#[32, 114, 101, 115, 117, 108, 116]⟩) (l' := G f.refs.length ++ [32, 114, 101, 115, 117, 108, 116]) rfl rfl).app (m := [10]) (y := ⟨#[10]⟩) rfl (by rw [← unhide HC1, List.append_assoc]; rfl))
                              have HGd := hide (unhide hGd)
                              have c5 := d5
                              clear hZ
                              go_wp2
                              go_loopw [10, 154] (fun v t wr => ∃ (j : Nat) (Z : ByteArray), j ≤ f.code.length ∧ v = .string Z ∧ t = .int .i64 j ∧ Hid (Tx (C j) Z) ∧ Hid (w1.grownBy wr none)) (fun _ t _ => f.code.length - (intOf t).toNat)
                              case atStart => exact ⟨0, _, Nat.zero_le _, rfl, rfl, hY3, HGd⟩
                              case round =>
                                clear hY3 HGd c5
                                obtain ⟨j, Z, hj, rfl, rfl, hZ, hG4⟩ := hrel
                                have hZs : Z.size ≤ 2000000000000 := by rw [(unhide hZ).size]; exact (unhide HCl) j hj
                                by_cases hjl : j < f.code.length
                                · obtain ⟨b, off, cs, e1, _, hc, hcell⟩ := row_get insG (unhide HRb) ((unhide hBl) _ (unhide hG4)) hjl
                                  have HIy := hide hc
                                  obtain ⟨_, ad, cd, rfl, hr⟩ := hc
                                  have hd0 : wr.cell? ⟨b, off + j * 6, none⟩ = some (.int .i64 f.code[j].op) := by have := hcell 0 _ rfl; simpa using this
                                  have hd1 : wr.cell? ⟨b, off + j * 6 + 1, none⟩ = some (.int .i64 f.code[j].a) := by have := hcell 1 _ rfl; simpa using this
                                  have hd2 : wr.cell? ⟨b, off + j * 6 + 2, none⟩ = some (.int .i64 f.code[j].b) := by have := hcell 2 _ rfl; simpa using this
                                  have hd3 : wr.cell? ⟨b, off + j * 6 + 3, none⟩ = some (.int .i64 f.code[j].c) := by have := hcell 3 _ rfl; simpa using this
                                  have hd4 : wr.cell? ⟨b, off + j * 6 + 4, none⟩ = some (.int .i64 f.code[j].d) := by have := hcell 4 _ rfl; simpa using this
                                  have hd5 : wr.cell? ⟨b, off + j * 6 + 5, none⟩ = some (.slice ad f.code[j].list.length cd) := by have := hcell 5 _ rfl; simpa using this
                                  have HCj := hide ((unhide HCs) j hjl)
                                  have hyl := (unhide HFc) _ (List.getElem_mem hjl)
                                  have hyk := (unhide HK3) _ (List.getElem_mem hjl)
                                  have hsz : w.heap.size ≤ wr.heap.size := ((unhide HG1).trans (unhide hG4)).size
                                  subst e1
                                  clear hcell hr
                                  generalize f.code[j] = y at *
                                  obtain ⟨V, hV1, hV2, hV3⟩ := instr_D j (okN_nat (by omega)) y hyk hyl
                                  have HCy : Hid (Calls Tryd.prog 8 #[.int .i64 j, .agg #[.int .i64 y.op, .int .i64 y.a, .int .i64 y.b, .int .i64 y.c, .int .i64 y.d, .slice ad y.list.length cd]] (wr.alloc (.cells #[.int .i64 y.op, .int .i64 y.a, .int .i64 y.b, .int .i64 y.c, .int .i64 y.d, .slice ad y.list.length cd] 34)) fun e w' => DP V _ e w') :=
                                    hide (hV3 _ _ (insG.mono (fun k hk => by show k < _; rw [World.size_alloc]; omega) (insG.same (fun k hk => Below.heap_alloc _ _ _ (by omega)) (unhide HIy))))
                                  have HZ2 : Hid (Tx (C (j + 1)) (Z ++ V)) := hide ((unhide hZ).app hV1 (unhide HCj))
                                  clear hyk hV1 hV3 hZ HCj
                                  go_wp2_with (go_at_call 8; refine (unhide HCy).mono ?_)
                                  rintro e w2 ⟨rfl, hg2⟩
                                  have HG2 := hide (((unhide hG4).trans (World.grownBy_alloc wr _ none)).trans hg2)
                                  clear hg2 HCy hG4
                                  go_wp2
                                  go_roundw
                                  case rel => exact ⟨j + 1, _, by omega, rfl, by simp, HZ2, HG2⟩
                                  case measure => simp [intOf]; omega
                                · obtain rfl : j = f.code.length := by omega
                                  rw [unhide HCe] at hZ
                                  have hZ2 := hide (unhide hZ)
                                  go_wp2
                                  go_roundw
                                  case rel => exact ⟨i + 1, _, by omega, rfl, by simp, hZ, hG4⟩
                                  case measure => simp [intOf]; omega
                            | false =>
                              rw [hres] at d4 HC1
                              have hY3 : Hid (Tx (C 0) (Z ++ ⟨#[10]⟩)) := hide ((unhide hZ).app (m := [10]) (y := ⟨#[10]⟩) rfl (by rw [← unhide HC1]; rfl))
                              have HGd := hide (unhide hGd)
                              have c5 := d5
                              clear hZ
                              go_wp2
                              go_loopw [10, 154] (fun v t wr => ∃ (j : Nat) (Z : ByteArray), j ≤ f.code.length ∧ v = .string Z ∧ t = .int .i64 j ∧ Hid (Tx (C j) Z) ∧ Hid (w1.grownBy wr none)) (fun _ t _ => f.code.length - (intOf t).toNat)
                              case atStart => exact ⟨0, _, Nat.zero_le _, rfl, rfl, hY3, HGd⟩
                              case round =>
                                clear hY3 HGd c5
                                obtain ⟨j, Z, hj, rfl, rfl, hZ, hG4⟩ := hrel
                                have hZs : Z.size ≤ 2000000000000 := by rw [(unhide hZ).size]; exact (unhide HCl) j hj
                                by_cases hjl : j < f.code.length
                                · obtain ⟨b, off, cs, e1, _, hc, hcell⟩ := row_get insG (unhide HRb) ((unhide hBl) _ (unhide hG4)) hjl
                                  have HIy := hide hc
                                  obtain ⟨_, ad, cd, rfl, hr⟩ := hc
                                  have hd0 : wr.cell? ⟨b, off + j * 6, none⟩ = some (.int .i64 f.code[j].op) := by have := hcell 0 _ rfl; simpa using this
                                  have hd1 : wr.cell? ⟨b, off + j * 6 + 1, none⟩ = some (.int .i64 f.code[j].a) := by have := hcell 1 _ rfl; simpa using this
                                  have hd2 : wr.cell? ⟨b, off + j * 6 + 2, none⟩ = some (.int .i64 f.code[j].b) := by have := hcell 2 _ rfl; simpa using this
                                  have hd3 : wr.cell? ⟨b, off + j * 6 + 3, none⟩ = some (.int .i64 f.code[j].c) := by have := hcell 3 _ rfl; simpa using this
                                  have hd4 : wr.cell? ⟨b, off + j * 6 + 4, none⟩ = some (.int .i64 f.code[j].d) := by have := hcell 4 _ rfl; simpa using this
                                  have hd5 : wr.cell? ⟨b, off + j * 6 + 5, none⟩ = some (.slice ad f.code[j].list.length cd) := by have := hcell 5 _ rfl; simpa using this
                                  have HCj := hide ((unhide HCs) j hjl)
                                  have hyl := (unhide HFc) _ (List.getElem_mem hjl)
                                  have hyk := (unhide HK3) _ (List.getElem_mem hjl)
                                  have hsz : w.heap.size ≤ wr.heap.size := ((unhide HG1).trans (unhide hG4)).size
                                  subst e1
                                  clear hcell hr
                                  generalize f.code[j] = y at *
                                  obtain ⟨V, hV1, hV2, hV3⟩ := instr_D j (okN_nat (by omega)) y hyk hyl
                                  have HCy : Hid (Calls Tryd.prog 8 #[.int .i64 j, .agg #[.int .i64 y.op, .int .i64 y.a, .int .i64 y.b, .int .i64 y.c, .int .i64 y.d, .slice ad y.list.length cd]] (wr.alloc (.cells #[.int .i64 y.op, .int .i64 y.a, .int .i64 y.b, .int .i64 y.c, .int .i64 y.d, .slice ad y.list.length cd] 34)) fun e w' => DP V _ e w') :=
                                    hide (hV3 _ _ (insG.mono (fun k hk => by show k < _; rw [World.size_alloc]; omega) (insG.same (fun k hk => Below.heap_alloc _ _ _ (by omega)) (unhide HIy))))
                                  have HZ2 : Hid (Tx (C (j + 1)) (Z ++ V)) := hide ((unhide hZ).app hV1 (unhide HCj))
                                  clear hyk hV1 hV3 hZ HCj
                                  go_wp2_with (go_at_call 8; refine (unhide HCy).mono ?_)
                                  rintro e w2 ⟨rfl, hg2⟩
                                  have HG2 := hide (((unhide hG4).trans (World.grownBy_alloc wr _ none)).trans hg2)
                                  clear hg2 HCy hG4
                                  go_wp2
                                  go_roundw
                                  case rel => exact ⟨j + 1, _, by omega, rfl, by simp, HZ2, HG2⟩
                                  case measure => simp [intOf]; omega
                                · obtain rfl : j = f.code.length := by omega
                                  rw [unhide HCe] at hZ
                                  have hZ2 := hide (unhide hZ)
                                  go_wp2
                                  go_roundw
                                  case rel => exact ⟨i + 1, _, by omega, rfl, by simp, hZ, hG4⟩
                                  case measure => simp [intOf]; omega
                      | false =>
                        have hNm : nameB f.name = f.name := name_n hq
                        obtain ⟨D, hD, hDs, HD0⟩ := digits_D ((i : Int) + 1) (by unfold okN; omega)
                        obtain ⟨P, hP, hPs, HP0⟩ := digits_D f.params k1
                        obtain ⟨E, hE, hEs, HE0⟩ := digits_D f.captures k2
                        have HX1 : Hid (Tx (F i ++ hdrT (i + 1) f) (X ++ (⟨#[102, 117, 110, 99, 32]⟩ ++ D ++ ⟨#[32]⟩ ++ f.name ++ ⟨#[32, 112, 97, 114, 97, 109, 115, 32]⟩ ++ P ++ ⟨#[32, 99, 97, 112, 116, 117, 114, 101, 115, 32]⟩ ++ E ++ ⟨#[32, 114, 101, 103, 105, 115, 116, 101, 114, 115, 32]⟩))) := hide ((unhide hX).app (((((((((Tx.mk [102, 117, 110, 99, 32]).app hD rfl).app (Tx.mk [32]) rfl).app (m := f.name.data.toList) rfl rfl).app (Tx.mk [32, 112, 97, 114, 97, 109, 115, 32]) rfl).app hP rfl).app (Tx.mk [32, 99, 97, 112, 116, 117, 114, 101, 115, 32]) rfl).app hE rfl).app (Tx.mk [32, 114, 101, 103, 105, 115, 116, 101, 114, 115, 32]) rfl) (by unfold hdrT; rw [hNm]; rfl))
                        have H1 : Hid (∀ W, Calls Tryd.prog 6 #[.int .i64 (IntKind.i64.wrap ((i : Int) + 1))] W fun e w' => DP D W e w') := hide (fun W => by rw [IntWalk.i64_in _ (by omega)]; exact HD0 W)
                        have H2 := hide HP0
                        have H3 := hide HE0
                        clear HD0 HP0 HE0 hX hD hP hE k1 k2
                        have HFc := hide hfc
                        have HK3 := hide k3
                        obtain ⟨G, hGd⟩ : ∃ G : Nat → List UInt8, ∀ j, F i ++ hdrT (i + 1) f ++ cat (refT f.refs) j = G j := ⟨_, fun _ => rfl⟩
                        obtain ⟨C, hCd⟩ : ∃ C : Nat → List UInt8, ∀ j, F i ++ lineT (fncP (i + 1) f) ++ cat (codeT f) j = C j := ⟨_, fun _ => rfl⟩
                        have hCe : C f.code.length = F (i + 1) := by rw [← hCd, ← unhide HF, List.append_assoc]; rfl
                        have hCl : ∀ j, j ≤ f.code.length → (C j).length ≤ 2000000000000 := fun j hj => by
                          have h1 := cat_le (codeT f) hj
                          rw [← hCe, ← hCd] at hFl1
                          rw [← hCd]
                          simp only [List.length_append] at hFl1 ⊢
                          omega
                        have hC0 : G f.refs.length ++ ((resB f.result).data.toList ++ [10]) = C 0 := by rw [← hGd, ← hCd, fncP_text]; simp [cat, refsT]
                        have HGl : Hid (∀ j, j ≤ f.refs.length → (G j).length ≤ 2000000000000) := hide (fun j hj => by
                          have h1 := cat_le (refT f.refs) hj
                          have h2 := hCl 0 (Nat.zero_le _)
                          rw [← hC0, ← hGd] at h2
                          rw [← hGd]
                          simp only [List.length_append] at h2 ⊢
                          omega)
                        have HGs : Hid (∀ j (h : j < f.refs.length), G j ++ [if f.refs[j] then 114 else 110] = G (j + 1)) := hide (fun j h => by rw [← hGd, ← hGd, cat_succ, refT_at h, List.append_assoc])
                        have HCs : Hid (∀ j (h : j < f.code.length), C j ++ lineT (insF j f.code[j]) = C (j + 1)) := hide (fun j h => by rw [← hCd, ← hCd, cat_succ, codeT_at h, List.append_assoc])
                        have HCe := hide hCe
                        have HCl := hide hCl
                        have HC1 := hide hC0
                        have hG0 : F i ++ hdrT (i + 1) f = G 0 := by rw [← hGd]; simp [cat]
                        rw [hG0] at HX1
                        clear hGd hCd hCe hCl hC0 hG0 hfc k3 hNm HF hFl1
                        have s1 : ¬ 9223372036854775807 < 5 + D.size := by omega
                        have s2 : ¬ 9223372036854775807 < 5 + D.size + 1 := by omega
                        have s3 : ¬ 9223372036854775807 < 5 + D.size + 1 + f.name.size := by omega
                        have s4 : ¬ 9223372036854775807 < 5 + D.size + 1 + f.name.size + 8 := by omega
                        have s5 : ¬ 9223372036854775807 < 5 + D.size + 1 + f.name.size + 8 + P.size := by omega
                        have s6 : ¬ 9223372036854775807 < 5 + D.size + 1 + f.name.size + 8 + P.size + 10 := by omega
                        have s7 : ¬ 9223372036854775807 < 5 + D.size + 1 + f.name.size + 8 + P.size + 10 + E.size := by omega
                        have s8 : ¬ 9223372036854775807 < 5 + D.size + 1 + f.name.size + 8 + P.size + 10 + E.size + 11 := by omega
                        have s9 : ¬ 9223372036854775807 < X.size + (5 + D.size + 1 + f.name.size + 8 + P.size + 10 + E.size + 11) := by omega
                        have HGc : Hid (w1.grownBy (wr.alloc (.cells #[.string f.name, .slice aa f.refs.length ca, .int .i64 f.params, .int .i64 f.captures, .bool f.result, .slice ab f.code.length cb] 31)).drew none) := hide (by
                          have h := (unhide hG).trans (World.grownBy_alloc wr (.cells #[.string f.name, .slice aa f.refs.length ca, .int .i64 f.params, .int .i64 f.captures, .bool f.result, .slice ab f.code.length cb] 31) none)
                          exact ⟨h.os, h.tape, h.output, h.size, h.block⟩)
                        have hcc : ∀ k v, (#[.string f.name, .slice aa f.refs.length ca, .int .i64 f.params, .int .i64 f.captures, .bool f.result, .slice ab f.code.length cb] : Array Value)[k]? = some v → (wr.alloc (.cells #[.string f.name, .slice aa f.refs.length ca, .int .i64 f.params, .int .i64 f.captures, .bool f.result, .slice ab f.code.length cb] 31)).drew.cell? ⟨wr.heap.size, k, none⟩ = some v := fun k v h => by
                          show (wr.alloc _).cell? _ = _
                          rw [World.cell?_alloc_at _ _ _ _ rfl]; exact h
                        have c1 := hcc 1 _ rfl
                        have c2 := hcc 2 _ rfl
                        have c3 := hcc 3 _ rfl
                        have c4 := hcc 4 _ rfl
                        have c5 := hcc 5 _ rfl
                        clear hcc hG
                        go_wp2
                        go_region_held2 (fun w' => w'.cell? ⟨wr.heap.size, 2, none⟩ = some (.int .i64 f.params) ∧ w'.cell? ⟨wr.heap.size, 3, none⟩ = some (.int .i64 f.captures)) (first | exact ⟨c2, c3⟩ | go_keep) (first | (go_at_call 6; (with_reducible refine ((unhide H1) _).mono ?_); rintro e w2 ⟨rfl, hg⟩; (have c1 := grown_cell hg c1); (have c2 := grown_cell hg c2); (have c3 := grown_cell hg c3); (have c4 := grown_cell hg c4); (have c5 := grown_cell hg c5); (have HGc := hide ((unhide HGc).trans hg)); clear hg) | (go_at_call 6; (with_reducible refine ((unhide H2) _).mono ?_); rintro e w2 ⟨rfl, hg⟩; (have c1 := grown_cell hg c1); (have c2 := grown_cell hg c2); (have c3 := grown_cell hg c3); (have c4 := grown_cell hg c4); (have c5 := grown_cell hg c5); (have HGc := hide ((unhide HGc).trans hg)); clear hg) | (go_at_call 6; (with_reducible refine ((unhide H3) _).mono ?_); rintro e w2 ⟨rfl, hg⟩; (have c1 := grown_cell hg c1); (have c2 := grown_cell hg c2); (have c3 := grown_cell hg c3); (have c4 := grown_cell hg c4); (have c5 := grown_cell hg c5); (have HGc := hide ((unhide HGc).trans hg)); clear hg))
                        clear s1 s2 s3 s4 s5 s6 s7 s8 s9 c2 c3
                        obtain ⟨H, hH⟩ : ∃ H, wr.heap.size = H := ⟨_, rfl⟩
                        rw [hH] at c1 c4 c5
                        go_wp2
                        rw [hH]
                        go_loopw [10, 135] (fun v t wr => ∃ (j : Nat) (Z : ByteArray), j ≤ f.refs.length ∧ v = .string Z ∧ t = .int .i64 j ∧ Hid (Tx (G j) Z) ∧ Hid (w1.grownBy wr none) ∧ Hid (w2.grownBy wr none)) (fun _ t _ => f.refs.length - (intOf t).toNat)
                        case atStart => exact ⟨0, _, Nat.zero_le _, rfl, rfl, HX1, HGc, hide (World.grownBy.refl _ _)⟩
                        case round =>
                          clear HX1 c1
                          obtain ⟨j, Z, hj, rfl, rfl, hZ, hGd, hG2⟩ := hrel
                          have hZs : Z.size ≤ 2000000000000 := by rw [(unhide hZ).size]; exact (unhide HGl) j hj
                          by_cases hjl : j < f.refs.length
                          · obtain ⟨b, off, cs, e1, _, hc, hcell⟩ := row_get flagG (unhide HRa) ((unhide hBl) _ (unhide hGd)) hjl
                            obtain rfl := hc
                            have hc0 : wr.cell? ⟨b, off + j, none⟩ = some (.bool f.refs[j]) := by have := hcell 0 _ rfl; simpa using this
                            have HGj := hide ((unhide HGs) j hjl)
                            subst e1
                            clear hcell
                            generalize f.refs[j] = r at *
                            cases r with
                            | true =>
                              have HZ2 : Hid (Tx (G (j + 1)) (Z ++ ⟨#[114]⟩)) := hide ((unhide hZ).app (m := [114]) rfl (unhide HGj))
                              clear hZ HGj
                              go_wp2
                              go_roundw
                              case rel => exact ⟨j + 1, _, by omega, rfl, by simp, HZ2, hGd, hG2⟩
                              case measure => simp [intOf]; omega
                            | false =>
                              have HZ2 : Hid (Tx (G (j + 1)) (Z ++ ⟨#[110]⟩)) := hide ((unhide hZ).app (m := [110]) rfl (unhide HGj))
                              clear hZ HGj
                              go_wp2
                              go_roundw
                              case rel => exact ⟨j + 1, _, by omega, rfl, by simp, HZ2, hGd, hG2⟩
                              case measure => simp [intOf]; omega
                          · obtain rfl : j = f.refs.length := by omega
                            have d4 := grown_cell (unhide hG2) c4
                            have d5 := grown_cell (unhide hG2) c5
                            clear c4 c5
                            cases hres : f.result with
                            | true =>
                              rw [hres] at d4 HC1
                              have hY3 : Hid (Tx (C 0) (Z ++ ⟨#[32, 114, 101, 115, 117, 108, 116]⟩ ++ ⟨#[10]⟩)) := hide (((unhide hZ).app (m := [32, 114, 101, 115, 117, 108, 116]) (y := ⟨#[32, 114, 101, 115, 117, 108, 116]⟩) (l' := G f.refs.length ++ [32, 114, 101, 115, 117, 108, 116]) rfl rfl).app (m := [10]) (y := ⟨#[10]⟩) rfl (by rw [← unhide HC1, List.append_assoc]; rfl))
                              have HGd := hide (unhide hGd)
                              have c5 := d5
                              clear hZ
                              go_wp2
                              go_loopw [10, 154] (fun v t wr => ∃ (j : Nat) (Z : ByteArray), j ≤ f.code.length ∧ v = .string Z ∧ t = .int .i64 j ∧ Hid (Tx (C j) Z) ∧ Hid (w1.grownBy wr none)) (fun _ t _ => f.code.length - (intOf t).toNat)
                              case atStart => exact ⟨0, _, Nat.zero_le _, rfl, rfl, hY3, HGd⟩
                              case round =>
                                clear hY3 HGd c5
                                obtain ⟨j, Z, hj, rfl, rfl, hZ, hG4⟩ := hrel
                                have hZs : Z.size ≤ 2000000000000 := by rw [(unhide hZ).size]; exact (unhide HCl) j hj
                                by_cases hjl : j < f.code.length
                                · obtain ⟨b, off, cs, e1, _, hc, hcell⟩ := row_get insG (unhide HRb) ((unhide hBl) _ (unhide hG4)) hjl
                                  have HIy := hide hc
                                  obtain ⟨_, ad, cd, rfl, hr⟩ := hc
                                  have hd0 : wr.cell? ⟨b, off + j * 6, none⟩ = some (.int .i64 f.code[j].op) := by have := hcell 0 _ rfl; simpa using this
                                  have hd1 : wr.cell? ⟨b, off + j * 6 + 1, none⟩ = some (.int .i64 f.code[j].a) := by have := hcell 1 _ rfl; simpa using this
                                  have hd2 : wr.cell? ⟨b, off + j * 6 + 2, none⟩ = some (.int .i64 f.code[j].b) := by have := hcell 2 _ rfl; simpa using this
                                  have hd3 : wr.cell? ⟨b, off + j * 6 + 3, none⟩ = some (.int .i64 f.code[j].c) := by have := hcell 3 _ rfl; simpa using this
                                  have hd4 : wr.cell? ⟨b, off + j * 6 + 4, none⟩ = some (.int .i64 f.code[j].d) := by have := hcell 4 _ rfl; simpa using this
                                  have hd5 : wr.cell? ⟨b, off + j * 6 + 5, none⟩ = some (.slice ad f.code[j].list.length cd) := by have := hcell 5 _ rfl; simpa using this
                                  have HCj := hide ((unhide HCs) j hjl)
                                  have hyl := (unhide HFc) _ (List.getElem_mem hjl)
                                  have hyk := (unhide HK3) _ (List.getElem_mem hjl)
                                  have hsz : w.heap.size ≤ wr.heap.size := ((unhide HG1).trans (unhide hG4)).size
                                  subst e1
                                  clear hcell hr
                                  generalize f.code[j] = y at *
                                  obtain ⟨V, hV1, hV2, hV3⟩ := instr_D j (okN_nat (by omega)) y hyk hyl
                                  have HCy : Hid (Calls Tryd.prog 8 #[.int .i64 j, .agg #[.int .i64 y.op, .int .i64 y.a, .int .i64 y.b, .int .i64 y.c, .int .i64 y.d, .slice ad y.list.length cd]] (wr.alloc (.cells #[.int .i64 y.op, .int .i64 y.a, .int .i64 y.b, .int .i64 y.c, .int .i64 y.d, .slice ad y.list.length cd] 34)) fun e w' => DP V _ e w') :=
                                    hide (hV3 _ _ (insG.mono (fun k hk => by show k < _; rw [World.size_alloc]; omega) (insG.same (fun k hk => Below.heap_alloc _ _ _ (by omega)) (unhide HIy))))
                                  have HZ2 : Hid (Tx (C (j + 1)) (Z ++ V)) := hide ((unhide hZ).app hV1 (unhide HCj))
                                  clear hyk hV1 hV3 hZ HCj
                                  go_wp2_with (go_at_call 8; refine (unhide HCy).mono ?_)
                                  rintro e w2 ⟨rfl, hg2⟩
                                  have HG2 := hide (((unhide hG4).trans (World.grownBy_alloc wr _ none)).trans hg2)
                                  clear hg2 HCy hG4
                                  go_wp2
                                  go_roundw
                                  case rel => exact ⟨j + 1, _, by omega, rfl, by simp, HZ2, HG2⟩
                                  case measure => simp [intOf]; omega
                                · obtain rfl : j = f.code.length := by omega
                                  rw [unhide HCe] at hZ
                                  have hZ2 := hide (unhide hZ)
                                  go_wp2
                                  go_roundw
                                  case rel => exact ⟨i + 1, _, by omega, rfl, by simp, hZ, hG4⟩
                                  case measure => simp [intOf]; omega
                            | false =>
                              rw [hres] at d4 HC1
                              have hY3 : Hid (Tx (C 0) (Z ++ ⟨#[10]⟩)) := hide ((unhide hZ).app (m := [10]) (y := ⟨#[10]⟩) rfl (by rw [← unhide HC1]; rfl))
                              have HGd := hide (unhide hGd)
                              have c5 := d5
                              clear hZ
                              go_wp2
                              go_loopw [10, 154] (fun v t wr => ∃ (j : Nat) (Z : ByteArray), j ≤ f.code.length ∧ v = .string Z ∧ t = .int .i64 j ∧ Hid (Tx (C j) Z) ∧ Hid (w1.grownBy wr none)) (fun _ t _ => f.code.length - (intOf t).toNat)
                              case atStart => exact ⟨0, _, Nat.zero_le _, rfl, rfl, hY3, HGd⟩
                              case round =>
                                clear hY3 HGd c5
                                obtain ⟨j, Z, hj, rfl, rfl, hZ, hG4⟩ := hrel
                                have hZs : Z.size ≤ 2000000000000 := by rw [(unhide hZ).size]; exact (unhide HCl) j hj
                                by_cases hjl : j < f.code.length
                                · obtain ⟨b, off, cs, e1, _, hc, hcell⟩ := row_get insG (unhide HRb) ((unhide hBl) _ (unhide hG4)) hjl
                                  have HIy := hide hc
                                  obtain ⟨_, ad, cd, rfl, hr⟩ := hc
                                  have hd0 : wr.cell? ⟨b, off + j * 6, none⟩ = some (.int .i64 f.code[j].op) := by have := hcell 0 _ rfl; simpa using this
                                  have hd1 : wr.cell? ⟨b, off + j * 6 + 1, none⟩ = some (.int .i64 f.code[j].a) := by have := hcell 1 _ rfl; simpa using this
                                  have hd2 : wr.cell? ⟨b, off + j * 6 + 2, none⟩ = some (.int .i64 f.code[j].b) := by have := hcell 2 _ rfl; simpa using this
                                  have hd3 : wr.cell? ⟨b, off + j * 6 + 3, none⟩ = some (.int .i64 f.code[j].c) := by have := hcell 3 _ rfl; simpa using this
                                  have hd4 : wr.cell? ⟨b, off + j * 6 + 4, none⟩ = some (.int .i64 f.code[j].d) := by have := hcell 4 _ rfl; simpa using this
                                  have hd5 : wr.cell? ⟨b, off + j * 6 + 5, none⟩ = some (.slice ad f.code[j].list.length cd) := by have := hcell 5 _ rfl; simpa using this
                                  have HCj := hide ((unhide HCs) j hjl)
                                  have hyl := (unhide HFc) _ (List.getElem_mem hjl)
                                  have hyk := (unhide HK3) _ (List.getElem_mem hjl)
                                  have hsz : w.heap.size ≤ wr.heap.size := ((unhide HG1).trans (unhide hG4)).size
                                  subst e1
                                  clear hcell hr
                                  generalize f.code[j] = y at *
                                  obtain ⟨V, hV1, hV2, hV3⟩ := instr_D j (okN_nat (by omega)) y hyk hyl
                                  have HCy : Hid (Calls Tryd.prog 8 #[.int .i64 j, .agg #[.int .i64 y.op, .int .i64 y.a, .int .i64 y.b, .int .i64 y.c, .int .i64 y.d, .slice ad y.list.length cd]] (wr.alloc (.cells #[.int .i64 y.op, .int .i64 y.a, .int .i64 y.b, .int .i64 y.c, .int .i64 y.d, .slice ad y.list.length cd] 34)) fun e w' => DP V _ e w') :=
                                    hide (hV3 _ _ (insG.mono (fun k hk => by show k < _; rw [World.size_alloc]; omega) (insG.same (fun k hk => Below.heap_alloc _ _ _ (by omega)) (unhide HIy))))
                                  have HZ2 : Hid (Tx (C (j + 1)) (Z ++ V)) := hide ((unhide hZ).app hV1 (unhide HCj))
                                  clear hyk hV1 hV3 hZ HCj
                                  go_wp2_with (go_at_call 8; refine (unhide HCy).mono ?_)
                                  rintro e w2 ⟨rfl, hg2⟩
                                  have HG2 := hide (((unhide hG4).trans (World.grownBy_alloc wr _ none)).trans hg2)
                                  clear hg2 HCy hG4
                                  go_wp2
                                  go_roundw
                                  case rel => exact ⟨j + 1, _, by omega, rfl, by simp, HZ2, HG2⟩
                                  case measure => simp [intOf]; omega
                                · obtain rfl : j = f.code.length := by omega
                                  rw [unhide HCe] at hZ
                                  have hZ2 := hide (unhide hZ)
                                  go_wp2
                                  go_roundw
                                  case rel => exact ⟨i + 1, _, by omega, rfl, by simp, hZ, hG4⟩
                                  case measure => simp [intOf]; omega
                    · obtain rfl : i = x.funcs.length := by omega
                      have hGd : Hid (w1.grownBy wr.drew none) := hide (by have h := unhide hG; exact ⟨h.os, h.tape, h.output, h.size, h.block⟩)
                      have e0 := grown_cell (unhide hGd) ((unhide HD) 0 _ rfl)
                      have e1 := grown_cell (unhide hGd) ((unhide HD) 1 _ rfl)
                      have e2 := grown_cell (unhide hGd) ((unhide HD) 2 _ rfl)
                      have e3 := grown_cell (unhide hGd) ((unhide HD) 3 _ rfl)
                      have e4 := grown_cell (unhide hGd) ((unhide HD) 4 _ rfl)
                      have HGw : Hid (w.grownBy wr.drew none) := hide ((unhide HG1).trans (unhide hGd))
                      have hBw : Below w.heap.size w wr.drew := below_grown (Below.refl _ _) (unhide HGw)
                      obtain ⟨PT, hPT⟩ : ∃ PT : ByteArray, ⟨(printT x).toArray⟩ = PT := ⟨_, rfl⟩
                      have HPr : Hid (Calls Tryd.prog 9 #[.agg #[.slice a1 x.texts.length c1, .slice a2 x.globals.length c2, .slice a3 x.structs.length c3, .slice a4 x.funcs.length c4, .int .i64 x.main]] wr.drew fun e w' => DP PT wr.drew e w') := hide (by
                        refine (Print_any w x _ wr.drew (hV.env hBw) hV.nm (prgG.mono (fun k hk => by have := (unhide HGw).size; show k < _; omega) (prgG.same (fun k hk => hBw.block k hk) (unhide HCp))) (by have := unhide HLe; have h2 : lim = 140737488355328 := rfl; omega) (fun s hs => by
                          obtain ⟨j, hj, rfl⟩ := List.getElem_of_mem hs
                          have := (unhide HTx) j hj
                          omega)).mono ?_
                        rintro e w' ⟨rfl, hg⟩
                        exact ⟨by rw [← hPT], hg⟩)
                      obtain ⟨D, hD, hDs, HD0⟩ := digits_D x.main (unhide HO)
                      have H1 := hide HD0
                      have heq : X ++ ⟨#[109, 97, 105, 110, 32]⟩ ++ D ++ ⟨#[10]⟩ = PT := by
                        have h : Tx (printT x) (X ++ ⟨#[109, 97, 105, 110, 32]⟩ ++ D ++ ⟨#[10]⟩) := (((unhide hX).app (Tx.mk [109, 97, 105, 110, 32]) rfl).app hD rfl).app (Tx.mk [10]) (by rw [← unhide HEnd, mainP_text]; simp)
                        rw [h.eq, hPT]
                      have s1 : ¬ 9223372036854775807 < X.size + 5 := by omega
                      have s2 : ¬ 9223372036854775807 < X.size + 5 + D.size := by omega
                      have s3 : ¬ 9223372036854775807 < X.size + 5 + D.size + 1 := by omega
                      clear HD0 hD hPT hBw hX HCp hG hGd
                      go_wp2
                      go_region_held2 (fun w' => w'.cell? ⟨w.heap.size, 0, none⟩ = some (.slice a1 x.texts.length c1) ∧ w'.cell? ⟨w.heap.size, 1, none⟩ = some (.slice a2 x.globals.length c2) ∧ w'.cell? ⟨w.heap.size, 2, none⟩ = some (.slice a3 x.structs.length c3) ∧ w'.cell? ⟨w.heap.size, 3, none⟩ = some (.slice a4 x.funcs.length c4) ∧ w'.cell? ⟨w.heap.size, 4, none⟩ = some (.int .i64 x.main)) (first | exact ⟨e0, e1, e2, e3, e4⟩ | go_keep) (first | (go_at_call 9; (with_reducible refine (unhide HPr).mono ?_); rintro e w2 ⟨rfl, hg⟩; (have e0 := grown_cell hg e0); (have e1 := grown_cell hg e1); (have e2 := grown_cell hg e2); (have e3 := grown_cell hg e3); (have e4 := grown_cell hg e4); (have HGw := hide ((unhide HGw).trans hg)); clear hg) | (go_at_call 6; (with_reducible refine ((unhide H1) _).mono ?_); rintro e w2 ⟨rfl, hg⟩; (have e0 := grown_cell hg e0); (have e1 := grown_cell hg e1); (have e2 := grown_cell hg e2); (have e3 := grown_cell hg e3); (have e4 := grown_cell hg e4); (have HGw := hide ((unhide HGw).trans hg)); clear hg))
                      have HE : Hid (Below w.heap.size w w2) := hide (below_grown (Below.refl _ _) (unhide HGw))
                      clear s1 s2 s3
                      go_wp2
                      go_ret
                      exact ⟨rfl, unhide HE⟩
            · have hfin' : (3000 : Int) < (m : Int) := by omega
              have HE : Hid (Below w.heap.size w wr) := hide (below_grown (Below.refl _ _) ((unhide HG1).trans (unhide hG)))
              go_wp2
              go_ret
              exact ⟨rfl, unhide HE⟩
  · have hbig' : (2000 : Int) < (x.texts.length : Int) + x.funcs.length := by omega
    have HE : Hid (Below w.heap.size w w1) := hide (below_grown (Below.refl _ _) (unhide HG1))
    go_wp2
    go_ret
    exact ⟨rfl, unhide HE⟩
end Go.Proofs.YtipnefogflpkhaaDoor
