/- The law's own instr. -/
import Derived.Test.YtipnefogflpkhaaDoorAj0
set_option linter.unusedVariables false
set_option linter.unusedSimpArgs false
namespace Go.Proofs.YtipnefogflpkhaaDoor
open Go.RowKit
def DP (D : ByteArray) (w : World) (e : Ending) (w' : World) : Prop := e = .returned (.string D) ∧ w.grownBy w' none
theorem digits_D (z : Int) (hz : okN z) : ∃ D : ByteArray, Tx (itoaT z) D ∧ D.size ≤ 21 ∧ ∀ W, Calls Tryd.prog 6 #[.int .i64 z] W fun e w' => DP D W e w' := by
  refine ⟨⟨(itoaT z).toArray⟩, rfl, ?_, fun W => digits_any z hz W⟩
  have h := itoaT_le hz
  show (itoaT z).toArray.size ≤ 21
  rw [List.size_toArray]
  exact h
/-- The blocks that an instruction's text is made from. -/
structure IB (H q : Nat) (x : Ins) (al : Option Addr) (cap : Nat) (w : World) : Prop where
  a : w.cell? ⟨H, 1, none⟩ = some (.int .i64 x.a)
  b : w.cell? ⟨H, 2, none⟩ = some (.int .i64 x.b)
  c : w.cell? ⟨H, 3, none⟩ = some (.int .i64 x.c)
  d : w.cell? ⟨H, 4, none⟩ = some (.int .i64 x.d)
  l : w.cell? ⟨H, 5, none⟩ = some (.slice al x.list.length cap)
  n : w.cell? ⟨H + 1, q, none⟩ = some (.string (nm q))
  u : w.cell? ⟨H + 1 + 1, q, none⟩ = some (.string (us q))
theorem IB.grown {H q : Nat} {x : Ins} {al : Option Addr} {cap : Nat} {w w' : World} (h : IB H q x al cap w) (hg : w.grownBy w' none) : IB H q x al cap w' :=
  ⟨grown_cell hg h.a, grown_cell hg h.b, grown_cell hg h.c, grown_cell hg h.d, grown_cell hg h.l, grown_cell hg h.n, grown_cell hg h.u⟩
/-- Where a text is under way: what was there is there, and the blocks. -/
structure IP (w : World) (q : Nat) (x : Ins) (al : Option Addr) (cap : Nat) (w1 : World) : Prop where
  ib : IB w.heap.size q x al cap w1
  g : w.grownBy w1 none
theorem IP.grown {w : World} {q : Nat} {x : Ins} {al : Option Addr} {cap : Nat} {w1 w2 : World} (h : IP w q x al cap w1) (hg : w1.grownBy w2 none) : IP w q x al cap w2 := ⟨h.ib.grown hg, h.g.trans hg⟩
theorem IP.drew {w : World} {q : Nat} {x : Ins} {al : Option Addr} {cap : Nat} {w1 : World} (h : IP w q x al cap w1) : IP w q x al cap w1.drew := ⟨⟨h.ib.a, h.ib.b, h.ib.c, h.ib.d, h.ib.l, h.ib.n, h.ib.u⟩, ⟨h.g.os, h.g.tape, h.g.output, h.g.size, h.g.block⟩⟩
def TQ (w : World) (q : Nat) (o : Int) (x : Ins) (al : Option Addr) (cap : Nat) (e : Ending) (w' : World) : Prop := e = .returned (.tuple #[.slice (some ⟨w.heap.size + 1, 0, none⟩) 57 57, .slice (some ⟨w.heap.size + 1 + 1, 0, none⟩) 57 57]) ∧ IP w q x al cap w' ∧ w'.cell? ⟨w.heap.size, 0, none⟩ = some (.int .i64 o)
theorem table_ip (w : World) (q : Nat) (hq : q < 57) (o : Int) (x : Ins) (al : Option Addr) (cap : Nat) :
    Calls Tryd.prog 10 #[] (w.alloc (.cells #[.int .i64 o, .int .i64 x.a, .int .i64 x.b, .int .i64 x.c, .int .i64 x.d, .slice al x.list.length cap] 34)) fun e w' => TQ w q o x al cap e w' := by
  refine (table_any _).mono ?_
  rintro e w1 ⟨he, hg, hn, hu⟩
  have es : (w.alloc (.cells #[.int .i64 o, .int .i64 x.a, .int .i64 x.b, .int .i64 x.c, .int .i64 x.d, .slice al x.list.length cap] 34)).heap.size = w.heap.size + 1 := by simp
  rw [es] at he hn hu
  have hc : ∀ i v, #[Value.int .i64 o, .int .i64 x.a, .int .i64 x.b, .int .i64 x.c, .int .i64 x.d, .slice al x.list.length cap][i]? = some v → w1.cell? ⟨w.heap.size, i, none⟩ = some v := fun i v h => grown_cell hg (by rw [World.cell?_alloc_at _ _ _ _ rfl]; exact h)
  exact ⟨he, ⟨⟨hc 1 _ rfl, hc 2 _ rfl, hc 3 _ rfl, hc 4 _ rfl, hc 5 _ rfl, hn q hq, hu q hq⟩, (World.grownBy_alloc w _ none).trans hg⟩, hc 0 _ rfl⟩
def bodyT (x : Ins) (q j : Nat) : List UInt8 := ((usL.getD q []).take j).flatMap fun c => 32 :: partT (usedP x c)
theorem bodyT_next (x : Ins) (q j : Nat) (h : j < (us q).size) : bodyT x q (j + 1) = bodyT x q j ++ (32 :: partT (usedP x (us q)[j])) := by
  have h' : j < (usL.getD q []).length := h
  unfold bodyT
  rw [List.take_succ_eq_append_getElem h', List.flatMap_append]
  simp only [List.flatMap_cons, List.flatMap_nil, List.append_nil]
  rfl
theorem insF_text (k : Nat) (x : Ins) : lineT (insF k x) = [9] ++ itoaT k ++ [32] ++ (nm (nrm x.op)).data.toList ++ bodyT x (nrm x.op) (us (nrm x.op)).size ++ [10] := by
  have e : ∀ l : List UInt8, (l.flatMap fun c => [Part.s ⟨#[32]⟩, usedP x c]).flatMap partT = l.flatMap fun c => 32 :: partT (usedP x c) := by
    intro l
    induction l with
    | nil => rfl
    | cons a l ih => 
      rw [List.flatMap_cons, List.flatMap_append, ih, List.flatMap_cons]
      simp [partT]
  unfold lineT insF insP bodyT
  rw [List.flatMap_append, e]
  simp [partT]
theorem nm_small (q : Nat) : (nm q).size ≤ 9 := by
  rcases Nat.lt_or_ge q 57 with h | h
  · have : ∀ i, i < 57 → (nmL.getD i []).length ≤ 9 := by decide
    exact this q h
  · have : nmL.length = 57 := by rfl
    show (nmL.getD q []).length ≤ 9
    simp [List.getD_eq_getElem?_getD, List.getElem?_eq_none (show nmL.length ≤ q by omega)]
theorem part_small (x : Ins) (hlen : x.list.length ≤ 3000) (ho : okN x.op ∧ okN x.a ∧ okN x.b ∧ okN x.c ∧ okN x.d) (hl : ∀ z ∈ x.list, okN z) (c : UInt8) : (partT (usedP x c)).length ≤ 66002 := by
  have hn : (numsT x.list).length ≤ 66002 := by
    have := cat_bound (numT x.list) (B := 22) (n := x.list.length) (fun i hi => by
      rw [numT_at hi, List.length_append]
      have h1 := itoaT_le (hl _ (List.getElem_mem hi))
      split <;> simp <;> omega)
    simp [numsT]
    omega
  have h1 := itoaT_le ho.2.1
  have h2 := itoaT_le ho.2.2.1
  have h3 := itoaT_le ho.2.2.2.1
  have h4 := itoaT_le ho.2.2.2.2
  unfold usedP
  split
  · simp only [partT]; omega
  · split
    · simp only [partT]; omega
    · split
      · simp only [partT]; omega
      · split
        · simp only [partT]; omega
        · simp only [partT]; omega
theorem body_small (x : Ins) (hlen : x.list.length ≤ 3000) (ho : okN x.op ∧ okN x.a ∧ okN x.b ∧ okN x.c ∧ okN x.d) (hl : ∀ z ∈ x.list, okN z) (q j : Nat) : (bodyT x q j).length ≤ 264012 := by
  have h0 : ∀ l : List UInt8, (l.flatMap fun c => 32 :: partT (usedP x c)).length ≤ 66003 * l.length := by
    intro l
    induction l with
    | nil => simp
    | cons a l ih =>
      have := part_small x hlen ho hl a
      rw [List.flatMap_cons, List.length_append, List.length_cons, List.length_cons]
      omega
  have h1 := h0 ((usL.getD q []).take j)
  have h2 : ((usL.getD q []).take j).length ≤ 4 := by
    have := us_small q
    rw [us_size] at this
    rw [List.length_take]
    omega
  have h3 : (bodyT x q j).length ≤ 66003 * ((usL.getD q []).take j).length := h1
  omega
set_option maxRecDepth 100000 in
set_option maxHeartbeats 4000000 in
theorem instr_r1 (k : Nat) (hk : okN k) (x : Ins) (cs : List Value) (w : World) (hI : insC (· < w.heap.size) w x cs) (hlen : x.list.length ≤ 3000) (h1 : 1 ≤ x.op) (h2 : x.op ≤ 56) : Calls Tryd.prog 8 #[.int .i64 k, .agg cs.toArray] w fun e w' => PrP (lineT (insF k x)) w e w' := by
  obtain ⟨ho, al, cap, rfl, hr⟩ := hI
  have hll := row_all (P := okN) hr (fun z cs hz => hz.1)
  obtain ⟨D, hD, hd, HC0⟩ := digits_D k hk
  have HC := hide HC0
  obtain ⟨q, hq⟩ : ∃ q : Nat, x.op = q := ⟨x.op.toNat, by omega⟩
  have hqn : nrm x.op = q := by unfold nrm; rw [if_pos ⟨h1, h2⟩, hq]; rfl
  have hq57 : (q : Int) < 57 := by omega
  obtain ⟨N, hN⟩ : ∃ N, nm q = N := ⟨_, rfl⟩
  obtain ⟨u, hu⟩ : ∃ u, us q = u := ⟨_, rfl⟩
  have hnm : N.size ≤ 9 := by rw [← hN]; exact nm_small _
  have hus : u.size ≤ 4 := by rw [← hu]; exact us_small _
  obtain ⟨T, hT⟩ : ∃ T : Nat → List UInt8, ∀ j, [9] ++ itoaT k ++ [32] ++ N.data.toList ++ bodyT x q j = T j := ⟨_, fun _ => rfl⟩
  have HTs : Hid (∀ j (h : j < u.size), T j ++ (32 :: partT (usedP x u[j])) = T (j + 1)) := hide (by subst hu; intro j h; rw [← hT, ← hT, bodyT_next x q j h, List.append_assoc])
  have HL : Hid (∀ j (h : j < u.size), Let u[j]) := hide (by subst hu; intro j h; exact letters_ok _ _ (by rw [us_at]; exact List.getElem_mem _))
  have HTl : Hid (∀ j, (T j).length ≤ 300000) := hide (fun j => by
    have h1 := body_small x hlen ho hll q j
    have h2 := itoaT_le hk
    have h3 : N.data.toList.length = N.size := Array.length_toList
    rw [← hT]
    simp only [List.length_append, List.length_cons, List.length_nil]
    omega)
  have HEnd : Hid (T u.size ++ [10] = lineT (insF k x)) := hide (by rw [insF_text, hqn, hN, hu, ← hT])
  have HX0 : Hid (Tx (T 0) (⟨#[9]⟩ ++ D ++ ⟨#[32]⟩ ++ N)) := hide ((((Tx.mk [9]).app hD rfl).app (Tx.mk [32]) rfl).app (m := N.data.toList) rfl (by rw [← hT]; simp [bodyT]))
  have HO := hide ho
  have HR := hide hr
  have HLs := hide hll
  have HT0 := hide (table_ip w q (by omega) q x al cap)
  rw [hq]
  have g1 : ¬ (q : Int) < 1 := by omega
  have g2 : ¬ (56 : Int) < (q : Int) := by omega
  have hs1 : ¬ 9223372036854775807 < 1 + D.size := by omega
  have hs2 : ¬ 9223372036854775807 < 1 + D.size + 1 := by omega
  have hs3 : ¬ 9223372036854775807 < 1 + D.size + 1 + N.size := by omega
  clear HC0 hr ho hD hT hll hk hqn
  go_enter Tryd.func8, Tryd.ntmps8
  go_wp2_with (go_at_call 10; refine (unhide HT0).mono ?_)
  rintro e w1 ⟨rfl, HP, c0⟩
  go_wp2
  have hn := HP.ib.n
  rw [hN] at hn
  clear c0 HT0
  go_region_held2 (fun w' => w'.cell? ⟨w.heap.size + 1, q, none⟩ = some (.string N)) (go_keep) (first | (go_at_call 6; (with_reducible refine ((unhide HC) _).mono ?_); rintro e w2 ⟨rfl, hg⟩; (have HP2 := HP.drew.grown hg); (have hn2 := HP2.ib.n); (rw [hN] at hn2)))
  have hu2 := HP2.ib.u
  rw [hu] at hu2
  clear hg HP hn hn2 HC hs1 hs2 hs3
  go_wp2
  go_loopw [8, 38] (fun t i wr => ∃ (j : Nat) (X : ByteArray), j ≤ u.size ∧ i = .int .i64 j ∧ t = .string X ∧ Hid (Tx (T j) X) ∧ IP w q x al cap wr) (fun _ i _ => u.size - (intOf i).toNat)
  case atStart => exact ⟨0, _, Nat.zero_le _, rfl, rfl, HX0, HP2⟩
  case round =>
    clear HX0 HP2 hu2
    obtain ⟨j, X, hj, rfl, rfl, hX, HP2⟩ := hrel
    have hXs : X.size ≤ 300000 := by rw [(unhide hX).size]; exact (unhide HTl) j
    by_cases hlt : j < u.size
    · have hji : (j : Int) < (u.size : Int) := by omega
      have HT := hide ((unhide HTs) j hlt)
      have hlet := (unhide HL) j hlt
      have hu2 := HP2.ib.u
      rw [hu] at hu2
      have hub : u.size ≤ 4 := hus
      generalize hch : u[j] = ch at *
      rcases hlet with rfl | rfl | rfl | rfl | rfl
      · have hz := (unhide HO).2.1
        obtain ⟨Z, hZ, hZs, HZ0⟩ := digits_D x.a hz
        have HC2 := hide (HZ0 wr)
        have HX2 : Hid (Tx (T (j + 1)) (X ++ (⟨#[32]⟩ ++ Z))) := hide ((unhide hX).app ((Tx.mk [32]).app hZ rfl) (unhide HT))
        have hc := HP2.ib.a
        clear hz hZ HZ0 hX HT
        go_wp2_with (go_at_call 6; refine (unhide HC2).mono ?_)
        rintro e w3 ⟨rfl, hg⟩
        have HP3 := HP2.grown hg
        clear hg HC2 hc HP2
        go_wp2
        go_roundw
        case rel => exact ⟨j + 1, _, by omega, by simp, rfl, HX2, HP3⟩
        case measure => simp [intOf]; omega
      · have hz := (unhide HO).2.2.1
        obtain ⟨Z, hZ, hZs, HZ0⟩ := digits_D x.b hz
        have HC2 := hide (HZ0 wr)
        have HX2 : Hid (Tx (T (j + 1)) (X ++ (⟨#[32]⟩ ++ Z))) := hide ((unhide hX).app ((Tx.mk [32]).app hZ rfl) (unhide HT))
        have hc := HP2.ib.b
        clear hz hZ HZ0 hX HT
        go_wp2_with (go_at_call 6; refine (unhide HC2).mono ?_)
        rintro e w3 ⟨rfl, hg⟩
        have HP3 := HP2.grown hg
        clear hg HC2 hc HP2
        go_wp2
        go_roundw
        case rel => exact ⟨j + 1, _, by omega, by simp, rfl, HX2, HP3⟩
        case measure => simp [intOf]; omega
      · have hz := (unhide HO).2.2.2.1
        obtain ⟨Z, hZ, hZs, HZ0⟩ := digits_D x.c hz
        have HC2 := hide (HZ0 wr)
        have HX2 : Hid (Tx (T (j + 1)) (X ++ (⟨#[32]⟩ ++ Z))) := hide ((unhide hX).app ((Tx.mk [32]).app hZ rfl) (unhide HT))
        have hc := HP2.ib.c
        clear hz hZ HZ0 hX HT
        go_wp2_with (go_at_call 6; refine (unhide HC2).mono ?_)
        rintro e w3 ⟨rfl, hg⟩
        have HP3 := HP2.grown hg
        clear hg HC2 hc HP2
        go_wp2
        go_roundw
        case rel => exact ⟨j + 1, _, by omega, by simp, rfl, HX2, HP3⟩
        case measure => simp [intOf]; omega
      · have hz := (unhide HO).2.2.2.2
        obtain ⟨Z, hZ, hZs, HZ0⟩ := digits_D x.d hz
        have HC2 := hide (HZ0 wr)
        have HX2 : Hid (Tx (T (j + 1)) (X ++ (⟨#[32]⟩ ++ Z))) := hide ((unhide hX).app ((Tx.mk [32]).app hZ rfl) (unhide HT))
        have hc := HP2.ib.d
        clear hz hZ HZ0 hX HT
        go_wp2_with (go_at_call 6; refine (unhide HC2).mono ?_)
        rintro e w3 ⟨rfl, hg⟩
        have HP3 := HP2.grown hg
        clear hg HC2 hc HP2
        go_wp2
        go_roundw
        case rel => exact ⟨j + 1, _, by omega, by simp, rfl, HX2, HP3⟩
        case measure => simp [intOf]; omega
      · have hc := HP2.ib.l
        obtain ⟨L, hL⟩ : ∃ L : Nat → List UInt8, ∀ i, T j ++ [32, 91] ++ cat (numT x.list) i = L i := ⟨_, fun _ => rfl⟩
        have hLe : L x.list.length ++ [93] = T (j + 1) := by rw [← hL, ← unhide HT]; simp [usedP, partT, numsT]
        have HLl : Hid (∀ i, i ≤ x.list.length → (L i).length ≤ 300000) := hide (fun i hi => by
          have h1 := cat_le (numT x.list) hi
          have h2 := (unhide HTl) (j + 1)
          rw [← hLe, ← hL] at h2
          rw [← hL]
          simp only [List.length_append] at h2 ⊢
          omega)
        have HLn : Hid (∀ i (h : i < x.list.length), L i ++ ((if 0 < i then [32] else []) ++ itoaT x.list[i]) = L (i + 1)) := hide (fun i h => by rw [← hL, ← hL, cat_succ, numT_at h, List.append_assoc])
        have HX2 : Hid (Tx (L 0) (X ++ ⟨#[32, 91]⟩)) := hide ((unhide hX).app (m := [32, 91]) rfl (by rw [← hL]; simp [cat]))
        have HLe := hide hLe
        clear hL hLe hX HT
        go_wp2
        go_loopw [8, 52] (fun t i wr => ∃ (p : Nat) (Y : ByteArray), p ≤ x.list.length ∧ i = .int .i64 p ∧ t = .string Y ∧ Hid (Tx (L p) Y) ∧ IP w q x al cap wr) (fun _ i _ => x.list.length - (intOf i).toNat)
        case atStart => exact ⟨0, _, Nat.zero_le _, rfl, rfl, HX2, HP2⟩
        case round =>
          clear HX2 HP2 hc hu2
          obtain ⟨p, Y, hp, rfl, rfl, hY, HP2⟩ := hrel
          have hYs : Y.size ≤ 300000 := by rw [(unhide hY).size]; exact (unhide HLl) p hp
          by_cases hpl : p < x.list.length
          · obtain ⟨rb, off, cs, e1, hS, hc, hcell⟩ := row_get numG (unhide HR) (fun k hk => HP2.g.block k hk (by simp)) hpl
            obtain ⟨hz, rfl⟩ := hc
            have hc0 : wr.cell? ⟨rb, off + p, none⟩ = some (.int .i64 x.list[p]) := by have := hcell 0 _ rfl; simpa using this
            have HN := hide ((unhide HLn) p hpl)
            obtain ⟨Z, hZ, hZs, HZ0⟩ := digits_D x.list[p] hz
            have HC2 := hide HZ0
            subst e1
            clear hcell hz HZ0
            generalize x.list[p] = z at *
            by_cases h0 : 0 < p
            · have h0' : (0 : Int) < (p : Int) := by omega
              have HY2 : Hid (Tx (L (p + 1)) (Y ++ ⟨#[32]⟩ ++ Z)) := hide (((unhide hY).app (m := [32]) (y := ⟨#[32]⟩) rfl rfl).app hZ (by rw [← unhide HN, if_pos h0, List.append_assoc]))
              clear hZ hY HN
              go_wp2_with (go_at_call 6; refine ((unhide HC2) _).mono ?_)
              rintro e w3 ⟨rfl, hg⟩
              have HP3 := HP2.grown hg
              clear hg HC2 hc0 HP2
              go_wp2
              go_roundw
              case rel => exact ⟨p + 1, _, by omega, by simp, rfl, HY2, HP3⟩
              case measure => simp [intOf]; omega
            · have h0' : ¬ (0 : Int) < (p : Int) := by omega
              have HY2 : Hid (Tx (L (p + 1)) (Y ++ Z)) := hide ((unhide hY).app hZ (by rw [← unhide HN, if_neg h0, List.nil_append]))
              clear hZ hY HN
              go_wp2_with (go_at_call 6; refine ((unhide HC2) _).mono ?_)
              rintro e w3 ⟨rfl, hg⟩
              have HP3 := HP2.grown hg
              clear hg HC2 hc0 HP2
              go_wp2
              go_roundw
              case rel => exact ⟨p + 1, _, by omega, by simp, rfl, HY2, HP3⟩
              case measure => simp [intOf]; omega
          · obtain rfl : p = x.list.length := by omega
            have HY2 : Hid (Tx (T (j + 1)) (Y ++ ⟨#[93]⟩)) := hide ((unhide hY).app (m := [93]) (y := ⟨#[93]⟩) rfl (unhide HLe))
            clear hY
            go_wp2
            go_roundw
            case rel => exact ⟨j + 1, _, by omega, by simp, rfl, HY2, HP2⟩
            case measure => simp [intOf]; omega
    · have hji : ¬ (j : Int) < (u.size : Int) := by omega
      obtain rfl : j = u.size := by omega
      have HX2 : Hid (PrP (lineT (insF k x)) w (.returned (.string (X ++ ⟨#[10]⟩))) wr) := hide (((unhide hX).app (m := [10]) (y := ⟨#[10]⟩) rfl (unhide HEnd)).prp HP2.g)
      clear hX HP2
      go_wp2
      go_ret
      exact unhide HX2
set_option maxRecDepth 100000 in
set_option maxHeartbeats 4000000 in
theorem instr_r2 (k : Nat) (hk : okN k) (x : Ins) (cs : List Value) (w : World) (hI : insC (· < w.heap.size) w x cs) (hlen : x.list.length ≤ 3000) (h1 : x.op < 1) : Calls Tryd.prog 8 #[.int .i64 k, .agg cs.toArray] w fun e w' => PrP (lineT (insF k x)) w e w' := by
  obtain ⟨ho, al, cap, rfl, hr⟩ := hI
  have hll := row_all (P := okN) hr (fun z cs hz => hz.1)
  obtain ⟨D, hD, hd, HC0⟩ := digits_D k hk
  have HC := hide HC0
  have hqn : nrm x.op = 0 := by unfold nrm; rw [if_neg (by omega)]
  obtain ⟨N, hN⟩ : ∃ N, nm 0 = N := ⟨_, rfl⟩
  obtain ⟨u, hu⟩ : ∃ u, us 0 = u := ⟨_, rfl⟩
  have hnm : N.size ≤ 9 := by rw [← hN]; exact nm_small _
  have hus : u.size ≤ 4 := by rw [← hu]; exact us_small _
  obtain ⟨T, hT⟩ : ∃ T : Nat → List UInt8, ∀ j, [9] ++ itoaT k ++ [32] ++ N.data.toList ++ bodyT x 0 j = T j := ⟨_, fun _ => rfl⟩
  have HTs : Hid (∀ j (h : j < u.size), T j ++ (32 :: partT (usedP x u[j])) = T (j + 1)) := hide (by subst hu; intro j h; rw [← hT, ← hT, bodyT_next x 0 j h, List.append_assoc])
  have HL : Hid (∀ j (h : j < u.size), Let u[j]) := hide (by subst hu; intro j h; exact letters_ok _ _ (by rw [us_at]; exact List.getElem_mem _))
  have HTl : Hid (∀ j, (T j).length ≤ 300000) := hide (fun j => by
    have h1 := body_small x hlen ho hll 0 j
    have h2 := itoaT_le hk
    have h3 : N.data.toList.length = N.size := Array.length_toList
    rw [← hT]
    simp only [List.length_append, List.length_cons, List.length_nil]
    omega)
  have HEnd : Hid (T u.size ++ [10] = lineT (insF k x)) := hide (by rw [insF_text, hqn, hN, hu, ← hT])
  have HX0 : Hid (Tx (T 0) (⟨#[9]⟩ ++ D ++ ⟨#[32]⟩ ++ N)) := hide ((((Tx.mk [9]).app hD rfl).app (Tx.mk [32]) rfl).app (m := N.data.toList) rfl (by rw [← hT]; simp [bodyT]))
  have HO := hide ho
  have HR := hide hr
  have HLs := hide hll
  have HT0 := hide (table_ip w 0 (by omega) x.op x al cap)
  have hs1 : ¬ 9223372036854775807 < 1 + D.size := by omega
  have hs2 : ¬ 9223372036854775807 < 1 + D.size + 1 := by omega
  have hs3 : ¬ 9223372036854775807 < 1 + D.size + 1 + N.size := by omega
  clear HC0 hr ho hD hT hll hk hqn
  go_enter Tryd.func8, Tryd.ntmps8
  go_wp2_with (go_at_call 10; refine (unhide HT0).mono ?_)
  rintro e w1 ⟨rfl, HP, c0⟩
  go_wp2
  have hn := HP.ib.n
  rw [hN] at hn
  clear c0 HT0
  go_region_held2 (fun w' => w'.cell? ⟨w.heap.size + 1, 0, none⟩ = some (.string N)) (go_keep) (first | (go_at_call 6; (with_reducible refine ((unhide HC) _).mono ?_); rintro e w2 ⟨rfl, hg⟩; (have HP2 := HP.drew.grown hg); (have hn2 := HP2.ib.n); (rw [hN] at hn2)))
  have hu2 := HP2.ib.u
  rw [hu] at hu2
  clear hg HP hn hn2 HC hs1 hs2 hs3
  go_wp2
  go_loopw [8, 38] (fun t i wr => ∃ (j : Nat) (X : ByteArray), j ≤ u.size ∧ i = .int .i64 j ∧ t = .string X ∧ Hid (Tx (T j) X) ∧ IP w 0 x al cap wr) (fun _ i _ => u.size - (intOf i).toNat)
  case atStart => exact ⟨0, _, Nat.zero_le _, rfl, rfl, HX0, HP2⟩
  case round =>
    clear HX0 HP2 hu2
    obtain ⟨j, X, hj, rfl, rfl, hX, HP2⟩ := hrel
    have hXs : X.size ≤ 300000 := by rw [(unhide hX).size]; exact (unhide HTl) j
    by_cases hlt : j < u.size
    · have hji : (j : Int) < (u.size : Int) := by omega
      have HT := hide ((unhide HTs) j hlt)
      have hlet := (unhide HL) j hlt
      have hu2 := HP2.ib.u
      rw [hu] at hu2
      have hub : u.size ≤ 4 := hus
      generalize hch : u[j] = ch at *
      rcases hlet with rfl | rfl | rfl | rfl | rfl
      · have hz := (unhide HO).2.1
        obtain ⟨Z, hZ, hZs, HZ0⟩ := digits_D x.a hz
        have HC2 := hide (HZ0 wr)
        have HX2 : Hid (Tx (T (j + 1)) (X ++ (⟨#[32]⟩ ++ Z))) := hide ((unhide hX).app ((Tx.mk [32]).app hZ rfl) (unhide HT))
        have hc := HP2.ib.a
        clear hz hZ HZ0 hX HT
        go_wp2_with (go_at_call 6; refine (unhide HC2).mono ?_)
        rintro e w3 ⟨rfl, hg⟩
        have HP3 := HP2.grown hg
        clear hg HC2 hc HP2
        go_wp2
        go_roundw
        case rel => exact ⟨j + 1, _, by omega, by simp, rfl, HX2, HP3⟩
        case measure => simp [intOf]; omega
      · have hz := (unhide HO).2.2.1
        obtain ⟨Z, hZ, hZs, HZ0⟩ := digits_D x.b hz
        have HC2 := hide (HZ0 wr)
        have HX2 : Hid (Tx (T (j + 1)) (X ++ (⟨#[32]⟩ ++ Z))) := hide ((unhide hX).app ((Tx.mk [32]).app hZ rfl) (unhide HT))
        have hc := HP2.ib.b
        clear hz hZ HZ0 hX HT
        go_wp2_with (go_at_call 6; refine (unhide HC2).mono ?_)
        rintro e w3 ⟨rfl, hg⟩
        have HP3 := HP2.grown hg
        clear hg HC2 hc HP2
        go_wp2
        go_roundw
        case rel => exact ⟨j + 1, _, by omega, by simp, rfl, HX2, HP3⟩
        case measure => simp [intOf]; omega
      · have hz := (unhide HO).2.2.2.1
        obtain ⟨Z, hZ, hZs, HZ0⟩ := digits_D x.c hz
        have HC2 := hide (HZ0 wr)
        have HX2 : Hid (Tx (T (j + 1)) (X ++ (⟨#[32]⟩ ++ Z))) := hide ((unhide hX).app ((Tx.mk [32]).app hZ rfl) (unhide HT))
        have hc := HP2.ib.c
        clear hz hZ HZ0 hX HT
        go_wp2_with (go_at_call 6; refine (unhide HC2).mono ?_)
        rintro e w3 ⟨rfl, hg⟩
        have HP3 := HP2.grown hg
        clear hg HC2 hc HP2
        go_wp2
        go_roundw
        case rel => exact ⟨j + 1, _, by omega, by simp, rfl, HX2, HP3⟩
        case measure => simp [intOf]; omega
      · have hz := (unhide HO).2.2.2.2
        obtain ⟨Z, hZ, hZs, HZ0⟩ := digits_D x.d hz
        have HC2 := hide (HZ0 wr)
        have HX2 : Hid (Tx (T (j + 1)) (X ++ (⟨#[32]⟩ ++ Z))) := hide ((unhide hX).app ((Tx.mk [32]).app hZ rfl) (unhide HT))
        have hc := HP2.ib.d
        clear hz hZ HZ0 hX HT
        go_wp2_with (go_at_call 6; refine (unhide HC2).mono ?_)
        rintro e w3 ⟨rfl, hg⟩
        have HP3 := HP2.grown hg
        clear hg HC2 hc HP2
        go_wp2
        go_roundw
        case rel => exact ⟨j + 1, _, by omega, by simp, rfl, HX2, HP3⟩
        case measure => simp [intOf]; omega
      · have hc := HP2.ib.l
        obtain ⟨L, hL⟩ : ∃ L : Nat → List UInt8, ∀ i, T j ++ [32, 91] ++ cat (numT x.list) i = L i := ⟨_, fun _ => rfl⟩
        have hLe : L x.list.length ++ [93] = T (j + 1) := by rw [← hL, ← unhide HT]; simp [usedP, partT, numsT]
        have HLl : Hid (∀ i, i ≤ x.list.length → (L i).length ≤ 300000) := hide (fun i hi => by
          have h1 := cat_le (numT x.list) hi
          have h2 := (unhide HTl) (j + 1)
          rw [← hLe, ← hL] at h2
          rw [← hL]
          simp only [List.length_append] at h2 ⊢
          omega)
        have HLn : Hid (∀ i (h : i < x.list.length), L i ++ ((if 0 < i then [32] else []) ++ itoaT x.list[i]) = L (i + 1)) := hide (fun i h => by rw [← hL, ← hL, cat_succ, numT_at h, List.append_assoc])
        have HX2 : Hid (Tx (L 0) (X ++ ⟨#[32, 91]⟩)) := hide ((unhide hX).app (m := [32, 91]) rfl (by rw [← hL]; simp [cat]))
        have HLe := hide hLe
        clear hL hLe hX HT
        go_wp2
        go_loopw [8, 52] (fun t i wr => ∃ (p : Nat) (Y : ByteArray), p ≤ x.list.length ∧ i = .int .i64 p ∧ t = .string Y ∧ Hid (Tx (L p) Y) ∧ IP w 0 x al cap wr) (fun _ i _ => x.list.length - (intOf i).toNat)
        case atStart => exact ⟨0, _, Nat.zero_le _, rfl, rfl, HX2, HP2⟩
        case round =>
          clear HX2 HP2 hc hu2
          obtain ⟨p, Y, hp, rfl, rfl, hY, HP2⟩ := hrel
          have hYs : Y.size ≤ 300000 := by rw [(unhide hY).size]; exact (unhide HLl) p hp
          by_cases hpl : p < x.list.length
          · obtain ⟨rb, off, cs, e1, hS, hc, hcell⟩ := row_get numG (unhide HR) (fun k hk => HP2.g.block k hk (by simp)) hpl
            obtain ⟨hz, rfl⟩ := hc
            have hc0 : wr.cell? ⟨rb, off + p, none⟩ = some (.int .i64 x.list[p]) := by have := hcell 0 _ rfl; simpa using this
            have HN := hide ((unhide HLn) p hpl)
            obtain ⟨Z, hZ, hZs, HZ0⟩ := digits_D x.list[p] hz
            have HC2 := hide HZ0
            subst e1
            clear hcell hz HZ0
            generalize x.list[p] = z at *
            by_cases h0 : 0 < p
            · have h0' : (0 : Int) < (p : Int) := by omega
              have HY2 : Hid (Tx (L (p + 1)) (Y ++ ⟨#[32]⟩ ++ Z)) := hide (((unhide hY).app (m := [32]) (y := ⟨#[32]⟩) rfl rfl).app hZ (by rw [← unhide HN, if_pos h0, List.append_assoc]))
              clear hZ hY HN
              go_wp2_with (go_at_call 6; refine ((unhide HC2) _).mono ?_)
              rintro e w3 ⟨rfl, hg⟩
              have HP3 := HP2.grown hg
              clear hg HC2 hc0 HP2
              go_wp2
              go_roundw
              case rel => exact ⟨p + 1, _, by omega, by simp, rfl, HY2, HP3⟩
              case measure => simp [intOf]; omega
            · have h0' : ¬ (0 : Int) < (p : Int) := by omega
              have HY2 : Hid (Tx (L (p + 1)) (Y ++ Z)) := hide ((unhide hY).app hZ (by rw [← unhide HN, if_neg h0, List.nil_append]))
              clear hZ hY HN
              go_wp2_with (go_at_call 6; refine ((unhide HC2) _).mono ?_)
              rintro e w3 ⟨rfl, hg⟩
              have HP3 := HP2.grown hg
              clear hg HC2 hc0 HP2
              go_wp2
              go_roundw
              case rel => exact ⟨p + 1, _, by omega, by simp, rfl, HY2, HP3⟩
              case measure => simp [intOf]; omega
          · obtain rfl : p = x.list.length := by omega
            have HY2 : Hid (Tx (T (j + 1)) (Y ++ ⟨#[93]⟩)) := hide ((unhide hY).app (m := [93]) (y := ⟨#[93]⟩) rfl (unhide HLe))
            clear hY
            go_wp2
            go_roundw
            case rel => exact ⟨j + 1, _, by omega, by simp, rfl, HY2, HP2⟩
            case measure => simp [intOf]; omega
    · have hji : ¬ (j : Int) < (u.size : Int) := by omega
      obtain rfl : j = u.size := by omega
      have HX2 : Hid (PrP (lineT (insF k x)) w (.returned (.string (X ++ ⟨#[10]⟩))) wr) := hide (((unhide hX).app (m := [10]) (y := ⟨#[10]⟩) rfl (unhide HEnd)).prp HP2.g)
      clear hX HP2
      go_wp2
      go_ret
      exact unhide HX2
set_option maxRecDepth 100000 in
set_option maxHeartbeats 4000000 in
theorem instr_r3 (k : Nat) (hk : okN k) (x : Ins) (cs : List Value) (w : World) (hI : insC (· < w.heap.size) w x cs) (hlen : x.list.length ≤ 3000) (h1 : ¬ x.op < 1) (h2 : 56 < x.op) : Calls Tryd.prog 8 #[.int .i64 k, .agg cs.toArray] w fun e w' => PrP (lineT (insF k x)) w e w' := by
  obtain ⟨ho, al, cap, rfl, hr⟩ := hI
  have hll := row_all (P := okN) hr (fun z cs hz => hz.1)
  obtain ⟨D, hD, hd, HC0⟩ := digits_D k hk
  have HC := hide HC0
  have hqn : nrm x.op = 0 := by unfold nrm; rw [if_neg (by omega)]
  obtain ⟨N, hN⟩ : ∃ N, nm 0 = N := ⟨_, rfl⟩
  obtain ⟨u, hu⟩ : ∃ u, us 0 = u := ⟨_, rfl⟩
  have hnm : N.size ≤ 9 := by rw [← hN]; exact nm_small _
  have hus : u.size ≤ 4 := by rw [← hu]; exact us_small _
  obtain ⟨T, hT⟩ : ∃ T : Nat → List UInt8, ∀ j, [9] ++ itoaT k ++ [32] ++ N.data.toList ++ bodyT x 0 j = T j := ⟨_, fun _ => rfl⟩
  have HTs : Hid (∀ j (h : j < u.size), T j ++ (32 :: partT (usedP x u[j])) = T (j + 1)) := hide (by subst hu; intro j h; rw [← hT, ← hT, bodyT_next x 0 j h, List.append_assoc])
  have HL : Hid (∀ j (h : j < u.size), Let u[j]) := hide (by subst hu; intro j h; exact letters_ok _ _ (by rw [us_at]; exact List.getElem_mem _))
  have HTl : Hid (∀ j, (T j).length ≤ 300000) := hide (fun j => by
    have h1 := body_small x hlen ho hll 0 j
    have h2 := itoaT_le hk
    have h3 : N.data.toList.length = N.size := Array.length_toList
    rw [← hT]
    simp only [List.length_append, List.length_cons, List.length_nil]
    omega)
  have HEnd : Hid (T u.size ++ [10] = lineT (insF k x)) := hide (by rw [insF_text, hqn, hN, hu, ← hT])
  have HX0 : Hid (Tx (T 0) (⟨#[9]⟩ ++ D ++ ⟨#[32]⟩ ++ N)) := hide ((((Tx.mk [9]).app hD rfl).app (Tx.mk [32]) rfl).app (m := N.data.toList) rfl (by rw [← hT]; simp [bodyT]))
  have HO := hide ho
  have HR := hide hr
  have HLs := hide hll
  have HT0 := hide (table_ip w 0 (by omega) x.op x al cap)
  have hs1 : ¬ 9223372036854775807 < 1 + D.size := by omega
  have hs2 : ¬ 9223372036854775807 < 1 + D.size + 1 := by omega
  have hs3 : ¬ 9223372036854775807 < 1 + D.size + 1 + N.size := by omega
  clear HC0 hr ho hD hT hll hk hqn
  go_enter Tryd.func8, Tryd.ntmps8
  go_wp2_with (go_at_call 10; refine (unhide HT0).mono ?_)
  rintro e w1 ⟨rfl, HP, c0⟩
  go_wp2
  have hn := HP.ib.n
  rw [hN] at hn
  clear c0 HT0
  go_region_held2 (fun w' => w'.cell? ⟨w.heap.size + 1, 0, none⟩ = some (.string N)) (go_keep) (first | (go_at_call 6; (with_reducible refine ((unhide HC) _).mono ?_); rintro e w2 ⟨rfl, hg⟩; (have HP2 := HP.drew.grown hg); (have hn2 := HP2.ib.n); (rw [hN] at hn2)))
  have hu2 := HP2.ib.u
  rw [hu] at hu2
  clear hg HP hn hn2 HC hs1 hs2 hs3
  go_wp2
  go_loopw [8, 38] (fun t i wr => ∃ (j : Nat) (X : ByteArray), j ≤ u.size ∧ i = .int .i64 j ∧ t = .string X ∧ Hid (Tx (T j) X) ∧ IP w 0 x al cap wr) (fun _ i _ => u.size - (intOf i).toNat)
  case atStart => exact ⟨0, _, Nat.zero_le _, rfl, rfl, HX0, HP2⟩
  case round =>
    clear HX0 HP2 hu2
    obtain ⟨j, X, hj, rfl, rfl, hX, HP2⟩ := hrel
    have hXs : X.size ≤ 300000 := by rw [(unhide hX).size]; exact (unhide HTl) j
    by_cases hlt : j < u.size
    · have hji : (j : Int) < (u.size : Int) := by omega
      have HT := hide ((unhide HTs) j hlt)
      have hlet := (unhide HL) j hlt
      have hu2 := HP2.ib.u
      rw [hu] at hu2
      have hub : u.size ≤ 4 := hus
      generalize hch : u[j] = ch at *
      rcases hlet with rfl | rfl | rfl | rfl | rfl
      · have hz := (unhide HO).2.1
        obtain ⟨Z, hZ, hZs, HZ0⟩ := digits_D x.a hz
        have HC2 := hide (HZ0 wr)
        have HX2 : Hid (Tx (T (j + 1)) (X ++ (⟨#[32]⟩ ++ Z))) := hide ((unhide hX).app ((Tx.mk [32]).app hZ rfl) (unhide HT))
        have hc := HP2.ib.a
        clear hz hZ HZ0 hX HT
        go_wp2_with (go_at_call 6; refine (unhide HC2).mono ?_)
        rintro e w3 ⟨rfl, hg⟩
        have HP3 := HP2.grown hg
        clear hg HC2 hc HP2
        go_wp2
        go_roundw
        case rel => exact ⟨j + 1, _, by omega, by simp, rfl, HX2, HP3⟩
        case measure => simp [intOf]; omega
      · have hz := (unhide HO).2.2.1
        obtain ⟨Z, hZ, hZs, HZ0⟩ := digits_D x.b hz
        have HC2 := hide (HZ0 wr)
        have HX2 : Hid (Tx (T (j + 1)) (X ++ (⟨#[32]⟩ ++ Z))) := hide ((unhide hX).app ((Tx.mk [32]).app hZ rfl) (unhide HT))
        have hc := HP2.ib.b
        clear hz hZ HZ0 hX HT
        go_wp2_with (go_at_call 6; refine (unhide HC2).mono ?_)
        rintro e w3 ⟨rfl, hg⟩
        have HP3 := HP2.grown hg
        clear hg HC2 hc HP2
        go_wp2
        go_roundw
        case rel => exact ⟨j + 1, _, by omega, by simp, rfl, HX2, HP3⟩
        case measure => simp [intOf]; omega
      · have hz := (unhide HO).2.2.2.1
        obtain ⟨Z, hZ, hZs, HZ0⟩ := digits_D x.c hz
        have HC2 := hide (HZ0 wr)
        have HX2 : Hid (Tx (T (j + 1)) (X ++ (⟨#[32]⟩ ++ Z))) := hide ((unhide hX).app ((Tx.mk [32]).app hZ rfl) (unhide HT))
        have hc := HP2.ib.c
        clear hz hZ HZ0 hX HT
        go_wp2_with (go_at_call 6; refine (unhide HC2).mono ?_)
        rintro e w3 ⟨rfl, hg⟩
        have HP3 := HP2.grown hg
        clear hg HC2 hc HP2
        go_wp2
        go_roundw
        case rel => exact ⟨j + 1, _, by omega, by simp, rfl, HX2, HP3⟩
        case measure => simp [intOf]; omega
      · have hz := (unhide HO).2.2.2.2
        obtain ⟨Z, hZ, hZs, HZ0⟩ := digits_D x.d hz
        have HC2 := hide (HZ0 wr)
        have HX2 : Hid (Tx (T (j + 1)) (X ++ (⟨#[32]⟩ ++ Z))) := hide ((unhide hX).app ((Tx.mk [32]).app hZ rfl) (unhide HT))
        have hc := HP2.ib.d
        clear hz hZ HZ0 hX HT
        go_wp2_with (go_at_call 6; refine (unhide HC2).mono ?_)
        rintro e w3 ⟨rfl, hg⟩
        have HP3 := HP2.grown hg
        clear hg HC2 hc HP2
        go_wp2
        go_roundw
        case rel => exact ⟨j + 1, _, by omega, by simp, rfl, HX2, HP3⟩
        case measure => simp [intOf]; omega
      · have hc := HP2.ib.l
        obtain ⟨L, hL⟩ : ∃ L : Nat → List UInt8, ∀ i, T j ++ [32, 91] ++ cat (numT x.list) i = L i := ⟨_, fun _ => rfl⟩
        have hLe : L x.list.length ++ [93] = T (j + 1) := by rw [← hL, ← unhide HT]; simp [usedP, partT, numsT]
        have HLl : Hid (∀ i, i ≤ x.list.length → (L i).length ≤ 300000) := hide (fun i hi => by
          have h1 := cat_le (numT x.list) hi
          have h2 := (unhide HTl) (j + 1)
          rw [← hLe, ← hL] at h2
          rw [← hL]
          simp only [List.length_append] at h2 ⊢
          omega)
        have HLn : Hid (∀ i (h : i < x.list.length), L i ++ ((if 0 < i then [32] else []) ++ itoaT x.list[i]) = L (i + 1)) := hide (fun i h => by rw [← hL, ← hL, cat_succ, numT_at h, List.append_assoc])
        have HX2 : Hid (Tx (L 0) (X ++ ⟨#[32, 91]⟩)) := hide ((unhide hX).app (m := [32, 91]) rfl (by rw [← hL]; simp [cat]))
        have HLe := hide hLe
        clear hL hLe hX HT
        go_wp2
        go_loopw [8, 52] (fun t i wr => ∃ (p : Nat) (Y : ByteArray), p ≤ x.list.length ∧ i = .int .i64 p ∧ t = .string Y ∧ Hid (Tx (L p) Y) ∧ IP w 0 x al cap wr) (fun _ i _ => x.list.length - (intOf i).toNat)
        case atStart => exact ⟨0, _, Nat.zero_le _, rfl, rfl, HX2, HP2⟩
        case round =>
          clear HX2 HP2 hc hu2
          obtain ⟨p, Y, hp, rfl, rfl, hY, HP2⟩ := hrel
          have hYs : Y.size ≤ 300000 := by rw [(unhide hY).size]; exact (unhide HLl) p hp
          by_cases hpl : p < x.list.length
          · obtain ⟨rb, off, cs, e1, hS, hc, hcell⟩ := row_get numG (unhide HR) (fun k hk => HP2.g.block k hk (by simp)) hpl
            obtain ⟨hz, rfl⟩ := hc
            have hc0 : wr.cell? ⟨rb, off + p, none⟩ = some (.int .i64 x.list[p]) := by have := hcell 0 _ rfl; simpa using this
            have HN := hide ((unhide HLn) p hpl)
            obtain ⟨Z, hZ, hZs, HZ0⟩ := digits_D x.list[p] hz
            have HC2 := hide HZ0
            subst e1
            clear hcell hz HZ0
            generalize x.list[p] = z at *
            by_cases h0 : 0 < p
            · have h0' : (0 : Int) < (p : Int) := by omega
              have HY2 : Hid (Tx (L (p + 1)) (Y ++ ⟨#[32]⟩ ++ Z)) := hide (((unhide hY).app (m := [32]) (y := ⟨#[32]⟩) rfl rfl).app hZ (by rw [← unhide HN, if_pos h0, List.append_assoc]))
              clear hZ hY HN
              go_wp2_with (go_at_call 6; refine ((unhide HC2) _).mono ?_)
              rintro e w3 ⟨rfl, hg⟩
              have HP3 := HP2.grown hg
              clear hg HC2 hc0 HP2
              go_wp2
              go_roundw
              case rel => exact ⟨p + 1, _, by omega, by simp, rfl, HY2, HP3⟩
              case measure => simp [intOf]; omega
            · have h0' : ¬ (0 : Int) < (p : Int) := by omega
              have HY2 : Hid (Tx (L (p + 1)) (Y ++ Z)) := hide ((unhide hY).app hZ (by rw [← unhide HN, if_neg h0, List.nil_append]))
              clear hZ hY HN
              go_wp2_with (go_at_call 6; refine ((unhide HC2) _).mono ?_)
              rintro e w3 ⟨rfl, hg⟩
              have HP3 := HP2.grown hg
              clear hg HC2 hc0 HP2
              go_wp2
              go_roundw
              case rel => exact ⟨p + 1, _, by omega, by simp, rfl, HY2, HP3⟩
              case measure => simp [intOf]; omega
          · obtain rfl : p = x.list.length := by omega
            have HY2 : Hid (Tx (T (j + 1)) (Y ++ ⟨#[93]⟩)) := hide ((unhide hY).app (m := [93]) (y := ⟨#[93]⟩) rfl (unhide HLe))
            clear hY
            go_wp2
            go_roundw
            case rel => exact ⟨j + 1, _, by omega, by simp, rfl, HY2, HP2⟩
            case measure => simp [intOf]; omega
    · have hji : ¬ (j : Int) < (u.size : Int) := by omega
      obtain rfl : j = u.size := by omega
      have HX2 : Hid (PrP (lineT (insF k x)) w (.returned (.string (X ++ ⟨#[10]⟩))) wr) := hide (((unhide hX).app (m := [10]) (y := ⟨#[10]⟩) rfl (unhide HEnd)).prp HP2.g)
      clear hX HP2
      go_wp2
      go_ret
      exact unhide HX2
theorem instr_r (k : Nat) (hk : okN k) (x : Ins) (cs : List Value) (w : World) (hI : insC (· < w.heap.size) w x cs) (hlen : x.list.length ≤ 3000) : Calls Tryd.prog 8 #[.int .i64 k, .agg cs.toArray] w fun e w' => PrP (lineT (insF k x)) w e w' := by
  by_cases h1 : x.op < 1
  · exact instr_r2 k hk x cs w hI hlen h1
  · by_cases h2 : 56 < x.op
    · exact instr_r3 k hk x cs w hI hlen h1 h2
    · exact instr_r1 k hk x cs w hI hlen (by omega) (by omega)
end Go.Proofs.YtipnefogflpkhaaDoor
