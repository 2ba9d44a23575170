import Derived.Test.YtgckmkiiheaeaaaGreatDoorSc
import Derived.Test.YtgckmkiiheaeaaaGreatDoorSi
import Derived.Deep.RegionLaw
set_option linter.unusedVariables false
set_option linter.unusedSimpArgs false
namespace Go.Proofs.YtgckmkiiheaeaaaGreatDoor
open Go.RowKit Lx Px
theorem cells7 {X : World} {b t : Nat} {v0 v1 v2 v3 v4 v5 v6 : Value} (h : X.heap[b]? = some (.cells #[v0, v1, v2, v3, v4, v5, v6] t)) : X.cell? ⟨b, 0, none⟩ = some v0 ∧ X.cell? ⟨b, 1, none⟩ = some v1 ∧ X.cell? ⟨b, 2, none⟩ = some v2 ∧ X.cell? ⟨b, 3, none⟩ = some v3 ∧ X.cell? ⟨b, 4, none⟩ = some v4 ∧ X.cell? ⟨b, 5, none⟩ = some v5 ∧ X.cell? ⟨b, 6, none⟩ = some v6 := by
 refine ⟨?_, ?_, ?_, ?_, ?_, ?_, ?_⟩ <;> rw [World.cell?, h] <;> rfl
theorem cells2 {X : World} {b t : Nat} {v0 v1 : Value} (h : X.heap[b]? = some (.cells #[v0, v1] t)) : X.cell? ⟨b, 0, none⟩ = some v0 ∧ X.cell? ⟨b, 1, none⟩ = some v1 := by
 refine ⟨?_, ?_⟩ <;> rw [World.cell?, h] <;> rfl
theorem b_grown {a b : World} (h : Below a.heap.size a b) : a.grownBy b none := ⟨h.os, h.tape, h.output, h.size, fun k hk _ => h.block k hk⟩
theorem blk_alloc2 (w : World) (o o' : Obj) (k : Nat) (h : k < w.heap.size) : ((w.alloc o).alloc o').heap[k]? = w.heap[k]? := by
 rw [Below.heap_alloc _ _ _ (by simp; omega), Below.heap_alloc _ _ _ h]
theorem below_g {N : Nat} {a b c : World} {r : Option Nat} (h : Below N a b) (hg : b.grownBy c r) (hr : ∀ x, r = some x → N ≤ x) (hN : N ≤ b.heap.size) : Below N a c :=
 ⟨hg.os.trans h.os, hg.tape.trans h.tape, hg.output.trans h.output, Nat.le_trans h.size hg.size, fun k hk => (hg.block k (by omega) (fun e => by have := hr k e.symm; omega)).trans (h.block k hk)⟩
theorem b_hlt {w : World} {b : Nat} {o : Obj} (h : w.heap[b]? = some o) : b < w.heap.size := by
 rcases Nat.lt_or_ge b w.heap.size with h1 | h1
 ·exact h1
 ·rw [Array.getElem?_eq_none h1] at h; exact absurd h (by simp)
theorem Lx.enc_len : ∀ xs : List UInt8, (Sp.encL xs).length ≤ 2 * xs.length
 | [] => by simp [Sp.encL]
 | c :: r => by
   have h1 : (Sp.encB c).length ≤ 2 := by
    unfold Sp.encB
    split
    ·decide
    ·split <;> simp
   have h2 := Lx.enc_len r
   have e : Sp.encL (c :: r) = Sp.encB c ++ Sp.encL r := by simp [Sp.encL]
   rw [e, List.length_append, List.length_cons]
   omega
set_option maxRecDepth 100000 in
set_option maxHeartbeats 1000000 in
theorem spaced_big (s : ByteArray) (w : World) (hv : Vars w) (hs : 2000 < s.size) : Calls Tryz.prog 4 #[.string s] w fun e w' => e = .returned (.bool true) ∧ Below w.heap.size w w' := by
 have HA := hide (anchor_any w hv)
 have hsi : (2000 : Int) < (s.size : Int) := by omega
 clear hv
 go_enter Tryz.func4, Tryz.ntmps4
 go_wp2_with (go_at_call 7; refine (unhide HA).mono ?_; rintro e w1 ⟨rfl, hb1⟩; have HB1 := hide hb1; clear hb1)
 go_ret
 exact ⟨rfl, unhide HB1⟩
set_option maxRecDepth 100000 in
set_option maxHeartbeats 1000000 in
theorem spaced_in (s : ByteArray) (w : World) (hv : Vars w) (hs : s.size ≤ 2000) : Calls Tryz.prog 4 #[.string s] w fun e w' => e = .returned (.bool true) ∧ Below w.heap.size w w' := by
 have HA := hide (anchor_any w hv)
 have HV := hide hv
 have hsi : ¬ (2000 : Int) < (s.size : Int) := by omega
 have HSc := hide (fun w1 => ScanR_any s w1)
 clear hv
 obtain ⟨L, g, p, hlex⟩ : ∃ L g p, lexR s.toList = (L, g, p) := ⟨_, _, _, rfl⟩
 have HL := hide hlex
 have HS2 : Hid (∀ w1, Calls Tryz.prog 13 #[.string s] w1 fun e w2 => ∃ v, e = .returned (.tuple #[v, .agg #[.int .i64 g, .int .i64 p]]) ∧ w2.ownsRow w1.heap.size 36 4 v L.length (toksCells L) ∧ Below w1.heap.size w1 w2) := hide fun w1 => by
  have := ScanR_any s w1
  unfold ScanXPost at this
  rw [hlex] at this
  exact this
 clear hlex HSc
 by_cases hg : g = 0
 ·subst hg
  go_enter Tryz.func4, Tryz.ntmps4
  go_wp2_with (first | (go_at_call 7; refine (unhide HA).mono ?_; rintro e w1 ⟨rfl, hb1⟩; have HB1 := hide hb1; clear hb1) | (go_at_call 13; refine (unhide HS2 _).mono ?_; rintro e w2 ⟨v, rfl, ho2, hb2⟩; obtain ⟨ao, cp, rfl, hcp⟩ := row_form ho2; have HO2 := hide ho2; have HB2 := hide hb2; clear ho2 hb2))
  have HB3 : Hid (Below w.heap.size w (w2.alloc (.cells #[.int .i64 0, .int .i64 p] 32)) ∧ (w2.alloc (.cells #[.int .i64 0, .int .i64 p] 32)).ownsRow w1.heap.size 36 4 (.slice ao L.length cp) L.length (toksCells L)) := hide ⟨by
   have h1 := (unhide HB1).trans ((unhide HB2).mono (unhide HB1).size)
   exact h1.alloc h1.size _, (unhide HO2).alloc _⟩
  obtain ⟨w3, hw3⟩ : ∃ w3, w3 = w2.alloc (.cells #[.int .i64 0, .int .i64 p] 32) := ⟨_, rfl⟩
  rw [← hw3] at HB3 ⊢
  obtain ⟨pf, hpf⟩ : ∃ pf, pf = w2.heap.size := ⟨_, rfl⟩
  rw [← hpf]
  clear hw3 hpf HO2 HB2
  have HF := hide (Sp.lex_few _ _ _ (unhide HL))
  obtain ⟨n, hn⟩ : ∃ n, n = L.length := ⟨_, rfl⟩
  have hn3 : n ≤ 2002 := by have := (unhide HF).1; rw [toL_len] at this; omega
  have HN : Hid (L.length = n) := hide hn.symm
  rw [← hn] at HB3 ⊢
  clear hn
  go_loopw [5, 27] (fun t i wr => ∃ (j : Nat) (x : ByteArray), j ≤ n ∧ i = .int .i64 j ∧ t = .string x ∧ x.size ≤ 600 * j ∧ Hid (x.toList = Sp.spell (L.take j)) ∧ Hid (Below w3.heap.size w3 wr)) (fun _ i _ => n - (intOf i).toNat)
  case atStart => exact ⟨0, ⟨#[]⟩, Nat.zero_le _, rfl, rfl, by decide, hide (by rw [nil_toL]; rfl), hide (Below.refl _ _)⟩
  case round =>
   obtain ⟨j, x, hj, rfl, rfl, hxs, hX, hB⟩ := hrel
   by_cases hlt : j < n
   ·have hji : (j : Int) < (n : Int) := by omega
    have hjL : j < L.length := by have := unhide HN; omega
    obtain ⟨t, ht⟩ : ∃ t, t = L[j] := ⟨_, rfl⟩
    have hti : L[j]? = some t := by rw [List.getElem?_eq_getElem hjL, ht]
    have htl := (unhide HF).2 t (List.mem_of_getElem? hti)
    have hrow : wr.ownsRow w1.heap.size 36 4 (.slice ao n cp) L.length (toksCells L) := by
     have h1 := (unhide HB3).2
     rw [unhide HN]
     exact b_ownsRow h1 fun g hg => (unhide hB).block g (h1.lt g hg).2
    obtain ⟨g, cap, hv, _, _, d0, d1, d2, d3⟩ := tok_cells hrow j t hti
    simp only [Value.slice.injEq] at hv
    obtain ⟨rfl, hxx, rfl⟩ := hv
    have HX2 : Hid (∀ y : ByteArray, y.toList = Sp.wrT t → (x ++ y).toList = Sp.spell (L.take (j + 1))) := hide fun y hy => by
     have e : L.take (j + 1) = L.take j ++ [t] := by rw [List.take_succ_eq_append_getElem hjL, ht]
     rw [e]
     have e2 : Sp.spell (L.take j ++ [t]) = Sp.spell (L.take j) ++ Sp.wrT t := by simp [Sp.spell]
     rw [e2, ← unhide hX, ← hy]
     simp [ByteArray.toList_eq]
    clear hxx hrow hti ht hjL hX
    have HB5 : Hid (∀ w5, Below wr.heap.size wr w5 → Below w3.heap.size w3 w5) := hide fun w5 hb => (unhide hB).trans (hb.mono (unhide hB).size)
    have hts : (⟨t.text.toArray⟩ : ByteArray).size ≤ 256 := by rw [← toL_len, ByteArray.toList_mk]; exact htl
    have htt : (⟨t.text.toArray⟩ : ByteArray).toList = t.text := ByteArray.toList_mk t.text
    by_cases h3 : t.kind = 3
    ·have hb3 : (t.kind == 3) = true := by rw [h3]; rfl
     have HQ : Hid (∀ wx, Calls Tryz.prog 14 #[.string ⟨t.text.toArray⟩] wx fun e w' => Below wx.heap.size wx w' ∧ ∃ y : ByteArray, e = .returned (.string y) ∧ y.size ≤ 520 ∧ Hid ((x ++ ((⟨#[32]⟩ : ByteArray) ++ y)).toList = Sp.spell (L.take (j + 1)))) := hide fun wx => by
      refine (quote_w ⟨t.text.toArray⟩ wx (by omega)).mono ?_
      rintro e w' ⟨hb, y, rfl, hy⟩
      refine ⟨hb, y, rfl, ?_, hide (unhide HX2 _ ?_)⟩
      ·rw [htt] at hy
       have h1 := enc_len t.text
       rw [← toL_len, hy]
       simp only [List.length_cons, List.length_append, List.length_nil]
       omega
      ·rw [htt] at hy
       unfold Sp.wrT Sp.bodyT
       rw [if_pos h3, if_pos h3, ← hy]
       simp [ByteArray.toList_eq]
     clear HX2 hts htt htl h3
     go_wp2_with (go_at_call 14; refine (unhide HQ _).mono ?_; rintro e w5 ⟨hb5, y, rfl, hy, hY⟩; have HC5 := hide hb5; clear hb5)
     go_roundw
     case rel => exact ⟨j + 1, _, by omega, by go_num, rfl, by rw [app_n, app_n, show (⟨#[32]⟩ : ByteArray).size = 1 from rfl]; omega, hY, hide (unhide HB5 _ (Below.trans ((Below.refl _ _).alloc (Nat.le_refl _) _) ((unhide HC5).mono (by simp))))⟩
     case measure => simp [intOf]; omega
    ·have hb3 : (t.kind == 3) = false := by simpa using h3
     by_cases h5 : t.kind = 5 ∧ t.num = 1
     ·have hb5 : (t.kind == 5) = true := by rw [h5.1]; rfl
      have hb1 : (t.num == 1) = true := by rw [h5.2]; rfl
      have HY : Hid ((x ++ (⟨#[32, 47, 47, 32, 59, 10, 10]⟩ : ByteArray)).toList = Sp.spell (L.take (j + 1))) := hide (unhide HX2 _ (by unfold Sp.wrT; rw [if_neg h3, if_pos h5]; exact ByteArray.toList_mk [32, 47, 47, 32, 59, 10, 10]))
      clear HX2 hts htt htl h3 h5
      go_wp2
      go_roundw
      case rel => exact ⟨j + 1, _, by omega, by go_num, rfl, by rw [app_n, show (⟨#[32, 47, 47, 32, 59, 10, 10]⟩ : ByteArray).size = 7 from rfl]; omega, HY, hide (unhide HB5 _ ((Below.refl _ _).alloc (Nat.le_refl _) _))⟩
      case measure => simp [intOf]; omega
     ·have HY : Hid ((x ++ ((⟨#[9]⟩ : ByteArray) ++ ⟨t.text.toArray⟩)).toList = Sp.spell (L.take (j + 1))) := hide (unhide HX2 _ (by
       unfold Sp.wrT Sp.bodyT
       rw [if_neg h3, if_neg h5, if_neg h3]
       simp [ByteArray.toList_eq]))
      have hz : (x ++ ((⟨#[9]⟩ : ByteArray) ++ ⟨t.text.toArray⟩)).size ≤ 600 * (j + 1) := by rw [app_n, app_n, show (⟨#[9]⟩ : ByteArray).size = 1 from rfl]; omega
      by_cases hk : t.kind = 5
      ·have hb5 : (t.kind == 5) = true := by rw [hk]; rfl
       have hb1 : (t.num == 1) = false := by simpa using fun h => h5 ⟨hk, h⟩
       clear HX2 htt h3 h5 hk
       go_wp2
       go_roundw
       case rel => exact ⟨j + 1, _, by omega, by go_num, rfl, hz, HY, hide (unhide HB5 _ ((Below.refl _ _).alloc (Nat.le_refl _) _))⟩
       case measure => simp [intOf]; omega
      ·have hb5 : (t.kind == 5) = false := by simpa using hk
       clear HX2 htt h3 h5 hk
       go_wp2
       go_roundw
       case rel => exact ⟨j + 1, _, by omega, by go_num, rfl, hz, HY, hide (unhide HB5 _ ((Below.refl _ _).alloc (Nat.le_refl _) _))⟩
       case measure => simp [intOf]; omega
   ·have hje : j = n := by omega
    subst hje
    have hji : ¬ (j : Int) < (j : Int) := by omega
    have hLj : L.take j = L := List.take_of_length_le (by have := unhide HN; omega)
    have hxL : x.toList = Sp.spell L := by have := unhide hX; rwa [hLj] at this
    have hB0 : Below w.heap.size w wr := (unhide HB3).1.trans ((unhide hB).mono (unhide HB3).1.size)
    have HB0 := hide hB0
    have HVr : Hid (Vars wr) := hide ((unhide HV).below (B := w.heap.size) (by have := (unhide HV).lt; omega) hB0)
    by_cases h8 : 8192 < x.size
    ·have h8i : (8192 : Int) < (x.size : Int) := by omega
     clear hX hB hLj hxL hB0
     go_wp2
     go_ret
     exact ⟨rfl, unhide HB0⟩
    ·have h8i : ¬ (8192 : Int) < (x.size : Int) := by omega
     obtain ⟨kd, kids, kids', m, st, g1, g2, hm1, hm2, hme, hs1, hs2, hm⟩ := both s x L p (unhide HL) hxL (by omega) (by have := unhide HN; omega)
     have HP1 := hide g1
     have HP2 := hide g2
     have HM1 := hide hm1
     have HM2 := hide hm2
     have HME := hide hme
     have HS1 := hide hs1
     have HS2 := hide hs2
     clear hX hB hLj hxL hB0 g1 g2 hm1 hm2 hme hs1 hs2 HB3 HL HF HN
     go_wp2_with (go_at_call 15; with_reducible refine (unhide HP1 wr (unhide HVr)).mono ?_; rintro e u1 ⟨hb1, ao1, cp1, p1, rfl, hk1⟩; have HB1 : Hid (Below wr.heap.size wr ((u1.alloc (.cells #[.int .i64 kd, .string ⟨#[]⟩, .int .i64 0, .int .i64 0, .string ⟨#[]⟩, .int .i64 0, .slice ao1 m cp1] 24)).alloc (.cells #[.int .i64 st, .int .i64 p1] 32))) := hide (ba2 (ba2 hb1 _) _); have HK1 := hide hk1; have HV1 : Hid (Vars ((u1.alloc (.cells #[.int .i64 kd, .string ⟨#[]⟩, .int .i64 0, .int .i64 0, .string ⟨#[]⟩, .int .i64 0, .slice ao1 m cp1] 24)).alloc (.cells #[.int .i64 st, .int .i64 p1] 32))) := hide ((unhide HVr).below (B := wr.heap.size) (by have := (unhide HVr).lt; omega) (ba2 (ba2 hb1 _) _)); clear hb1 hk1)
     go_wp2_with (go_at_call 15; with_reducible refine (unhide HP2 ((u1.alloc (.cells #[.int .i64 kd, .string ⟨#[]⟩, .int .i64 0, .int .i64 0, .string ⟨#[]⟩, .int .i64 0, .slice ao1 m cp1] 24)).alloc (.cells #[.int .i64 st, .int .i64 p1] 32)) (unhide HV1)).mono ?_; rintro e u2 ⟨hb2, ao2, cp2, p2, rfl, hk2⟩; have HB2 := hide hb2; have HK2 := hide hk2; clear hb2 hk2)
     have f1 : ((u2.alloc (.cells #[.int .i64 kd, .string ⟨#[]⟩, .int .i64 0, .int .i64 0, .string ⟨#[]⟩, .int .i64 0, .slice ao2 m cp2] 24)).alloc (.cells #[.int .i64 st, .int .i64 p2] 32)).heap[u1.heap.size]? = some (.cells #[.int .i64 kd, .string ⟨#[]⟩, .int .i64 0, .int .i64 0, .string ⟨#[]⟩, .int .i64 0, .slice ao1 m cp1] 24) := by
      rw [blk_alloc2 _ _ _ _ (Nat.lt_of_lt_of_le (by simp; omega) (unhide HB2).size), (unhide HB2).block _ (by simp; omega)]
      exact blk_alloc (heap_alloc_new' _ _ rfl) _
     have f2 : ((u2.alloc (.cells #[.int .i64 kd, .string ⟨#[]⟩, .int .i64 0, .int .i64 0, .string ⟨#[]⟩, .int .i64 0, .slice ao2 m cp2] 24)).alloc (.cells #[.int .i64 st, .int .i64 p2] 32)).heap[u1.heap.size + 1]? = some (.cells #[.int .i64 st, .int .i64 p1] 32) := by
      rw [blk_alloc2 _ _ _ _ (Nat.lt_of_lt_of_le (by simp) (unhide HB2).size), (unhide HB2).block _ (by simp)]
      exact heap_alloc_new' _ _ (by simp)
     have f3 : ((u2.alloc (.cells #[.int .i64 kd, .string ⟨#[]⟩, .int .i64 0, .int .i64 0, .string ⟨#[]⟩, .int .i64 0, .slice ao2 m cp2] 24)).alloc (.cells #[.int .i64 st, .int .i64 p2] 32)).heap[u2.heap.size]? = some (.cells #[.int .i64 kd, .string ⟨#[]⟩, .int .i64 0, .int .i64 0, .string ⟨#[]⟩, .int .i64 0, .slice ao2 m cp2] 24) := blk_alloc (heap_alloc_new' _ _ rfl) _
     have f4 : ((u2.alloc (.cells #[.int .i64 kd, .string ⟨#[]⟩, .int .i64 0, .int .i64 0, .string ⟨#[]⟩, .int .i64 0, .slice ao2 m cp2] 24)).alloc (.cells #[.int .i64 st, .int .i64 p2] 32)).heap[u2.heap.size + 1]? = some (.cells #[.int .i64 st, .int .i64 p2] 32) := heap_alloc_new' _ _ (by simp)
     have gk1 : u1.grownBy ((u2.alloc (.cells #[.int .i64 kd, .string ⟨#[]⟩, .int .i64 0, .int .i64 0, .string ⟨#[]⟩, .int .i64 0, .slice ao2 m cp2] 24)).alloc (.cells #[.int .i64 st, .int .i64 p2] 32)) none := grown_trans (grown_alloc (grown_alloc (grown_refl _ _) _) _) (grown_trans (b_grown (unhide HB2)) (grown_alloc (grown_alloc (grown_refl _ _) _) _))
     have gk2 : u2.grownBy ((u2.alloc (.cells #[.int .i64 kd, .string ⟨#[]⟩, .int .i64 0, .int .i64 0, .string ⟨#[]⟩, .int .i64 0, .slice ao2 m cp2] 24)).alloc (.cells #[.int .i64 st, .int .i64 p2] 32)) none := grown_alloc (grown_alloc (grown_refl _ _) _) _
     have k1 := (unhide HK1).grown gk1
     have k2 := (unhide HK2).grown gk2
     have bw : Below wr.heap.size wr ((u2.alloc (.cells #[.int .i64 kd, .string ⟨#[]⟩, .int .i64 0, .int .i64 0, .string ⟨#[]⟩, .int .i64 0, .slice ao2 m cp2] 24)).alloc (.cells #[.int .i64 st, .int .i64 p2] 32)) := ba2 (ba2 ((unhide HB1).trans ((unhide HB2).mono (unhide HB1).size)) _) _
     generalize ((u2.alloc (.cells #[.int .i64 kd, .string ⟨#[]⟩, .int .i64 0, .int .i64 0, .string ⟨#[]⟩, .int .i64 0, .slice ao2 m cp2] 24)).alloc (.cells #[.int .i64 st, .int .i64 p2] 32)) = W at f1 f2 f3 f4 k1 k2 bw ⊢
     have BW := hide bw
     have FF1 := hide f1
     have FF2 := hide f2
     have FF3 := hide f3
     have FF4 := hide f4
     obtain ⟨K, hK⟩ : ∃ K, K = kids.map er := ⟨_, rfl⟩
     have hKl : K.length = m := by rw [hK, List.length_map]; exact unhide HM1
     have HC1 : Hid (∀ X, W.grownBy X none → Calls Tryz.prog 12 #[(.agg #[.int .i64 kd, .string ⟨#[]⟩, .int .i64 0, .int .i64 0, .string ⟨#[]⟩, .int .i64 0, .slice ao1 m cp1])] X fun e w' => X.grownBy w' none ∧ ∃ ao3 cp3, e = .returned (.agg #[.int .i64 kd, .string ⟨#[]⟩, .int .i64 0, .int .i64 0, .string ⟨#[]⟩, .int .i64 0, .slice ao3 m cp3]) ∧ Jj.KidsAt w' (.slice ao3 m cp3) K) := hide fun X hX => by
      have hm1 := unhide HM1
      have kx := k1.grown hX
      subst hm1
      refine (Jj.bare_w _ kd [] 0 0 kids (Nat.le_refl _) (unhide HS1) X ao1 cp1 kx).mono ?_
      rintro e w' ⟨h1, ao, cp, h2, h3⟩
      rw [List.length_map] at h2 h3
      rw [hK]
      exact ⟨h1, ao, cp, h2, Jj.KidsAt.of h3 (Nat.le_refl _)⟩
     have HC2 : Hid (∀ X, W.grownBy X none → Calls Tryz.prog 12 #[(.agg #[.int .i64 kd, .string ⟨#[]⟩, .int .i64 0, .int .i64 0, .string ⟨#[]⟩, .int .i64 0, .slice ao2 m cp2])] X fun e w' => X.grownBy w' none ∧ ∃ ao3 cp3, e = .returned (.agg #[.int .i64 kd, .string ⟨#[]⟩, .int .i64 0, .int .i64 0, .string ⟨#[]⟩, .int .i64 0, .slice ao3 m cp3]) ∧ Jj.KidsAt w' (.slice ao3 m cp3) K) := hide fun X hX => by
      have hm2 := unhide HM2
      have kx := k2.grown hX
      subst hm2
      refine (Jj.bare_w _ kd [] 0 0 kids' (Nat.le_refl _) (unhide HS2) X ao2 cp2 kx).mono ?_
      rintro e w' ⟨h1, ao, cp, h2, h3⟩
      rw [List.length_map] at h2 h3
      rw [hK, ← unhide HME]
      exact ⟨h1, ao, cp, h2, Jj.KidsAt.of h3 (Nat.le_refl _)⟩
     have HC3 : Hid (∀ X ao cp ao' cp', Jj.KidsAt X (.slice ao m cp) K → Jj.KidsAt X (.slice ao' m cp') K → Calls Tryz.prog 11 #[(.agg #[.int .i64 kd, .string ⟨#[]⟩, .int .i64 0, .int .i64 0, .string ⟨#[]⟩, .int .i64 0, .slice ao m cp]), (.agg #[.int .i64 kd, .string ⟨#[]⟩, .int .i64 0, .int .i64 0, .string ⟨#[]⟩, .int .i64 0, .slice ao' m cp'])] X fun e w' => e = .returned (.bool true) ∧ X.grownBy w' none) := hide fun X ao cp ao' cp' h1 h2 => by
      clear hK
      subst hKl
      exact Jj.same_w _ kd [] 0 0 K (Nat.le_refl _) X ao ao' cp cp' h1 h2
     obtain ⟨n0, n1, n2, n3, n4, n5, n6⟩ := cells7 f1
     obtain ⟨m0, m1, m2, m3, m4, m5, m6⟩ := cells7 f3
     obtain ⟨q0, q1⟩ := cells2 f2
     obtain ⟨r0, r1⟩ := cells2 f4
     clear f1 f2 f3 f4 gk1 gk2 k1 k2 bw HK1 HK2 HB1 HB2 hK hKl HM1 HM2 HME HS1 HS2 HP1 HP2 HV1
     generalize u1.heap.size = b1 at *
     generalize u2.heap.size = b2 at *
     go_region_law (first
      | (go_simp; go_at_call 12; with_reducible refine (unhide HC1 _ (by (repeat' (first | exact grown_refl _ _ | refine grown_drew ?_)))).mono ?_; rintro e w3 ⟨hg3, ao3, cp3, rfl, hk3⟩; have HG3 : Hid (W.grownBy w3 none) := hide (grown_trans (by (repeat' (first | exact grown_refl _ _ | refine grown_drew ?_))) hg3); have HK3 := hide hk3; (obtain ⟨y0, y1, y2, y3, y4, y5, y6⟩ := cells7 (((unhide HG3).block _ (b_hlt (unhide FF3)) (by simp)).trans (unhide FF3))); clear hg3 hk3)
      | (go_simp; go_at_call 12; with_reducible refine (unhide HC2 _ (by (repeat' (first | exact unhide HG3 | refine grown_drew ?_)))).mono ?_; rintro e w4 ⟨hg4, ao4, cp4, rfl, hk4⟩; have HG4 : Hid (w3.grownBy w4 none) := hide (grown_trans (by (repeat' (first | exact grown_refl _ _ | refine grown_drew ?_))) hg4); have HK4 := hide hk4; clear hg4 hk4)
      | (go_simp; go_at_call 11; with_reducible refine (unhide HC3 _ ao3 cp3 ao4 cp4 (((unhide HK3).grown (unhide HG4)).grown (by (repeat' (first | exact grown_refl _ _ | refine grown_drew ?_)))) ((unhide HK4).grown (by (repeat' (first | exact grown_refl _ _ | refine grown_drew ?_))))).mono ?_; rintro e w5 ⟨rfl, hg5⟩; have HG5 : Hid (w4.grownBy w5 none) := hide (grown_trans (by (repeat' (first | exact grown_refl _ _ | refine grown_drew ?_))) hg5); clear hg5))
     all_goals
      go_wp2
      go_ret
      have h2 := (unhide HB0).trans ((unhide BW).mono (unhide HB0).size)
      have h3 := below_g h2 (unhide HG3) (fun x hx => by cases hx) h2.size
      have h4 := below_g h3 (unhide HG4) (fun x hx => by cases hx) h3.size
      have h5 := below_g h4 (unhide HG5) (fun x hx => by cases hx) h4.size
      exact ⟨rfl, by first | exact h5 | exact h5.drew⟩
 ·have hgb : (g != 0) = true := by simpa using hg
  go_enter Tryz.func4, Tryz.ntmps4
  go_wp2_with (first | (go_at_call 7; refine (unhide HA).mono ?_; rintro e w1 ⟨rfl, hb1⟩; have HB1 := hide hb1; clear hb1) | (go_at_call 13; refine (unhide HS2 _).mono ?_; rintro e w2 ⟨v, rfl, ho2, hb2⟩; have HB2 := hide hb2; clear ho2 hb2))
  go_ret
  have h1 := (unhide HB1).trans ((unhide HB2).mono (unhide HB1).size)
  exact ⟨rfl, h1.alloc h1.size _⟩
theorem spaced_any (s : ByteArray) (w : World) (hv : Vars w) : Calls Tryz.prog 4 #[.string s] w fun e w' => e = .returned (.bool true) ∧ Below w.heap.size w w' := by
 rcases Nat.lt_or_ge 2000 s.size with h | h
 ·exact spaced_big s w hv h
 ·exact spaced_in s w hv h
end Go.Proofs.YtgckmkiiheaeaaaGreatDoor
