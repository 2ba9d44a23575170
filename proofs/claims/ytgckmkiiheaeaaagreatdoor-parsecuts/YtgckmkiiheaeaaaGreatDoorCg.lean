/- ParseCuts, walked. -/
import Derived.Test.YtgckmkiiheaeaaaGreatDoorCf
import Derived.Test.YtgckmkiiheaeaaaGreatDoorRk
import Derived.Deep.RegionLaw
import Derived.Deep.QuietTactic
import Derived.Laws.IdiomStrings
import Derived.Laws.Concat
import Derived.Laws.StructEq
set_option linter.unusedVariables false
set_option linter.unusedSimpArgs false
namespace Go.Proofs.YtgckmkiiheaeaaaGreatDoor
open Go.RowKit Go.Proofs.YtgckmkiiheaeaaaGreatDoor.Lx Go.Proofs.YtgckmkiiheaeaaaGreatDoor.Px
theorem b_ownsRow {w w' : World} {base e size n : Nat} {v : Value} {xs : List Value} (h : w.ownsRow base e size v n xs) (hb : ∀ g, v.ownBlock = some g → w'.heap[g]? = w.heap[g]?) : w'.ownsRow base e size v n xs := by
  refine ⟨h.1, ?_⟩
  rcases h.2 with h2 | ⟨g, cap, cur, rfl, h3, h4, h5⟩
  · exact .inl h2
  · exact .inr ⟨g, cap, cur, rfl, h3, (hb g rfl).trans h4, h5⟩
def faultC (l : List UInt8) : Int × Int := if (lexR l).2.1 = 0 then (match runF (lexR l).1 with | .bad p => (4, p) | _ => (0, 0)) else (lexR l).2
theorem Parse_faultC (s : ByteArray) (w : World) (hv : Vars w) : Calls Tryz.prog 15 #[.string s] w fun e w' => Below w.heap.size w w' ∧ ∃ (kd : Int) (tx : ByteArray) (nm ps : Int) (ao : Option Addr) (n cp : Nat), e = .returned (.tuple #[.agg #[.int .i64 kd, .string tx, .int .i64 nm, .int .i64 ps, .string ⟨#[]⟩, .int .i64 0, .slice ao n cp], .agg #[.int .i64 (faultC s.toList).1, .int .i64 (faultC s.toList).2]]) := by
  refine (Parse_any s w hv).mono ?_
  rintro e w' ⟨hb, hp⟩
  refine ⟨hb, ?_⟩
  unfold faultC
  rcases hp with ⟨h, rfl⟩ | ⟨h, kd, tx, nm, ps, kids, s, k', ao, cp, hr, rfl, hrow⟩ | ⟨h, p, hr, rfl⟩
  · rw [if_neg h]; exact ⟨_, _, _, _, _, _, _, rfl⟩
  · rw [if_pos h, hr]; exact ⟨_, _, _, _, _, _, _, rfl⟩
  · rw [if_pos h, hr]; exact ⟨_, _, _, _, _, _, _, rfl⟩
theorem b_hlt {w : World} {b : Nat} {o : Obj} (h : w.heap[b]? = some o) : b < w.heap.size := by
  rcases Nat.lt_or_ge b w.heap.size with h1 | h1
  · exact h1
  · rw [Array.getElem?_eq_none h1] at h; exact absurd h (by simp)
theorem cellsC {X : World} {b t : Nat} {v0 v1 : Value} (h : X.heap[b]? = some (.cells #[v0, v1] t)) : X.cell? ⟨b, 0, none⟩ = some v0 ∧ X.cell? ⟨b, 1, none⟩ = some v1 := by
  refine ⟨?_, ?_⟩ <;> rw [World.cell?, h] <;> rfl
theorem bdN {B : Nat} {a w : World} (h : Below B a w) (n : Nat) : Below B a (w.drewN n) := h.trans ⟨rfl, rfl, rfl, Nat.le_refl _, fun _ _ => rfl⟩
theorem lexR_st (l : List UInt8) : (lexR l).2.1 ≠ 4 := by
  unfold lexR
  split
  · simp
  · split
    · simp
    · split <;> simp
theorem faultC_4 (l : List UInt8) (h : (faultC l).1 = 4) : (lexR l).2.1 = 0 ∧ runF (lexR l).1 = .bad (faultC l).2 := by
  unfold faultC at h ⊢
  by_cases h0 : (lexR l).2.1 = 0
  · rw [if_pos h0] at h ⊢
    refine ⟨h0, ?_⟩
    cases hr : runF (lexR l).1 with
    | ok l s k => rw [hr] at h; simp at h
    | bad p => rfl
    | out => rw [hr] at h; simp at h
  · rw [if_neg h0] at h
    exact absurd h (lexR_st l)
theorem faultC_bad (l : List UInt8) (L : List Tok) (q p : Int) (h : lexR l = (L, 0, q)) (hr : runF L = .bad p) : faultC l = (4, p) := by
  unfold faultC
  rw [h]
  simp only [if_true, hr]
theorem tok_pos (l : List UInt8) (L : List Tok) (p : Int) (h : lexR l = (L, 0, p)) : ∀ t ∈ L, ∃ n : Nat, t.pos = (n : Int) ∧ n ≤ l.length := by
  obtain ⟨T, hT, rfl⟩ := lex_inv l L p h
  intro t ht
  have s1 := (Lx.Sp.scan_pos _ _ _ _ _ hT).1
  have h2 : 0 ≤ t.pos ∧ t.pos ≤ (l.length : Int) := by
    rcases List.mem_append.1 ht with g | g
    · have := s1 t g; omega
    · rcases List.mem_append.1 g with g | g
      · rw [endD_pos t g]; omega
      · simp at g; rw [g]; simp
  exact ⟨t.pos.toNat, by omega, by omega⟩
theorem fs36 : ∃ A B C D, (Tryz.prog.fieldsOf 36).toList = [A, B, C, D] ∧ (A.name = "Kind" ∧ A.type = 3 ∧ A.offset = 0) ∧ (B.name = "Text" ∧ B.type = 9 ∧ B.offset = 1) ∧ (C.name = "Num" ∧ C.type = 3 ∧ C.offset = 2) ∧ (D.name = "At" ∧ D.type = 3 ∧ D.offset = 3) :=
  ⟨(Tryz.prog.fieldsOf 36)[0]!, (Tryz.prog.fieldsOf 36)[1]!, (Tryz.prog.fieldsOf 36)[2]!, (Tryz.prog.fieldsOf 36)[3]!, by kernel_rfl, ⟨by kernel_rfl, by kernel_rfl, by kernel_rfl⟩, ⟨by kernel_rfl, by kernel_rfl, by kernel_rfl⟩, ⟨by kernel_rfl, by kernel_rfl, by kernel_rfl⟩, ⟨by kernel_rfl, by kernel_rfl, by kernel_rfl⟩⟩
theorem pt3 (x0 x1 x2 x3 : Value) (w : World) : (part 3 #[x0, x1, x2, x3] 0).run Tryz.prog w = .ok x0 w ∧ (part 9 #[x0, x1, x2, x3] 1).run Tryz.prog w = .ok x1 w ∧ (part 3 #[x0, x1, x2, x3] 2).run Tryz.prog w = .ok x2 w ∧ (part 3 #[x0, x1, x2, x3] 3).run Tryz.prog w = .ok x3 w := ⟨by kernel_rfl, by kernel_rfl, by kernel_rfl, by kernel_rfl⟩
set_option maxRecDepth 100000 in
theorem neq36 (k k' n n' p p' : Int) (a b : ByteArray) (w : World) : (binOp .neq 36 (.agg #[.int .i64 k, .string a, .int .i64 n, .int .i64 p]) (.agg #[.int .i64 k', .string b, .int .i64 n', .int .i64 p'])).run Tryz.prog w = .ok (.bool (!(decide (k = k') && (decide (a.toList = b.toList) && (decide (n = n') && decide (p = p')))))) w := by
  rw [run_neq_struct, run_equalIn_agg (P := Tryz.prog) w 9999 36 _ _ (by kernel_rfl) (by kernel_rfl)]
  obtain ⟨A, B, C, D, e, ⟨a0, a1, a2⟩, ⟨b0, b1, b2⟩, ⟨c0, c1, c2⟩, ⟨d0, d1, d2⟩⟩ := fs36
  rw [e]
  simp only [Op.eqFields, a0, a1, a2, b0, b1, b2, c0, c1, c2, d0, d1, d2]
  have P1 := fun (x0 x1 x2 x3 : Value) => (pt3 x0 x1 x2 x3 w).1
  have P2 := fun (x0 x1 x2 x3 : Value) => (pt3 x0 x1 x2 x3 w).2.1
  have P3 := fun (x0 x1 x2 x3 : Value) => (pt3 x0 x1 x2 x3 w).2.2.1
  have P4 := fun (x0 x1 x2 x3 : Value) => (pt3 x0 x1 x2 x3 w).2.2.2
  have I := fun (x y : Int) => run_equalIn_int (P := Tryz.prog) w 9998 3 .i64 .i64 x y Tryz.underlying3
  have S := fun (x y : ByteArray) => run_equalIn_string (P := Tryz.prog) w 9998 9 x y Tryz.underlying9
  by_cases h0 : k = k' <;> by_cases h1 : a.toList = b.toList <;> by_cases h2 : n = n' <;> by_cases h3 : p = p' <;> simp [P1, P2, P3, P4, I, S, h0, h1, h2, h3]
theorem ext_list (s s' : ByteArray) (e : Nat) : (s.extract 0 e ++ (⟨#[10]⟩ : ByteArray) ++ s').toList = s.toList.take e ++ 10 :: s'.toList := by
  simp [ByteArray.toList_eq]
theorem ext_all (s s' : ByteArray) : (s ++ (⟨#[10]⟩ : ByteArray) ++ s').toList = s.toList.take s.size ++ 10 :: s'.toList := by
  rw [List.take_of_length_le (by rw [toL_len]; exact Nat.le_refl _)]
  simp [ByteArray.toList_eq]
set_option maxRecDepth 100000 in
set_option maxHeartbeats 1000000 in
theorem cuts_big (s s' : ByteArray) (w : World) (hv : Vars w) (hs : 4000 < s.size ∨ 4000 < s'.size) : Calls Tryz.prog 5 #[.string s, .string s'] w fun e w' => e = .returned (.bool true) ∧ Below w.heap.size w w' := by
  have HA := hide (anchor_any w hv)
  clear hv
  by_cases h1 : 4000 < s.size
  · have hsi : (4000 : Int) < (s.size : Int) := by omega
    go_enter Tryz.func5, Tryz.ntmps5
    go_wp2_with (go_at_call 7; refine (unhide HA).mono ?_; rintro e w1 ⟨rfl, hb1⟩; have HB1 := hide hb1; clear hb1)
    go_ret
    exact ⟨rfl, unhide HB1⟩
  · have hsi : ¬ (4000 : Int) < (s.size : Int) := by omega
    have hsi2 : (4000 : Int) < (s'.size : Int) := by omega
    go_enter Tryz.func5, Tryz.ntmps5
    go_wp2_with (go_at_call 7; refine (unhide HA).mono ?_; rintro e w1 ⟨rfl, hb1⟩; have HB1 := hide hb1; clear hb1)
    go_ret
    exact ⟨rfl, unhide HB1⟩
set_option maxRecDepth 100000 in
set_option maxHeartbeats 1000000 in
theorem cuts_in (s s' : ByteArray) (w : World) (hv : Vars w) (hs : s.size ≤ 4000) (hs' : s'.size ≤ 4000) : Calls Tryz.prog 5 #[.string s, .string s'] w fun e w' => e = .returned (.bool true) ∧ Below w.heap.size w w' := by
  have HA := hide (anchor_any w hv)
  have HV := hide hv
  have hsi : ¬ (4000 : Int) < (s.size : Int) := by omega
  have hsi2 : ¬ (4000 : Int) < (s'.size : Int) := by omega
  clear hv
  obtain ⟨st, p, hf⟩ : ∃ st p, faultC s.toList = (st, p) := ⟨_, _, rfl⟩
  have HP : Hid (∀ w1, Vars w1 → Calls Tryz.prog 15 #[.string s] w1 fun e w' => Below w1.heap.size w1 w' ∧ ∃ (kd : Int) (tx : ByteArray) (nm ps : Int) (ao : Option Addr) (n cp : Nat), e = .returned (.tuple #[.agg #[.int .i64 kd, .string tx, .int .i64 nm, .int .i64 ps, .string ⟨#[]⟩, .int .i64 0, .slice ao n cp], .agg #[.int .i64 st, .int .i64 p]])) := hide fun w1 h1 => by
    have := Parse_faultC s w1 h1
    rw [hf] at this
    exact this
  by_cases hst : st = 4
  · subst hst
    obtain ⟨h0, hr⟩ := faultC_4 s.toList (by rw [hf])
    rw [hf] at hr
    obtain ⟨L, q, hL⟩ : ∃ L q, lexR s.toList = (L, 0, q) := ⟨_, _, by rw [← h0]⟩
    rw [hL] at hr
    have HS2 : Hid (∀ w1, Calls Tryz.prog 13 #[.string s] w1 fun e w2 => ∃ v, e = .returned (.tuple #[v, .agg #[.int .i64 0, .int .i64 q]]) ∧ w2.ownsRow w1.heap.size 36 4 v L.length (toksCells L) ∧ Below w1.heap.size w1 w2) := hide fun w1 => by
      have := ScanR_any s w1
      unfold ScanXPost at this
      rw [hL] at this
      exact this
    have HL := hide hL
    have HR := hide hr
    clear hf h0 hr hL
    go_enter Tryz.func5, Tryz.ntmps5
    go_wp2_with (first | (go_at_call 7; refine (unhide HA).mono ?_; rintro e w1 ⟨rfl, hb1⟩; have HB1 := hide hb1; have HV1 : Hid (Vars w1) := hide ((unhide HV).below (B := w.heap.size) (by have := (unhide HV).lt; omega) hb1); clear hb1) | (go_at_call 15; with_reducible refine (unhide HP w1 (unhide HV1)).mono ?_; rintro e u1 ⟨hb2, kd, tx, nm, ps, ao, n0, cp, rfl⟩; have HB2 := hide hb2; clear hb2) | (go_at_call 13; refine (unhide HS2 _).mono ?_; rintro e u2 ⟨v, rfl, ho2, hb3⟩; obtain ⟨a2, c2, rfl, hcp⟩ := row_form ho2; have HO2 := hide ho2; have HB3 := hide hb3; clear ho2 hb3))
    have b0 : Below w.heap.size w u1 := (unhide HB1).trans ((unhide HB2).mono (unhide HB1).size)
    have b1 : Below w.heap.size w ((u1.alloc (.cells #[.int .i64 kd, .string tx, .int .i64 nm, .int .i64 ps, .string ⟨#[]⟩, .int .i64 0, .slice ao n0 cp] 24)).alloc (.cells #[.int .i64 4, .int .i64 p] 32)) := (b0.alloc b0.size _).alloc (b0.alloc b0.size _).size _
    have b2 : Below w.heap.size w u2 := b1.trans ((unhide HB3).mono b1.size)
    have f1 : (u2.alloc (.cells #[.int .i64 0, .int .i64 q] 32)).heap[u1.heap.size + 1]? = some (.cells #[.int .i64 4, .int .i64 p] 32) := by
      refine blk_alloc ?_ _
      rw [(unhide HB3).block _ (by simp)]
      exact heap_alloc_new' _ _ (by simp)
    have HW : Hid (Below w.heap.size w (u2.alloc (.cells #[.int .i64 0, .int .i64 q] 32)) ∧ (u2.alloc (.cells #[.int .i64 0, .int .i64 q] 32)).ownsRow ((u1.alloc (.cells #[.int .i64 kd, .string tx, .int .i64 nm, .int .i64 ps, .string ⟨#[]⟩, .int .i64 0, .slice ao n0 cp] 24)).alloc (.cells #[.int .i64 4, .int .i64 p] 32)).heap.size 36 4 (.slice a2 L.length c2) L.length (toksCells L) ∧ (u2.alloc (.cells #[.int .i64 0, .int .i64 q] 32)).heap[u1.heap.size + 1]? = some (.cells #[.int .i64 4, .int .i64 p] 32)) := hide ⟨b2.alloc b2.size _, (unhide HO2).alloc _, f1⟩
    clear b0 b1 b2 f1 HB1 HB2 HB3 HO2 HV1
    generalize ((u1.alloc (.cells #[.int .i64 kd, .string tx, .int .i64 nm, .int .i64 ps, .string ⟨#[]⟩, .int .i64 0, .slice ao n0 cp] 24)).alloc (.cells #[.int .i64 4, .int .i64 p] 32)).heap.size = base at HW
    generalize u2.alloc (.cells #[.int .i64 0, .int .i64 q] 32) = w5 at HW ⊢
    generalize u1.heap.size + 1 = pb at HW ⊢
    generalize u1.heap.size = pa
    generalize u2.heap.size = pc
    have hn3 : L.length ≤ 9000 := by
      obtain ⟨t, e1, e2⟩ := lex_last s.toList (by rw [unhide HL])
      rw [unhide HL] at e1
      rw [show L = t ++ [⟨6, [], 0, s.toList.length⟩] from e1, List.length_append]
      simp; omega
    obtain ⟨n, hn⟩ : ∃ n, n = L.length := ⟨_, rfl⟩
    have HN : Hid (L.length = n) := hide hn.symm
    rw [← hn] at HW hn3 ⊢
    clear hn
    go_loopw [42] (fun i wr => ∃ (j : Nat), j ≤ n ∧ i = .int .i64 j ∧ Hid (Below w5.heap.size w5 wr)) (fun i _ => n - (intOf i).toNat)
    case atStart => exact ⟨0, Nat.zero_le _, rfl, hide (Below.refl _ _)⟩
    case round =>
      obtain ⟨j, hj, rfl, hB⟩ := hrel
      by_cases hlt : j < n
      · have hji : (j : Int) < (n : Int) := by omega
        have hjL : j < L.length := by have := unhide HN; omega
        obtain ⟨t, ht⟩ : ∃ t, t = L[j] := ⟨_, rfl⟩
        have hti : L[j]? = some t := by rw [List.getElem?_eq_getElem hjL, ht]
        have hrow : wr.ownsRow base 36 4 (.slice a2 n c2) L.length (toksCells L) := by
          have h1 := (unhide HW).2.1
          rw [unhide HN]
          exact b_ownsRow h1 fun g hg => (unhide hB).block g (h1.lt g hg).2
        obtain ⟨g, cap, hv, _, hgl, d0, d1, d2, d3⟩ := tok_cells hrow j t hti
        simp only [Value.slice.injEq] at hv
        obtain ⟨rfl, hxx, rfl⟩ := hv
        have hpb : pb < w5.heap.size := by
          rcases Nat.lt_or_ge pb w5.heap.size with h1 | h1
          · exact h1
          · have := (unhide HW).2.2; rw [Array.getElem?_eq_none h1] at this; cases this
        have hpw := (unhide hB).size
        have HF : Hid (wr.heap[pb]? = some (.cells #[.int .i64 4, .int .i64 p] 32)) := hide (((unhide hB).block pb hpb).trans (unhide HW).2.2)
        have HX : Hid (∀ t2, L[j + 1]? = some t2 → wr.cell? ⟨g, (j + 1) * 4 + 3, none⟩ = some (.int .i64 t2.pos)) := hide fun t2 h2 => by
          obtain ⟨g', cap', hv', _, _, _, _, _, d3'⟩ := tok_cells hrow (j + 1) t2 h2
          simp only [Value.slice.injEq, Option.some.injEq, Addr.mk.injEq] at hv'
          obtain ⟨⟨rfl, _⟩, _, _⟩ := hv'
          exact d3'
        have HT := hide hti
        clear hti ht hrow hjL hxx
        go_wp2
        have fN : (wr.alloc (.cells #[.int .i64 t.kind, .string ⟨t.text.toArray⟩, .int .i64 t.num, .int .i64 t.pos] 36)).heap[wr.heap.size]? = some (.cells #[.int .i64 t.kind, .string ⟨t.text.toArray⟩, .int .i64 t.num, .int .i64 t.pos] 36) := heap_alloc_new' _ _ rfl
        have fP : (wr.alloc (.cells #[.int .i64 t.kind, .string ⟨t.text.toArray⟩, .int .i64 t.num, .int .i64 t.pos] 36)).heap[pb]? = some (.cells #[.int .i64 4, .int .i64 p] 32) := by rw [Below.heap_alloc _ _ _ (by omega)]; exact unhide HF
        have HB5 : Hid (Below w5.heap.size w5 (wr.alloc (.cells #[.int .i64 t.kind, .string ⟨t.text.toArray⟩, .int .i64 t.num, .int .i64 t.pos] 36))) := hide ((unhide hB).alloc (unhide hB).size _)
        have HX5 : Hid (∀ t2, L[j + 1]? = some t2 → (wr.alloc (.cells #[.int .i64 t.kind, .string ⟨t.text.toArray⟩, .int .i64 t.num, .int .i64 t.pos] 36)).cell? ⟨g, (j + 1) * 4 + 3, none⟩ = some (.int .i64 t2.pos)) := hide fun t2 h2 => by
          rw [World.cell?_of_block (w := wr) (a := ⟨g, (j + 1) * 4 + 3, none⟩) (Below.heap_alloc _ _ _ hgl)]
          exact unhide HX t2 h2
        clear hgl d0 d1 d2 d3 HX HF hpw hpb hB
        generalize wr.alloc (.cells #[.int .i64 t.kind, .string ⟨t.text.toArray⟩, .int .i64 t.num, .int .i64 t.pos] 36) = W at fN fP HB5 HX5 ⊢
        generalize wr.heap.size = tb at *
        have FN := hide fN
        have FP := hide fP
        have c0 : W.cell? ⟨tb, 0, none⟩ = some (.int .i64 t.kind) := by rw [World.cell?, fN]; rfl
        have c1 : W.cell? ⟨tb, 1, none⟩ = some (.string ⟨t.text.toArray⟩) := by rw [World.cell?, fN]; rfl
        have c2 : W.cell? ⟨tb, 2, none⟩ = some (.int .i64 t.num) := by rw [World.cell?, fN]; rfl
        have c3 : W.cell? ⟨tb, 3, none⟩ = some (.int .i64 t.pos) := by rw [World.cell?, fN]; rfl
        have q0 : W.cell? ⟨pb, 0, none⟩ = some (.int .i64 4) := by rw [World.cell?, fP]; rfl
        have q1 : W.cell? ⟨pb, 1, none⟩ = some (.int .i64 p) := by rw [World.cell?, fP]; rfl
        clear fN fP
        have HSA := hide (fun (x : ByteArray) (wx : World) => ScanR_any x wx)
        by_cases hpp : t.pos = p
        · rw [hpp] at c3
          have HPP := hide hpp
          clear hpp
          by_cases hnx : j + 1 < n
          · have hnxi : (j : Int) + 1 < (n : Int) := by omega
            have hjL : j + 1 < L.length := by have := unhide HN; omega
            obtain ⟨t2, ht2⟩ : ∃ t2, L[j + 1]? = some t2 := ⟨_, List.getElem?_eq_getElem hjL⟩
            obtain ⟨en, hen, hel⟩ := tok_pos _ _ _ (unhide HL) t2 (List.mem_of_getElem? ht2)
            have x3 := unhide HX5 t2 ht2
            rw [hen] at x3
            rw [toL_len] at hel
            have HE : Hid (L[j + 1]? = some t2 ∧ t2.pos = (en : Int)) := hide ⟨ht2, hen⟩
            clear hjL ht2 hen
            by_cases hq : (en : Int) = p
            · have hqb : ((en : Int) == p) = true := by simpa using hq
              go_quiet (fail)
              go_wp2
              go_roundw
              case rel => exact ⟨j + 1, by omega, by go_num, hide (bdN (unhide HB5) _)⟩
              case measure => simp [intOf]; omega
            · have hqb : ((en : Int) == p) = false := by simpa using hq
              go_quiet (fail)
              have HB6 : Hid (Below w5.heap.size w5 (W.drewN nq)) := hide (bdN (unhide HB5) _)
              have FN6 : Hid ((W.drewN nq).heap[tb]? = some (.cells #[.int .i64 t.kind, .string ⟨t.text.toArray⟩, .int .i64 t.num, .int .i64 p] 36)) := hide (by rw [← unhide HPP]; exact unhide FN)
              have FP6 : Hid ((W.drewN nq).heap[pb]? = some (.cells #[.int .i64 4, .int .i64 p] 32)) := hide (unhide FP)
              have HX6 : Hid (∀ t2, L[j + 1]? = some t2 → (W.drewN nq).cell? ⟨g, (j + 1) * 4 + 3, none⟩ = some (.int .i64 t2.pos)) := hide (unhide HX5)
              have x36 : (W.drewN nq).cell? ⟨g, (j + 1) * 4 + 3, none⟩ = some (.int .i64 (en : Int)) := x3
              generalize W.drewN nq = W2 at *
              clear c0 c1 c2 c3 q0 q1 FN FP HX5
              go_wp2_with (go_at_call 13; refine (unhide HSA _ _).mono ?_; rintro e u3 ⟨v3, rfl, ho3, hb3⟩; have HO3 := hide ho3; have HB7 := hide hb3; clear ho3 hb3)
              obtain ⟨x, hx⟩ : ∃ x, x = s.extract 0 en ++ (⟨#[10]⟩ : ByteArray) ++ s' := ⟨_, rfl⟩
              rw [← hx] at HO3 ⊢
              have HK : Hid (∀ L' q', lexR x.toList = (L', 0, q') → L'[j]? = some t → runF L' = .bad p) := hide fun L' q' h1 h2 => by
                rw [hx, ext_list] at h1
                exact cuts_pure s.toList s'.toList L L' q q' p j en t (unhide HL) (unhide HR) (unhide HT) (unhide HPP) (fun t3 h3 => by rw [(unhide HE).1] at h3; cases h3; exact ⟨by rw [(unhide HE).2]; exact hq, (unhide HE).2⟩) (fun h3 => by rw [(unhide HE).1] at h3; cases h3) h1 h2
              clear hx
              obtain ⟨L', g', q', hL'⟩ : ∃ L' g' q', lexR x.toList = (L', g', q') := ⟨_, _, _, rfl⟩
              rw [hL'] at HO3 ⊢
              obtain ⟨a3, cp3, rfl, hcp3⟩ := row_form (unhide HO3)
              have hle2 : W2.heap.size ≤ u3.heap.size := (unhide HB7).size
              have htb : tb < W2.heap.size := by
                rcases Nat.lt_or_ge tb W2.heap.size with h1 | h1
                · exact h1
                · have := unhide FN6; rw [Array.getElem?_eq_none h1] at this; cases this
              have hpb : pb < W2.heap.size := by
                rcases Nat.lt_or_ge pb W2.heap.size with h1 | h1
                · exact h1
                · have := unhide FP6; rw [Array.getElem?_eq_none h1] at this; cases this
              have fN : (u3.alloc (.cells #[.int .i64 g', .int .i64 q'] 32)).heap[tb]? = some (.cells #[.int .i64 t.kind, .string ⟨t.text.toArray⟩, .int .i64 t.num, .int .i64 p] 36) := blk_alloc (((unhide HB7).block tb htb).trans (unhide FN6)) _
              have fP : (u3.alloc (.cells #[.int .i64 g', .int .i64 q'] 32)).heap[pb]? = some (.cells #[.int .i64 4, .int .i64 p] 32) := blk_alloc (((unhide HB7).block pb hpb).trans (unhide FP6)) _
              have fG : (u3.alloc (.cells #[.int .i64 g', .int .i64 q'] 32)).heap[u3.heap.size]? = some (.cells #[.int .i64 g', .int .i64 q'] 32) := heap_alloc_new' _ _ rfl
              have HB8 : Hid (Below w5.heap.size w5 (u3.alloc (.cells #[.int .i64 g', .int .i64 q'] 32))) := hide (by
                have h1 := (unhide HB6).trans ((unhide HB7).mono (unhide HB6).size)
                exact h1.alloc h1.size _)
              have HO8 : Hid ((u3.alloc (.cells #[.int .i64 g', .int .i64 q'] 32)).ownsRow W2.heap.size 36 4 (.slice a3 L'.length cp3) L'.length (toksCells L')) := hide ((unhide HO3).alloc _)
              clear HO3 HB7 HB6 FN6 FP6 HX6 hle2 htb hpb
              generalize u3.alloc (.cells #[.int .i64 g', .int .i64 q'] 32) = W3 at *
              generalize u3.heap.size = gb at *
              have FP := hide fP
              have c0 : W3.cell? ⟨tb, 0, none⟩ = some (.int .i64 t.kind) := by rw [World.cell?, fN]; rfl
              have c1 : W3.cell? ⟨tb, 1, none⟩ = some (.string ⟨t.text.toArray⟩) := by rw [World.cell?, fN]; rfl
              have c2 : W3.cell? ⟨tb, 2, none⟩ = some (.int .i64 t.num) := by rw [World.cell?, fN]; rfl
              have c3 : W3.cell? ⟨tb, 3, none⟩ = some (.int .i64 p) := by rw [World.cell?, fN]; rfl
              have m0 : W3.cell? ⟨gb, 0, none⟩ = some (.int .i64 g') := by rw [World.cell?, fG]; rfl
              clear fN fP fG
              have HW5 : Hid (∀ X, Below w5.heap.size w5 X → Below w.heap.size w X) := hide fun X hX => (unhide HW).1.trans (hX.mono (unhide HW).1.size)
              by_cases hg : g' = 0
              · subst hg
                by_cases hlen : L'.length ≤ j
                · have hleni : (L'.length : Int) ≤ (j : Int) := by omega
                  go_quiet (fail)
                  go_wp2
                  go_ret
                  exact ⟨rfl, unhide HW5 _ (bdN (unhide HB8) _)⟩
                · have hleni : ¬ (L'.length : Int) ≤ (j : Int) := by omega
                  obtain ⟨t', ht'⟩ : ∃ t', L'[j]? = some t' := ⟨_, List.getElem?_eq_getElem (by omega)⟩
                  obtain ⟨g3, cap3, hv3, _, _, e0, e1, e2, e3⟩ := tok_cells (unhide HO8) j t' ht'
                  simp only [Value.slice.injEq] at hv3
                  obtain ⟨rfl, _, rfl⟩ := hv3
                  by_cases heq : t'.kind = t.kind ∧ t'.text = t.text ∧ t'.num = t.num ∧ t'.pos = p
                  · obtain ⟨h1, h2, h3, h4⟩ := heq
                    obtain rfl : t' = t := by
                      have h5 := unhide HPP
                      cases t; cases t'
                      simp only at h1 h2 h3 h4 h5
                      subst h1 h2 h3 h4 h5
                      rfl
                    rw [h4] at e3
                    have hneq : ∀ wx, (binOp .neq 36 (.agg #[.int .i64 t'.kind, .string ⟨t'.text.toArray⟩, .int .i64 t'.num, .int .i64 p]) (.agg #[.int .i64 t'.kind, .string ⟨t'.text.toArray⟩, .int .i64 t'.num, .int .i64 p])).run Tryz.prog wx = .ok (.bool false) wx := fun wx => by rw [neq36]; simp
                    have HPX : Hid (∀ wx, Vars wx → Calls Tryz.prog 15 #[.string x] wx fun e w' => Below wx.heap.size wx w' ∧ ∃ (kd : Int) (tx : ByteArray) (nm ps : Int) (ao : Option Addr) (n cp : Nat), e = .returned (.tuple #[.agg #[.int .i64 kd, .string tx, .int .i64 nm, .int .i64 ps, .string ⟨#[]⟩, .int .i64 0, .slice ao n cp], .agg #[.int .i64 4, .int .i64 p]])) := hide fun wx hwx => by
                      have h6 := Parse_faultC x wx hwx
                      rw [faultC_bad x.toList L' q' p hL' (unhide HK L' q' hL' ht')] at h6
                      exact h6
                    clear h1 h2 h3 h4 ht' hL'
                    go_quiet (fail)
                    have HB9 : Hid (Below w5.heap.size w5 (W3.drewN nq)) := hide (bdN (unhide HB8) _)
                    have FP9 : Hid ((W3.drewN nq).heap[pb]? = some (.cells #[.int .i64 4, .int .i64 p] 32)) := hide (unhide FP)
                    clear c0 c1 c2 c3 m0 e0 e1 e2 e3 hneq HB8 FP HO8
                    generalize W3.drewN nq = W4 at *
                    have HV4 : Hid (Vars W4) := hide ((unhide HV).below (B := w.heap.size) (by have := (unhide HV).lt; omega) (unhide HW5 _ (unhide HB9)))
                    go_wp2_with (go_at_call 15; with_reducible refine (unhide HPX W4 (unhide HV4)).mono ?_; rintro e u4 ⟨hb4, kd4, tx4, nm4, ps4, ao4, n4, cp4, rfl⟩; have fz : ((u4.alloc (.cells #[.int .i64 kd4, .string tx4, .int .i64 nm4, .int .i64 ps4, .string ⟨#[]⟩, .int .i64 0, .slice ao4 n4 cp4] 24)).alloc (.cells #[.int .i64 4, .int .i64 p] 32)).heap[pb]? = some (.cells #[.int .i64 4, .int .i64 p] 32) := blk_alloc (blk_alloc ((hb4.block pb (b_hlt (unhide FP9))).trans (unhide FP9)) _) _; have z0 : ((u4.alloc (.cells #[.int .i64 kd4, .string tx4, .int .i64 nm4, .int .i64 ps4, .string ⟨#[]⟩, .int .i64 0, .slice ao4 n4 cp4] 24)).alloc (.cells #[.int .i64 4, .int .i64 p] 32)).cell? ⟨pb, 0, none⟩ = some (.int .i64 4) := (cellsC fz).1; have z1 : ((u4.alloc (.cells #[.int .i64 kd4, .string tx4, .int .i64 nm4, .int .i64 ps4, .string ⟨#[]⟩, .int .i64 0, .slice ao4 n4 cp4] 24)).alloc (.cells #[.int .i64 4, .int .i64 p] 32)).cell? ⟨pb, 1, none⟩ = some (.int .i64 p) := (cellsC fz).2; have HB10 := hide hb4; clear hb4 fz)
                    go_ret
                    have h7 := (unhide HB9).trans ((unhide HB10).mono (unhide HB9).size)
                    exact ⟨rfl, unhide HW5 _ ((h7.alloc h7.size _).alloc (h7.alloc h7.size _).size _)⟩
                  · have hneq : ∀ wx, (binOp .neq 36 (.agg #[.int .i64 t'.kind, .string ⟨t'.text.toArray⟩, .int .i64 t'.num, .int .i64 t'.pos]) (.agg #[.int .i64 t.kind, .string ⟨t.text.toArray⟩, .int .i64 t.num, .int .i64 p])).run Tryz.prog wx = .ok (.bool true) wx := fun wx => by
                      rw [neq36, ByteArray.toList_mk, ByteArray.toList_mk]
                      have : (decide (t'.kind = t.kind) && (decide (t'.text = t.text) && (decide (t'.num = t.num) && decide (t'.pos = p)))) = false := by
                        simpa only [Bool.and_eq_false_iff, decide_eq_false_iff_not, ← Classical.not_and_iff_not_or_not] using heq
                      rw [this]; rfl
                    clear heq
                    go_quiet (fail)
                    go_wp2
                    go_ret
                    exact ⟨rfl, unhide HW5 _ (bdN (unhide HB8) _)⟩
              · have hgb : (g' != 0) = true := by simpa using hg
                go_quiet (fail)
                go_wp2
                go_ret
                exact ⟨rfl, unhide HW5 _ (bdN (unhide HB8) _)⟩
          · have hnxi : ¬ (j : Int) + 1 < (n : Int) := by omega
            go_quiet (fail)
            have HB6 : Hid (Below w5.heap.size w5 (W.drewN nq)) := hide (bdN (unhide HB5) _)
            have FN6 : Hid ((W.drewN nq).heap[tb]? = some (.cells #[.int .i64 t.kind, .string ⟨t.text.toArray⟩, .int .i64 t.num, .int .i64 p] 36)) := hide (by rw [← unhide HPP]; exact unhide FN)
            have FP6 : Hid ((W.drewN nq).heap[pb]? = some (.cells #[.int .i64 4, .int .i64 p] 32)) := hide (unhide FP)
            have HX6 : Hid (∀ t2, L[j + 1]? = some t2 → (W.drewN nq).cell? ⟨g, (j + 1) * 4 + 3, none⟩ = some (.int .i64 t2.pos)) := hide (unhide HX5)
            generalize W.drewN nq = W2 at *
            clear c0 c1 c2 c3 q0 q1 FN FP HX5
            go_wp2_with (go_at_call 13; refine (unhide HSA _ _).mono ?_; rintro e u3 ⟨v3, rfl, ho3, hb3⟩; have HO3 := hide ho3; have HB7 := hide hb3; clear ho3 hb3)
            obtain ⟨x, hx⟩ : ∃ x, x = s ++ (⟨#[10]⟩ : ByteArray) ++ s' := ⟨_, rfl⟩
            rw [← hx] at HO3 ⊢
            have HK : Hid (∀ L' q', lexR x.toList = (L', 0, q') → L'[j]? = some t → runF L' = .bad p) := hide fun L' q' h1 h2 => by
              rw [hx, ext_all] at h1
              exact cuts_pure s.toList s'.toList L L' q q' p j s.size t (unhide HL) (unhide HR) (unhide HT) (unhide HPP) (fun t3 h3 => by rw [List.getElem?_eq_none (by have := unhide HN; omega)] at h3; cases h3) (fun _ => (toL_len s).symm) h1 h2
            clear hx
            obtain ⟨L', g', q', hL'⟩ : ∃ L' g' q', lexR x.toList = (L', g', q') := ⟨_, _, _, rfl⟩
            rw [hL'] at HO3 ⊢
            obtain ⟨a3, cp3, rfl, hcp3⟩ := row_form (unhide HO3)
            have hle2 : W2.heap.size ≤ u3.heap.size := (unhide HB7).size
            have htb : tb < W2.heap.size := by
              rcases Nat.lt_or_ge tb W2.heap.size with h1 | h1
              · exact h1
              · have := unhide FN6; rw [Array.getElem?_eq_none h1] at this; cases this
            have hpb : pb < W2.heap.size := by
              rcases Nat.lt_or_ge pb W2.heap.size with h1 | h1
              · exact h1
              · have := unhide FP6; rw [Array.getElem?_eq_none h1] at this; cases this
            have fN : (u3.alloc (.cells #[.int .i64 g', .int .i64 q'] 32)).heap[tb]? = some (.cells #[.int .i64 t.kind, .string ⟨t.text.toArray⟩, .int .i64 t.num, .int .i64 p] 36) := blk_alloc (((unhide HB7).block tb htb).trans (unhide FN6)) _
            have fP : (u3.alloc (.cells #[.int .i64 g', .int .i64 q'] 32)).heap[pb]? = some (.cells #[.int .i64 4, .int .i64 p] 32) := blk_alloc (((unhide HB7).block pb hpb).trans (unhide FP6)) _
            have fG : (u3.alloc (.cells #[.int .i64 g', .int .i64 q'] 32)).heap[u3.heap.size]? = some (.cells #[.int .i64 g', .int .i64 q'] 32) := heap_alloc_new' _ _ rfl
            have HB8 : Hid (Below w5.heap.size w5 (u3.alloc (.cells #[.int .i64 g', .int .i64 q'] 32))) := hide (by
              have h1 := (unhide HB6).trans ((unhide HB7).mono (unhide HB6).size)
              exact h1.alloc h1.size _)
            have HO8 : Hid ((u3.alloc (.cells #[.int .i64 g', .int .i64 q'] 32)).ownsRow W2.heap.size 36 4 (.slice a3 L'.length cp3) L'.length (toksCells L')) := hide ((unhide HO3).alloc _)
            clear HO3 HB7 HB6 FN6 FP6 HX6 hle2 htb hpb
            generalize u3.alloc (.cells #[.int .i64 g', .int .i64 q'] 32) = W3 at *
            generalize u3.heap.size = gb at *
            have FP := hide fP
            have c0 : W3.cell? ⟨tb, 0, none⟩ = some (.int .i64 t.kind) := by rw [World.cell?, fN]; rfl
            have c1 : W3.cell? ⟨tb, 1, none⟩ = some (.string ⟨t.text.toArray⟩) := by rw [World.cell?, fN]; rfl
            have c2 : W3.cell? ⟨tb, 2, none⟩ = some (.int .i64 t.num) := by rw [World.cell?, fN]; rfl
            have c3 : W3.cell? ⟨tb, 3, none⟩ = some (.int .i64 p) := by rw [World.cell?, fN]; rfl
            have m0 : W3.cell? ⟨gb, 0, none⟩ = some (.int .i64 g') := by rw [World.cell?, fG]; rfl
            clear fN fP fG
            have HW5 : Hid (∀ X, Below w5.heap.size w5 X → Below w.heap.size w X) := hide fun X hX => (unhide HW).1.trans (hX.mono (unhide HW).1.size)
            by_cases hg : g' = 0
            · subst hg
              by_cases hlen : L'.length ≤ j
              · have hleni : (L'.length : Int) ≤ (j : Int) := by omega
                go_quiet (fail)
                go_wp2
                go_ret
                exact ⟨rfl, unhide HW5 _ (bdN (unhide HB8) _)⟩
              · have hleni : ¬ (L'.length : Int) ≤ (j : Int) := by omega
                obtain ⟨t', ht'⟩ : ∃ t', L'[j]? = some t' := ⟨_, List.getElem?_eq_getElem (by omega)⟩
                obtain ⟨g3, cap3, hv3, _, _, e0, e1, e2, e3⟩ := tok_cells (unhide HO8) j t' ht'
                simp only [Value.slice.injEq] at hv3
                obtain ⟨rfl, _, rfl⟩ := hv3
                by_cases heq : t'.kind = t.kind ∧ t'.text = t.text ∧ t'.num = t.num ∧ t'.pos = p
                · obtain ⟨h1, h2, h3, h4⟩ := heq
                  obtain rfl : t' = t := by
                    have h5 := unhide HPP
                    cases t; cases t'
                    simp only at h1 h2 h3 h4 h5
                    subst h1 h2 h3 h4 h5
                    rfl
                  rw [h4] at e3
                  have hneq : ∀ wx, (binOp .neq 36 (.agg #[.int .i64 t'.kind, .string ⟨t'.text.toArray⟩, .int .i64 t'.num, .int .i64 p]) (.agg #[.int .i64 t'.kind, .string ⟨t'.text.toArray⟩, .int .i64 t'.num, .int .i64 p])).run Tryz.prog wx = .ok (.bool false) wx := fun wx => by rw [neq36]; simp
                  have HPX : Hid (∀ wx, Vars wx → Calls Tryz.prog 15 #[.string x] wx fun e w' => Below wx.heap.size wx w' ∧ ∃ (kd : Int) (tx : ByteArray) (nm ps : Int) (ao : Option Addr) (n cp : Nat), e = .returned (.tuple #[.agg #[.int .i64 kd, .string tx, .int .i64 nm, .int .i64 ps, .string ⟨#[]⟩, .int .i64 0, .slice ao n cp], .agg #[.int .i64 4, .int .i64 p]])) := hide fun wx hwx => by
                    have h6 := Parse_faultC x wx hwx
                    rw [faultC_bad x.toList L' q' p hL' (unhide HK L' q' hL' ht')] at h6
                    exact h6
                  clear h1 h2 h3 h4 ht' hL'
                  go_quiet (fail)
                  have HB9 : Hid (Below w5.heap.size w5 (W3.drewN nq)) := hide (bdN (unhide HB8) _)
                  have FP9 : Hid ((W3.drewN nq).heap[pb]? = some (.cells #[.int .i64 4, .int .i64 p] 32)) := hide (unhide FP)
                  clear c0 c1 c2 c3 m0 e0 e1 e2 e3 hneq HB8 FP HO8
                  generalize W3.drewN nq = W4 at *
                  have HV4 : Hid (Vars W4) := hide ((unhide HV).below (B := w.heap.size) (by have := (unhide HV).lt; omega) (unhide HW5 _ (unhide HB9)))
                  go_wp2_with (go_at_call 15; with_reducible refine (unhide HPX W4 (unhide HV4)).mono ?_; rintro e u4 ⟨hb4, kd4, tx4, nm4, ps4, ao4, n4, cp4, rfl⟩; have fz : ((u4.alloc (.cells #[.int .i64 kd4, .string tx4, .int .i64 nm4, .int .i64 ps4, .string ⟨#[]⟩, .int .i64 0, .slice ao4 n4 cp4] 24)).alloc (.cells #[.int .i64 4, .int .i64 p] 32)).heap[pb]? = some (.cells #[.int .i64 4, .int .i64 p] 32) := blk_alloc (blk_alloc ((hb4.block pb (b_hlt (unhide FP9))).trans (unhide FP9)) _) _; have z0 : ((u4.alloc (.cells #[.int .i64 kd4, .string tx4, .int .i64 nm4, .int .i64 ps4, .string ⟨#[]⟩, .int .i64 0, .slice ao4 n4 cp4] 24)).alloc (.cells #[.int .i64 4, .int .i64 p] 32)).cell? ⟨pb, 0, none⟩ = some (.int .i64 4) := (cellsC fz).1; have z1 : ((u4.alloc (.cells #[.int .i64 kd4, .string tx4, .int .i64 nm4, .int .i64 ps4, .string ⟨#[]⟩, .int .i64 0, .slice ao4 n4 cp4] 24)).alloc (.cells #[.int .i64 4, .int .i64 p] 32)).cell? ⟨pb, 1, none⟩ = some (.int .i64 p) := (cellsC fz).2; have HB10 := hide hb4; clear hb4 fz)
                  go_ret
                  have h7 := (unhide HB9).trans ((unhide HB10).mono (unhide HB9).size)
                  exact ⟨rfl, unhide HW5 _ ((h7.alloc h7.size _).alloc (h7.alloc h7.size _).size _)⟩
                · have hneq : ∀ wx, (binOp .neq 36 (.agg #[.int .i64 t'.kind, .string ⟨t'.text.toArray⟩, .int .i64 t'.num, .int .i64 t'.pos]) (.agg #[.int .i64 t.kind, .string ⟨t.text.toArray⟩, .int .i64 t.num, .int .i64 p])).run Tryz.prog wx = .ok (.bool true) wx := fun wx => by
                    rw [neq36, ByteArray.toList_mk, ByteArray.toList_mk]
                    have : (decide (t'.kind = t.kind) && (decide (t'.text = t.text) && (decide (t'.num = t.num) && decide (t'.pos = p)))) = false := by
                      simpa only [Bool.and_eq_false_iff, decide_eq_false_iff_not, ← Classical.not_and_iff_not_or_not] using heq
                    rw [this]; rfl
                  clear heq
                  go_quiet (fail)
                  go_wp2
                  go_ret
                  exact ⟨rfl, unhide HW5 _ (bdN (unhide HB8) _)⟩
            · have hgb : (g' != 0) = true := by simpa using hg
              go_quiet (fail)
              go_wp2
              go_ret
              exact ⟨rfl, unhide HW5 _ (bdN (unhide HB8) _)⟩
        · have hnb : (t.pos != p) = true := by simpa using hpp
          go_quiet (fail)
          go_wp2
          go_roundw
          case rel => exact ⟨j + 1, by omega, by go_num, hide (bdN (unhide HB5) _)⟩
          case measure => simp [intOf]; omega
      · have hje : j = n := by omega
        subst hje
        have hji : ¬ (j : Int) < (j : Int) := by omega
        go_wp2
        go_ret
        exact ⟨rfl, (unhide HW).1.trans ((unhide hB).mono (unhide HW).1.size)⟩
  · have hgb : (st != 4) = true := by simpa using hst
    go_enter Tryz.func5, Tryz.ntmps5
    go_wp2_with (first | (go_at_call 7; refine (unhide HA).mono ?_; rintro e w1 ⟨rfl, hb1⟩; have HB1 := hide hb1; have HV1 : Hid (Vars w1) := hide ((unhide HV).below (B := w.heap.size) (by have := (unhide HV).lt; omega) hb1); clear hb1) | (go_at_call 15; with_reducible refine (unhide HP w1 (unhide HV1)).mono ?_; rintro e u1 ⟨hb2, kd, tx, nm, ps, ao, n0, cp, rfl⟩; have HB2 := hide hb2; clear hb2))
    go_ret
    have b0 := (unhide HB1).trans ((unhide HB2).mono (unhide HB1).size)
    exact ⟨rfl, (b0.alloc b0.size _).alloc (b0.alloc b0.size _).size _⟩
theorem cuts_any (s s' : ByteArray) (w : World) (hv : Vars w) : Calls Tryz.prog 5 #[.string s, .string s'] w fun e w' => e = .returned (.bool true) ∧ Below w.heap.size w w' := by
  by_cases h : 4000 < s.size ∨ 4000 < s'.size
  · exact cuts_big s s' w hv h
  · exact cuts_in s s' w hv (by omega) (by omega)
end Go.Proofs.YtgckmkiiheaeaaaGreatDoor
