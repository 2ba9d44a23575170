/- Print, walked. -/
import Derived.Test.YtipnefogflpkhaaDoorAg0
set_option linter.unusedVariables false
set_option linter.unusedSimpArgs false
namespace Go.Proofs.YtipnefogflpkhaaDoor
open Go.RowKit
def textP (j : Nat) (s : ByteArray) : List Part := [.s ⟨#[116, 101, 120, 116, 32]⟩, .n j, .s ⟨#[32]⟩, .s ⟨(quotedT s).toArray⟩]
def textT (l : List ByteArray) (j : Nat) : List UInt8 := lineT (textP j (l.getD j default))
def funcT (l : List Fnc) (j : Nat) : List UInt8 := fncT (j + 1) (l.getD j default)
def mainP (z : Int) : List Part := [.s ⟨#[109, 97, 105, 110, 32]⟩, .n z]
def printT (x : Prg) : List UInt8 := cat (textT x.texts) x.texts.length ++ (cat (funcT x.funcs) x.funcs.length ++ lineT (mainP x.main))
theorem textT_at {l : List ByteArray} {i : Nat} (h : i < l.length) : textT l i = lineT (textP i l[i]) := by
  unfold textT
  rw [List.getD_eq_getElem?_getD, List.getElem?_eq_getElem h]
  rfl
theorem funcT_at {l : List Fnc} {i : Nat} (h : i < l.length) : funcT l i = fncT (i + 1) l[i] := by
  unfold funcT
  rw [List.getD_eq_getElem?_getD, List.getElem?_eq_getElem h]
  rfl
/-- A line whose parts have just been laid in a block of their own. -/
theorem St.line {W0 : World} {B b : Nat} {l : List UInt8} {w0 w : World} (h : St false B b l w0 w) (hE : Env W0 w0 B) (ps : List Part) (V : Array Value) (n : Nat) (hn : ps.length = n) (hn2 : n ≤ 281474976710656) (hv : ∀ j (h : j < ps.length), ∃ v, V[j]? = some v ∧ PartV B w ps[j] v) {l' : List UInt8} (hl' : l ++ lineT ps = l') (hl : l'.length ≤ lim) :
    Calls Tryd.prog 13 #[.pointer (some ⟨b, 0, none⟩), .slice (some ⟨w.heap.size, 0, none⟩) n n] (w.alloc (.cells V 20)) fun e w' => StP false B b l' w0 e w' := by
  subst hn
  have HS := h.alloc (.cells V 20)
  have hlt := h.wr.ty.lt
  have hB := h.wr.size
  refine (line_any W0 B b l ps w.heap.size ps.length _ (HS.env hE) HS.wr ⟨by omega, V, 20, (0, 0), by decide, heap_alloc_new w _, fun j hj => ?_⟩ hn2 hl' hl).mono ?_
  · obtain ⟨v, h1, h2⟩ := hv j hj
    exact ⟨v, h1, h2.same fun k hk => Below.heap_alloc _ _ _ (by omega)⟩
  · rintro e w' ⟨hv, h2⟩
    exact ⟨hv, HS.put ⟨hv, h2.wr, h2.wf⟩⟩
theorem start_false (w : World) (o : Obj) : St false (w.heap.size + 1) (w.heap.size + 1) [] ((w.alloc o).alloc (.cells #[.pointer none, .slice none 0 0] 49)) ((w.alloc o).alloc (.cells #[.pointer none, .slice none 0 0] 49)) := by
  refine Wr.st ⟨.inl ⟨Nat.le_refl _, .slice none 0 0, ?_, World.ownsRowF_nil _ _ _ _, by simp [Value.ownBlock]⟩, by simp⟩
  have := heap_alloc_new (w.alloc o) (.cells #[.pointer none, .slice none 0 0] 49)
  have e : (w.alloc o).heap.size = w.heap.size + 1 := by simp
  rw [e] at this
  exact this
def PrP (t : List UInt8) (w : World) (e : Ending) (w' : World) : Prop := e = .returned (.string ⟨t.toArray⟩) ∧ w.grownBy w' none
set_option maxRecDepth 100000 in
set_option maxHeartbeats 8000000 in
theorem Print_any (W0 : World) (x : Prg) (cs : List Value) (w : World) (hE : Env W0 w w.heap.size) (hN : ∀ w', Below W0.heap.size W0 w' → NamesOk w') (hI : prgC (· < w.heap.size) w x cs) (hl : (printT x).length ≤ lim) (hs : ∀ s ∈ x.texts, s.size ≤ 1000000) :
    Calls Tryd.prog 9 #[.agg cs.toArray] w fun e w' => PrP (printT x) w e w' := by
  obtain ⟨ho, a1, c1, a2, c2, a3, c3, a4, c4, rfl, h1, _, _, h4⟩ := hI
  have n1 := h1.1
  have n4 := h4.1
  obtain ⟨T, hT⟩ : ∃ T : Nat → List UInt8, ∀ i, cat (textT x.texts) i = T i := ⟨_, fun _ => rfl⟩
  obtain ⟨F, hF⟩ : ∃ F : Nat → List UInt8, ∀ i, T x.texts.length ++ cat (funcT x.funcs) i = F i := ⟨_, fun _ => rfl⟩
  have hend : F x.funcs.length ++ lineT (mainP x.main) = printT x := by rw [← hF, ← hT, List.append_assoc]; rfl
  have HTl : Hid (∀ i, i ≤ x.texts.length → (T i).length ≤ lim) := hide (fun i hi => by
    have h1 := cat_le (textT x.texts) hi
    rw [← hend, ← hF, ← hT] at hl
    rw [← hT]
    simp only [List.length_append] at hl ⊢
    omega)
  have HFl : Hid (∀ i, i ≤ x.funcs.length → (F i).length ≤ lim) := hide (fun i hi => by
    have h1 := cat_le (funcT x.funcs) hi
    rw [← hend, ← hF] at hl
    rw [← hF]
    simp only [List.length_append] at hl ⊢
    omega)
  have HTs : Hid (∀ i (h : i < x.texts.length), T i ++ lineT (textP i x.texts[i]) = T (i + 1)) := hide (fun i h => by rw [← hT, ← hT, cat_succ, textT_at h])
  have HFs : Hid (∀ i (h : i < x.funcs.length), F i ++ fncT (i + 1) x.funcs[i] = F (i + 1)) := hide (fun i h => by rw [← hF, ← hF, cat_succ, funcT_at h, List.append_assoc])
  have HF0 : Hid (T x.texts.length = F 0) := hide (by rw [← hF]; simp [cat])
  have HT0 : Hid ([] = T 0) := hide (by rw [← hT]; rfl)
  have HS1 : Hid (∀ i (h : i < x.texts.length), x.texts[i].size ≤ 1000000) := hide (fun i h => hs _ (List.getElem_mem h))
  have HEnd := hide hend
  have HL := hide hl
  obtain ⟨P, hP⟩ : ∃ P, printT x = P := ⟨_, rfl⟩
  rw [hP] at HEnd HL ⊢
  have HS0 := start_false w (.cells #[.slice a1 x.texts.length c1, .slice a2 x.globals.length c2, .slice a3 x.structs.length c3, .slice a4 x.funcs.length c4, .int .i64 x.main] 27)
  have HB : Hid (∀ j, j < w.heap.size → ((w.alloc (.cells #[.slice a1 x.texts.length c1, .slice a2 x.globals.length c2, .slice a3 x.structs.length c3, .slice a4 x.funcs.length c4, .int .i64 x.main] 27)).alloc (.cells #[.pointer none, .slice none 0 0] 49)).heap[j]? = w.heap[j]?) := hide (fun j hj => by
    rw [Below.heap_alloc _ _ _ (by simp; omega), Below.heap_alloc _ _ _ hj])
  have HBl : Hid (Below w.heap.size w ((w.alloc (.cells #[.slice a1 x.texts.length c1, .slice a2 x.globals.length c2, .slice a3 x.structs.length c3, .slice a4 x.funcs.length c4, .int .i64 x.main] 27)).alloc (.cells #[.pointer none, .slice none 0 0] 49))) := hide (((Below.refl w.heap.size w).alloc (Nat.le_refl _) _).alloc (by simp) _)
  have hH : ((w.alloc (.cells #[.slice a1 x.texts.length c1, .slice a2 x.globals.length c2, .slice a3 x.structs.length c3, .slice a4 x.funcs.length c4, .int .i64 x.main] 27)).alloc (.cells #[.pointer none, .slice none 0 0] 49)).heap[w.heap.size]? = some (.cells #[.slice a1 x.texts.length c1, .slice a2 x.globals.length c2, .slice a3 x.structs.length c3, .slice a4 x.funcs.length c4, .int .i64 x.main] 27) := by
    rw [Below.heap_alloc _ _ _ (by simp)]
    exact heap_alloc_new w _
  have HH := hide hH
  have HR1 := hide (textG.row (S' := (· < w.heap.size + 1)) (fun k hk => by omega) (textG.rowS (unhide HB) h1))
  have HR4 := hide (fncG.row (S' := (· < w.heap.size + 1)) (fun k hk => by omega) (fncG.rowS (unhide HB) h4))
  have HE : Hid (Env W0 ((w.alloc (.cells #[.slice a1 x.texts.length c1, .slice a2 x.globals.length c2, .slice a3 x.structs.length c3, .slice a4 x.funcs.length c4, .int .i64 x.main] 27)).alloc (.cells #[.pointer none, .slice none 0 0] 49)) (w.heap.size + 1)) := hide ⟨hE.tab, hE.below.trans ((unhide HBl).mono hE.size), by have := hE.size; omega⟩
  rw [unhide HT0] at HS0
  clear hT hF hend hl hs hP h1 h4 HB hH HT0
  go_enter Tryd.func9, Tryd.ntmps9
  go_wp2
  generalize (w.alloc (.cells #[.slice a1 x.texts.length c1, .slice a2 x.globals.length c2, .slice a3 x.structs.length c3, .slice a4 x.funcs.length c4, .int .i64 x.main] 27)).alloc (.cells #[.pointer none, .slice none 0 0] 49) = W1 at *
  go_loopw [13] (fun t wr => ∃ i : Nat, i ≤ x.texts.length ∧ t = .int .i64 i ∧ St false (w.heap.size + 1) (w.heap.size + 1) (T i) W1 wr) (fun t _ => x.texts.length - (intOf t).toNat)
  case atStart => exact ⟨0, Nat.zero_le _, rfl, HS0⟩
  case round =>
    clear HS0
    obtain ⟨i, hi, rfl, HS⟩ := hrel
    by_cases hlt : i < x.texts.length
    · obtain ⟨rb, off, cs, e1, hS, hc, hcell⟩ := row_get textG (unhide HR1) HS.at hlt
      obtain ⟨_, rfl⟩ := hc
      have hc0 : wr.cell? ⟨rb, off + i, none⟩ = some (.string x.texts[i]) := by have := hcell 0 _ rfl; simpa using this
      have HT := hide ((unhide HTs) i hlt)
      have HP1 := hide ((unhide HTl) (i + 1) (by omega))
      have HQ := hide (quote_any x.texts[i] wr ((unhide HS1) i hlt))
      subst e1
      clear hcell
      generalize x.texts[i] = s at *
      go_wp2_with (go_at_call 14; refine (unhide HQ).mono ?_)
      rintro e w2 ⟨rfl, hg⟩
      have HS2 := HS.grown hg
      have HC := hide (HS2.line (unhide HE) (textP i s) #[.iface 9 (.string ⟨#[116, 101, 120, 116, 32]⟩), .iface 3 (.int .i64 i), .iface 9 (.string ⟨#[32]⟩), .iface 9 (.string ⟨(quotedT s).toArray⟩)] 4 rfl (by decide) (fun j hj => by
        have hj' : j < 4 := hj
        match j, hj' with
        | 0, _ => exact ⟨_, rfl, rfl⟩
        | 1, _ => exact ⟨_, rfl, by unfold okN; omega, rfl⟩
        | 2, _ => exact ⟨_, rfl, rfl⟩
        | 3, _ => exact ⟨_, rfl, rfl⟩) (unhide HT) (unhide HP1))
      clear HS HQ hg HS2
      go_wp2_with (go_at_call 13; refine (unhide HC).mono ?_)
      rintro e w3 ⟨⟨v3, rfl⟩, HS⟩
      clear HC
      go_wp2
      go_roundw
      case rel => exact ⟨i + 1, by omega, by simp, HS⟩
      case measure => simp [intOf]; omega
    · obtain rfl : i = x.texts.length := by omega
      rw [unhide HF0] at HS
      have d3 : wr.cell? ⟨w.heap.size, 3, none⟩ = some (.slice a4 x.funcs.length c4) := by rw [Lib.cell_of_heap ((HS.at _ (by omega)).trans (unhide HH))]; rfl
      go_wp2
      go_loopw [32] (fun t wr => ∃ i : Nat, i ≤ x.funcs.length ∧ t = .int .i64 i ∧ St false (w.heap.size + 1) (w.heap.size + 1) (F i) W1 wr) (fun t _ => x.funcs.length - (intOf t).toNat)
      case atStart => exact ⟨0, Nat.zero_le _, rfl, HS⟩
      case round =>
        clear HS d3
        obtain ⟨i, hi, rfl, HS⟩ := hrel
        by_cases hlt : i < x.funcs.length
        · obtain ⟨rb, off, cs, e1, hS, hc, hcell⟩ := row_get fncG (unhide HR4) HS.at hlt
          have HI := hide hc
          obtain ⟨ho, b1, k1, b2, k2, rfl, hr, hr2⟩ := hc
          have c0 : wr.cell? ⟨rb, off + i * 6, none⟩ = some (.string x.funcs[i].name) := by have := hcell 0 _ rfl; simpa using this
          have c1 : wr.cell? ⟨rb, off + i * 6 + 1, none⟩ = some (.slice b1 x.funcs[i].refs.length k1) := by have := hcell 1 _ rfl; simpa using this
          have c2 : wr.cell? ⟨rb, off + i * 6 + 2, none⟩ = some (.int .i64 x.funcs[i].params) := by have := hcell 2 _ rfl; simpa using this
          have c3 : wr.cell? ⟨rb, off + i * 6 + 3, none⟩ = some (.int .i64 x.funcs[i].captures) := by have := hcell 3 _ rfl; simpa using this
          have c4 : wr.cell? ⟨rb, off + i * 6 + 4, none⟩ = some (.bool x.funcs[i].result) := by have := hcell 4 _ rfl; simpa using this
          have c5 : wr.cell? ⟨rb, off + i * 6 + 5, none⟩ = some (.slice b2 x.funcs[i].code.length k2) := by have := hcell 5 _ rfl; simpa using this
          have HT := hide ((unhide HFs) i hlt)
          have HP1 := hide ((unhide HFl) (i + 1) (by omega))
          subst e1
          clear hcell hr hr2 ho
          generalize x.funcs[i] = y at *
          have HSa := HS.alloc (.cells #[.string y.name, .slice b1 y.refs.length k1, .int .i64 y.params, .int .i64 y.captures, .bool y.result, .slice b2 y.code.length k2] 31)
          have HC : Hid (Calls Tryd.prog 15 #[.pointer (some ⟨w.heap.size + 1, 0, none⟩), .int .i64 ((i : Int) + 1), .agg #[.string y.name, .slice b1 y.refs.length k1, .int .i64 y.params, .int .i64 y.captures, .bool y.result, .slice b2 y.code.length k2]] (wr.alloc (.cells #[.string y.name, .slice b1 y.refs.length k1, .int .i64 y.params, .int .i64 y.captures, .bool y.result, .slice b2 y.code.length k2] 31)) fun e w' => StP false (w.heap.size + 1) (w.heap.size + 1) (F (i + 1)) _ e w') :=
            hide (function_any W0 (w.heap.size + 1) (w.heap.size + 1) (F i) (i + 1) (by unfold okN; omega) y _ _ (HSa.env (unhide HE)) HSa.wr hN (fncG.same (fun k hk => (HSa.at k hk).trans (HS.at k hk).symm) (unhide HI)) (unhide HT) (unhide HP1))
          clear HS
          go_wp2_with (go_at_call 15; refine (unhide HC).mono ?_)
          rintro e w2 ⟨⟨v2, rfl⟩, H2⟩
          have HS := St.put HSa (e := .returned v2) ⟨⟨_, rfl⟩, H2.wr, H2.wf⟩
          clear HC H2 HSa
          go_wp2
          go_roundw
          case rel => exact ⟨i + 1, by omega, by simp, HS⟩
          case measure => simp [intOf]; omega
        · obtain rfl : i = x.funcs.length := by omega
          have d4 : wr.cell? ⟨w.heap.size, 4, none⟩ = some (.int .i64 x.main) := by rw [Lib.cell_of_heap ((HS.at _ (by omega)).trans (unhide HH))]; rfl
          have HC := hide (HS.line (unhide HE) (mainP x.main) #[.iface 9 (.string ⟨#[109, 97, 105, 110, 32]⟩), .iface 3 (.int .i64 x.main)] 2 rfl (by decide) (fun j hj => by
            have hj' : j < 2 := hj
            match j, hj' with
            | 0, _ => exact ⟨_, rfl, rfl⟩
            | 1, _ => exact ⟨_, rfl, ho, rfl⟩) (unhide HEnd) (unhide HL))
          clear HS
          go_wp2_with (go_at_call 13; refine (unhide HC).mono ?_)
          rintro e w3 ⟨⟨v3, rfl⟩, HS⟩
          have HC2 := hide (string_any false _ _ P w3 HS.wr.pb HS.wr.size)
          have HB : Hid (Below w.heap.size w w3) := hide ((unhide HBl).trans (HS.wf.below.mono (by omega)))
          clear HC HS
          go_wp2_with (go_at_call 16; refine (unhide HC2).mono ?_)
          rintro e w4 ⟨rfl, hb⟩
          have HG : Hid (w.grownBy w4 none) := hide (by
            have h := (unhide HB).trans (hb.mono (by omega))
            exact ⟨h.os, h.tape, h.output, h.size, fun k hk _ => h.block k hk⟩)
          clear HC2 hb
          go_wp2
          go_ret
          exact ⟨rfl, unhide HG⟩
end Go.Proofs.YtipnefogflpkhaaDoor
