/- function, walked. -/
import Derived.Test.YtipnefogflpkhaaDoorAe2
set_option linter.unusedVariables false
set_option linter.unusedSimpArgs false
namespace Go.Proofs.YtipnefogflpkhaaDoor
open Go.RowKit
def insF (j : Nat) (x : Ins) : List Part := insP j x (us (nrm x.op)).size
instance : Inhabited Ins := ⟨⟨0, 0, 0, 0, 0, []⟩⟩
instance : Inhabited Fnc := ⟨⟨default, [], 0, 0, false, []⟩⟩
def nameB (s : ByteArray) : ByteArray := if s.size = 0 then ⟨#[45]⟩ else s
def resB (r : Bool) : ByteArray := if r then ⟨#[32, 114, 101, 115, 117, 108, 116]⟩ else ⟨#[]⟩
def fncP (k : Nat) (f : Fnc) : List Part := [.s ⟨#[102, 117, 110, 99, 32]⟩, .n k, .s ⟨#[32]⟩, .s (nameB f.name), .s ⟨#[32, 112, 97, 114, 97, 109, 115, 32]⟩, .n f.params, .s ⟨#[32, 99, 97, 112, 116, 117, 114, 101, 115, 32]⟩, .n f.captures, .s ⟨#[32, 114, 101, 103, 105, 115, 116, 101, 114, 115, 32]⟩, .r f.refs, .s (resB f.result)]
def codeT (f : Fnc) (j : Nat) : List UInt8 := lineT (insF j (f.code.getD j default))
def fncT (k : Nat) (f : Fnc) : List UInt8 := lineT (fncP k f) ++ cat (codeT f) f.code.length
theorem size_ne {s : ByteArray} : (s.size = 0) → s = ⟨#[]⟩ := by
  intro h
  cases s with
  | mk d => 
    have : d = #[] := Array.eq_empty_of_size_eq_zero h
    rw [this]
def fncV (k : Nat) (x : Fnc) (a1 : Option Addr) (c1 : Nat) (s r : ByteArray) : Array Value := #[.iface 9 (.string ⟨#[102, 117, 110, 99, 32]⟩), .iface 3 (.int .i64 k), .iface 9 (.string ⟨#[32]⟩), .iface 9 (.string s), .iface 9 (.string ⟨#[32, 112, 97, 114, 97, 109, 115, 32]⟩), .iface 3 (.int .i64 x.params), .iface 9 (.string ⟨#[32, 99, 97, 112, 116, 117, 114, 101, 115, 32]⟩), .iface 3 (.int .i64 x.captures), .iface 9 (.string ⟨#[32, 114, 101, 103, 105, 115, 116, 101, 114, 115, 32]⟩), .iface 61 (.slice a1 x.refs.length c1), .iface 9 (.string r)]
def FlP (B b : Nat) (l' : List UInt8) (w : World) (cs1 : Array Value) (e : Ending) (w' : World) : Prop := StP false B b l' w e w' ∧ w'.heap[w.heap.size]? = some (.cells cs1 31)
theorem fnc_line {W0 : World} {B b : Nat} {l : List UInt8} {k : Nat} (hk : okN k) {x : Fnc} {a1 : Option Addr} {c1 : Nat} {w : World} (cs1 : Array Value) (hE : Env W0 w B) (h : Wr false B b l w) (ho : okN x.params ∧ okN x.captures) (hr : RowOf flagC 1 (· < B) w x.refs a1) (s r : ByteArray) (hs : nameB x.name = s) (hr' : resB x.result = r)
    {l' : List UInt8} (hl' : l ++ lineT (fncP k x) = l') (hl : l'.length ≤ lim) :
    Calls Tryd.prog 13 #[.pointer (some ⟨b, 0, none⟩), .slice (some ⟨w.heap.size + 1, 0, none⟩) 11 11] ((w.alloc (.cells cs1 31)).alloc (.cells (fncV k x a1 c1 s r) 20)) fun e w' => FlP B b l' w cs1 e w' := by
  have hB := h.size
  have hlt := h.ty.lt
  have HS : St false B b l w ((w.alloc (.cells cs1 31)).alloc (.cells (fncV k x a1 c1 s r) 20)) := (h.st.alloc _).alloc _
  have hrow : RowOf flagC 1 (· < B) ((w.alloc (.cells cs1 31)).alloc (.cells (fncV k x a1 c1 s r) 20)) x.refs a1 := flagG.rowS HS.at hr
  refine (line_any W0 B b l (fncP k x) (w.heap.size + 1) 11 _ (HS.env hE) HS.wr ⟨by omega, fncV k x a1 c1 s r, 20, (0, 0), by decide, ?_, fun j hj => ?_⟩ (by show 11 ≤ _; decide) hl' hl).mono ?_
  · have := heap_alloc_new (w.alloc (.cells cs1 31)) (.cells (fncV k x a1 c1 s r) 20)
    simpa using this
  · unfold fncP at hj ⊢
    simp only [List.length_cons, List.length_nil] at hj
    match j, hj with
    | 0, _ => exact ⟨_, rfl, rfl⟩
    | 1, _ => exact ⟨_, rfl, hk, rfl⟩
    | 2, _ => exact ⟨_, rfl, rfl⟩
    | 3, _ => exact ⟨_, rfl, by show Value.iface 9 (.string s) = .iface 9 (.string (nameB x.name)); rw [hs]⟩
    | 4, _ => exact ⟨_, rfl, rfl⟩
    | 5, _ => exact ⟨_, rfl, ho.1, rfl⟩
    | 6, _ => exact ⟨_, rfl, rfl⟩
    | 7, _ => exact ⟨_, rfl, ho.2, rfl⟩
    | 8, _ => exact ⟨_, rfl, rfl⟩
    | 9, _ => exact ⟨_, rfl, a1, c1, rfl, hrow⟩
    | 10, _ => exact ⟨_, rfl, by show Value.iface 9 (.string r) = .iface 9 (.string (resB x.result)); rw [hr']⟩
  · rintro e w' ⟨hv, h2⟩
    exact ⟨⟨hv, HS.put ⟨hv, h2.wr, h2.wf⟩⟩, h2.wf.other (by rw [Below.heap_alloc _ _ _ (by simp)]; exact heap_alloc_new w _) (by decide) (by omega)⟩
theorem codeT_at {x : Fnc} {i : Nat} (h : i < x.code.length) : codeT x i = lineT (insF i x.code[i]) := by
  unfold codeT
  rw [List.getD_eq_getElem?_getD, List.getElem?_eq_getElem h]
  rfl
theorem toList_len (s : ByteArray) : s.toList.length = s.size := by rw [ByteArray.toList_eq]; exact Array.length_toList
theorem name_e {s : ByteArray} (h : s.toList.isEmpty = true) : nameB s = ⟨#[45]⟩ := by
  have e : s.toList = [] := by simpa using h
  unfold nameB
  rw [if_pos (by rw [← toList_len, e]; rfl)]
theorem name_n {s : ByteArray} (h : s.toList.isEmpty = false) : nameB s = s := by
  have e : s.toList ≠ [] := by simpa using h
  unfold nameB
  rw [if_neg (fun e2 => e (List.eq_nil_of_length_eq_zero (by rw [toList_len]; exact e2)))]
set_option maxRecDepth 100000 in
set_option maxHeartbeats 4000000 in
theorem function_ep (W0 : World) (B b : Nat) (l : List UInt8) (k : Nat) (hk : okN k) (x : Fnc) (cs : List Value) (w : World) (hE : Env W0 w B) (h : Wr false B b l w) (hN : ∀ w', Below W0.heap.size W0 w' → NamesOk w') (hI : fncC (· < B) w x cs)
    {l' : List UInt8} (hl' : l ++ fncT k x = l') (hl : l'.length ≤ lim) (hq : x.name.toList.isEmpty = true) (hres : x.result = false) :
    Calls Tryd.prog 15 #[.pointer (some ⟨b, 0, none⟩), .int .i64 k, .agg cs.toArray] w fun e w' => StP false B b l' w e w' := by
  have hB := h.size
  obtain ⟨ho, a1, c1, a2, c2, rfl, hr, hc⟩ := hI
  obtain ⟨T, hT⟩ : ∃ T : Nat → List UInt8, ∀ i, l ++ lineT (fncP k x) ++ cat (codeT x) i = T i := ⟨_, fun _ => rfl⟩
  have hend : T x.code.length = l' := by rw [← hT, ← hl', List.append_assoc]; rfl
  have HTl : Hid (∀ i, i ≤ x.code.length → (T i).length ≤ lim) := hide (fun i hi => by
    have h1 := cat_le (codeT x) hi
    rw [← hend, ← hT] at hl
    rw [← hT]
    simp only [List.length_append] at hl ⊢
    omega)
  have HTs : Hid (∀ i (h : i < x.code.length), T i ++ lineT (insF i x.code[i]) = T (i + 1)) := hide (fun i h => by rw [← hT, ← hT, cat_succ, codeT_at h, List.append_assoc])
  have HC := hide (fnc_line hk #[.string x.name, .slice a1 x.refs.length c1, .int .i64 x.params, .int .i64 x.captures, .bool false, .slice a2 x.code.length c2] (c1 := c1) hE h ho.2 hr ⟨#[45]⟩ ⟨#[]⟩ (name_e hq) (by rw [hres]; rfl) (l' := T 0) (by rw [← hT]; simp [cat]) ((unhide HTl) 0 (Nat.zero_le _)))
  have HEnd := hide hend
  have HR := hide hc
  have hn := hc.1
  rw [hres]
  clear hT hend hl' hl hr hc ho h
  go_enter Tryd.func15, Tryd.ntmps15
  go_wp2_with (go_at_call 13; refine (unhide HC).mono ?_)
  rintro e w1 ⟨⟨⟨v, rfl⟩, HS⟩, hH⟩
  have c5 : w1.cell? ⟨w.heap.size, 5, none⟩ = some (.slice a2 x.code.length c2) := by rw [Lib.cell_of_heap hH]; rfl
  clear HC hH
  go_wp2
  go_loopw [42] (fun t wr => ∃ i : Nat, i ≤ x.code.length ∧ t = .int .i64 i ∧ St false B b (T i) w wr) (fun t _ => x.code.length - (intOf t).toNat)
  case atStart => exact ⟨0, Nat.zero_le _, rfl, HS⟩
  case round =>
    clear HS c5
    obtain ⟨i, hi, rfl, HS⟩ := hrel
    by_cases hlt : i < x.code.length
    · obtain ⟨rb, off, cs, e1, hS, hc, hcell⟩ := row_get insG (unhide HR) HS.at hlt
      have HI := hide hc
      obtain ⟨ho, al, cp, rfl, hr⟩ := hc
      have c0 : wr.cell? ⟨rb, off + i * 6, none⟩ = some (.int .i64 x.code[i].op) := by have := hcell 0 _ rfl; simpa using this
      have c1 : wr.cell? ⟨rb, off + i * 6 + 1, none⟩ = some (.int .i64 x.code[i].a) := by have := hcell 1 _ rfl; simpa using this
      have c2 : wr.cell? ⟨rb, off + i * 6 + 2, none⟩ = some (.int .i64 x.code[i].b) := by have := hcell 2 _ rfl; simpa using this
      have c3 : wr.cell? ⟨rb, off + i * 6 + 3, none⟩ = some (.int .i64 x.code[i].c) := by have := hcell 3 _ rfl; simpa using this
      have c4 : wr.cell? ⟨rb, off + i * 6 + 4, none⟩ = some (.int .i64 x.code[i].d) := by have := hcell 4 _ rfl; simpa using this
      have c5 : wr.cell? ⟨rb, off + i * 6 + 5, none⟩ = some (.slice al x.code[i].list.length cp) := by have := hcell 5 _ rfl; simpa using this
      have HT := hide ((unhide HTs) i hlt)
      have HP1 := hide ((unhide HTl) (i + 1) (by omega))
      have HEr := hide (HS.env hE)
      subst e1
      clear hcell hr ho
      generalize x.code[i] = y at *
      have HSa := HS.alloc (.cells #[.int .i64 y.op, .int .i64 y.a, .int .i64 y.b, .int .i64 y.c, .int .i64 y.d, .slice al y.list.length cp] 34)
      have HC : Hid (Calls Tryd.prog 23 #[.pointer (some ⟨b, 0, none⟩), .int .i64 i, .agg #[.int .i64 y.op, .int .i64 y.a, .int .i64 y.b, .int .i64 y.c, .int .i64 y.d, .slice al y.list.length cp]] (wr.alloc (.cells #[.int .i64 y.op, .int .i64 y.a, .int .i64 y.b, .int .i64 y.c, .int .i64 y.d, .slice al y.list.length cp] 34)) fun e w' => StP false B b (T (i + 1)) _ e w') :=
        hide (instr_any W0 B b (T i) i (by unfold okN; omega) y _ _ (HSa.env hE) HSa.wr hN (insG.same (fun k hk => (HSa.at k hk).trans (HS.at k hk).symm) (unhide HI)) (unhide HT) (unhide HP1))
      clear HS
      go_wp2_with (go_at_call 23; refine (unhide HC).mono ?_)
      rintro e w2 ⟨⟨v2, rfl⟩, H2⟩
      have HS := St.put HSa (e := .returned v2) ⟨⟨_, rfl⟩, H2.wr, H2.wf⟩
      clear HC H2 HSa
      go_wp2
      go_roundw
      case rel => exact ⟨i + 1, by omega, by simp, HS⟩
      case measure => simp [intOf]; omega
    · obtain rfl : i = x.code.length := by omega
      rw [unhide HEnd] at HS
      go_wp2
      go_end0
      exact ⟨⟨_, rfl⟩, HS⟩
set_option maxRecDepth 100000 in
set_option maxHeartbeats 4000000 in
theorem function_er (W0 : World) (B b : Nat) (l : List UInt8) (k : Nat) (hk : okN k) (x : Fnc) (cs : List Value) (w : World) (hE : Env W0 w B) (h : Wr false B b l w) (hN : ∀ w', Below W0.heap.size W0 w' → NamesOk w') (hI : fncC (· < B) w x cs)
    {l' : List UInt8} (hl' : l ++ fncT k x = l') (hl : l'.length ≤ lim) (hq : x.name.toList.isEmpty = true) (hres : x.result = true) :
    Calls Tryd.prog 15 #[.pointer (some ⟨b, 0, none⟩), .int .i64 k, .agg cs.toArray] w fun e w' => StP false B b l' w e w' := by
  have hB := h.size
  obtain ⟨ho, a1, c1, a2, c2, rfl, hr, hc⟩ := hI
  obtain ⟨T, hT⟩ : ∃ T : Nat → List UInt8, ∀ i, l ++ lineT (fncP k x) ++ cat (codeT x) i = T i := ⟨_, fun _ => rfl⟩
  have hend : T x.code.length = l' := by rw [← hT, ← hl', List.append_assoc]; rfl
  have HTl : Hid (∀ i, i ≤ x.code.length → (T i).length ≤ lim) := hide (fun i hi => by
    have h1 := cat_le (codeT x) hi
    rw [← hend, ← hT] at hl
    rw [← hT]
    simp only [List.length_append] at hl ⊢
    omega)
  have HTs : Hid (∀ i (h : i < x.code.length), T i ++ lineT (insF i x.code[i]) = T (i + 1)) := hide (fun i h => by rw [← hT, ← hT, cat_succ, codeT_at h, List.append_assoc])
  have HC := hide (fnc_line hk #[.string x.name, .slice a1 x.refs.length c1, .int .i64 x.params, .int .i64 x.captures, .bool true, .slice a2 x.code.length c2] (c1 := c1) hE h ho.2 hr ⟨#[45]⟩ ⟨#[32, 114, 101, 115, 117, 108, 116]⟩ (name_e hq) (by rw [hres]; rfl) (l' := T 0) (by rw [← hT]; simp [cat]) ((unhide HTl) 0 (Nat.zero_le _)))
  have HEnd := hide hend
  have HR := hide hc
  have hn := hc.1
  rw [hres]
  clear hT hend hl' hl hr hc ho h
  go_enter Tryd.func15, Tryd.ntmps15
  go_wp2_with (go_at_call 13; refine (unhide HC).mono ?_)
  rintro e w1 ⟨⟨⟨v, rfl⟩, HS⟩, hH⟩
  have c5 : w1.cell? ⟨w.heap.size, 5, none⟩ = some (.slice a2 x.code.length c2) := by rw [Lib.cell_of_heap hH]; rfl
  clear HC hH
  go_wp2
  go_loopw [42] (fun t wr => ∃ i : Nat, i ≤ x.code.length ∧ t = .int .i64 i ∧ St false B b (T i) w wr) (fun t _ => x.code.length - (intOf t).toNat)
  case atStart => exact ⟨0, Nat.zero_le _, rfl, HS⟩
  case round =>
    clear HS c5
    obtain ⟨i, hi, rfl, HS⟩ := hrel
    by_cases hlt : i < x.code.length
    · obtain ⟨rb, off, cs, e1, hS, hc, hcell⟩ := row_get insG (unhide HR) HS.at hlt
      have HI := hide hc
      obtain ⟨ho, al, cp, rfl, hr⟩ := hc
      have c0 : wr.cell? ⟨rb, off + i * 6, none⟩ = some (.int .i64 x.code[i].op) := by have := hcell 0 _ rfl; simpa using this
      have c1 : wr.cell? ⟨rb, off + i * 6 + 1, none⟩ = some (.int .i64 x.code[i].a) := by have := hcell 1 _ rfl; simpa using this
      have c2 : wr.cell? ⟨rb, off + i * 6 + 2, none⟩ = some (.int .i64 x.code[i].b) := by have := hcell 2 _ rfl; simpa using this
      have c3 : wr.cell? ⟨rb, off + i * 6 + 3, none⟩ = some (.int .i64 x.code[i].c) := by have := hcell 3 _ rfl; simpa using this
      have c4 : wr.cell? ⟨rb, off + i * 6 + 4, none⟩ = some (.int .i64 x.code[i].d) := by have := hcell 4 _ rfl; simpa using this
      have c5 : wr.cell? ⟨rb, off + i * 6 + 5, none⟩ = some (.slice al x.code[i].list.length cp) := by have := hcell 5 _ rfl; simpa using this
      have HT := hide ((unhide HTs) i hlt)
      have HP1 := hide ((unhide HTl) (i + 1) (by omega))
      have HEr := hide (HS.env hE)
      subst e1
      clear hcell hr ho
      generalize x.code[i] = y at *
      have HSa := HS.alloc (.cells #[.int .i64 y.op, .int .i64 y.a, .int .i64 y.b, .int .i64 y.c, .int .i64 y.d, .slice al y.list.length cp] 34)
      have HC : Hid (Calls Tryd.prog 23 #[.pointer (some ⟨b, 0, none⟩), .int .i64 i, .agg #[.int .i64 y.op, .int .i64 y.a, .int .i64 y.b, .int .i64 y.c, .int .i64 y.d, .slice al y.list.length cp]] (wr.alloc (.cells #[.int .i64 y.op, .int .i64 y.a, .int .i64 y.b, .int .i64 y.c, .int .i64 y.d, .slice al y.list.length cp] 34)) fun e w' => StP false B b (T (i + 1)) _ e w') :=
        hide (instr_any W0 B b (T i) i (by unfold okN; omega) y _ _ (HSa.env hE) HSa.wr hN (insG.same (fun k hk => (HSa.at k hk).trans (HS.at k hk).symm) (unhide HI)) (unhide HT) (unhide HP1))
      clear HS
      go_wp2_with (go_at_call 23; refine (unhide HC).mono ?_)
      rintro e w2 ⟨⟨v2, rfl⟩, H2⟩
      have HS := St.put HSa (e := .returned v2) ⟨⟨_, rfl⟩, H2.wr, H2.wf⟩
      clear HC H2 HSa
      go_wp2
      go_roundw
      case rel => exact ⟨i + 1, by omega, by simp, HS⟩
      case measure => simp [intOf]; omega
    · obtain rfl : i = x.code.length := by omega
      rw [unhide HEnd] at HS
      go_wp2
      go_end0
      exact ⟨⟨_, rfl⟩, HS⟩
set_option maxRecDepth 100000 in
set_option maxHeartbeats 4000000 in
theorem function_np (W0 : World) (B b : Nat) (l : List UInt8) (k : Nat) (hk : okN k) (x : Fnc) (cs : List Value) (w : World) (hE : Env W0 w B) (h : Wr false B b l w) (hN : ∀ w', Below W0.heap.size W0 w' → NamesOk w') (hI : fncC (· < B) w x cs)
    {l' : List UInt8} (hl' : l ++ fncT k x = l') (hl : l'.length ≤ lim) (hq : x.name.toList.isEmpty = false) (hres : x.result = false) :
    Calls Tryd.prog 15 #[.pointer (some ⟨b, 0, none⟩), .int .i64 k, .agg cs.toArray] w fun e w' => StP false B b l' w e w' := by
  have hB := h.size
  obtain ⟨ho, a1, c1, a2, c2, rfl, hr, hc⟩ := hI
  obtain ⟨T, hT⟩ : ∃ T : Nat → List UInt8, ∀ i, l ++ lineT (fncP k x) ++ cat (codeT x) i = T i := ⟨_, fun _ => rfl⟩
  have hend : T x.code.length = l' := by rw [← hT, ← hl', List.append_assoc]; rfl
  have HTl : Hid (∀ i, i ≤ x.code.length → (T i).length ≤ lim) := hide (fun i hi => by
    have h1 := cat_le (codeT x) hi
    rw [← hend, ← hT] at hl
    rw [← hT]
    simp only [List.length_append] at hl ⊢
    omega)
  have HTs : Hid (∀ i (h : i < x.code.length), T i ++ lineT (insF i x.code[i]) = T (i + 1)) := hide (fun i h => by rw [← hT, ← hT, cat_succ, codeT_at h, List.append_assoc])
  have HC := hide (fnc_line hk #[.string x.name, .slice a1 x.refs.length c1, .int .i64 x.params, .int .i64 x.captures, .bool false, .slice a2 x.code.length c2] (c1 := c1) hE h ho.2 hr x.name ⟨#[]⟩ (name_n hq) (by rw [hres]; rfl) (l' := T 0) (by rw [← hT]; simp [cat]) ((unhide HTl) 0 (Nat.zero_le _)))
  have HEnd := hide hend
  have HR := hide hc
  have hn := hc.1
  rw [hres]
  clear hT hend hl' hl hr hc ho h
  go_enter Tryd.func15, Tryd.ntmps15
  go_wp2_with (go_at_call 13; refine (unhide HC).mono ?_)
  rintro e w1 ⟨⟨⟨v, rfl⟩, HS⟩, hH⟩
  have c5 : w1.cell? ⟨w.heap.size, 5, none⟩ = some (.slice a2 x.code.length c2) := by rw [Lib.cell_of_heap hH]; rfl
  clear HC hH
  go_wp2
  go_loopw [42] (fun t wr => ∃ i : Nat, i ≤ x.code.length ∧ t = .int .i64 i ∧ St false B b (T i) w wr) (fun t _ => x.code.length - (intOf t).toNat)
  case atStart => exact ⟨0, Nat.zero_le _, rfl, HS⟩
  case round =>
    clear HS c5
    obtain ⟨i, hi, rfl, HS⟩ := hrel
    by_cases hlt : i < x.code.length
    · obtain ⟨rb, off, cs, e1, hS, hc, hcell⟩ := row_get insG (unhide HR) HS.at hlt
      have HI := hide hc
      obtain ⟨ho, al, cp, rfl, hr⟩ := hc
      have c0 : wr.cell? ⟨rb, off + i * 6, none⟩ = some (.int .i64 x.code[i].op) := by have := hcell 0 _ rfl; simpa using this
      have c1 : wr.cell? ⟨rb, off + i * 6 + 1, none⟩ = some (.int .i64 x.code[i].a) := by have := hcell 1 _ rfl; simpa using this
      have c2 : wr.cell? ⟨rb, off + i * 6 + 2, none⟩ = some (.int .i64 x.code[i].b) := by have := hcell 2 _ rfl; simpa using this
      have c3 : wr.cell? ⟨rb, off + i * 6 + 3, none⟩ = some (.int .i64 x.code[i].c) := by have := hcell 3 _ rfl; simpa using this
      have c4 : wr.cell? ⟨rb, off + i * 6 + 4, none⟩ = some (.int .i64 x.code[i].d) := by have := hcell 4 _ rfl; simpa using this
      have c5 : wr.cell? ⟨rb, off + i * 6 + 5, none⟩ = some (.slice al x.code[i].list.length cp) := by have := hcell 5 _ rfl; simpa using this
      have HT := hide ((unhide HTs) i hlt)
      have HP1 := hide ((unhide HTl) (i + 1) (by omega))
      have HEr := hide (HS.env hE)
      subst e1
      clear hcell hr ho
      generalize x.code[i] = y at *
      have HSa := HS.alloc (.cells #[.int .i64 y.op, .int .i64 y.a, .int .i64 y.b, .int .i64 y.c, .int .i64 y.d, .slice al y.list.length cp] 34)
      have HC : Hid (Calls Tryd.prog 23 #[.pointer (some ⟨b, 0, none⟩), .int .i64 i, .agg #[.int .i64 y.op, .int .i64 y.a, .int .i64 y.b, .int .i64 y.c, .int .i64 y.d, .slice al y.list.length cp]] (wr.alloc (.cells #[.int .i64 y.op, .int .i64 y.a, .int .i64 y.b, .int .i64 y.c, .int .i64 y.d, .slice al y.list.length cp] 34)) fun e w' => StP false B b (T (i + 1)) _ e w') :=
        hide (instr_any W0 B b (T i) i (by unfold okN; omega) y _ _ (HSa.env hE) HSa.wr hN (insG.same (fun k hk => (HSa.at k hk).trans (HS.at k hk).symm) (unhide HI)) (unhide HT) (unhide HP1))
      clear HS
      go_wp2_with (go_at_call 23; refine (unhide HC).mono ?_)
      rintro e w2 ⟨⟨v2, rfl⟩, H2⟩
      have HS := St.put HSa (e := .returned v2) ⟨⟨_, rfl⟩, H2.wr, H2.wf⟩
      clear HC H2 HSa
      go_wp2
      go_roundw
      case rel => exact ⟨i + 1, by omega, by simp, HS⟩
      case measure => simp [intOf]; omega
    · obtain rfl : i = x.code.length := by omega
      rw [unhide HEnd] at HS
      go_wp2
      go_end0
      exact ⟨⟨_, rfl⟩, HS⟩
set_option maxRecDepth 100000 in
set_option maxHeartbeats 4000000 in
theorem function_nr (W0 : World) (B b : Nat) (l : List UInt8) (k : Nat) (hk : okN k) (x : Fnc) (cs : List Value) (w : World) (hE : Env W0 w B) (h : Wr false B b l w) (hN : ∀ w', Below W0.heap.size W0 w' → NamesOk w') (hI : fncC (· < B) w x cs)
    {l' : List UInt8} (hl' : l ++ fncT k x = l') (hl : l'.length ≤ lim) (hq : x.name.toList.isEmpty = false) (hres : x.result = true) :
    Calls Tryd.prog 15 #[.pointer (some ⟨b, 0, none⟩), .int .i64 k, .agg cs.toArray] w fun e w' => StP false B b l' w e w' := by
  have hB := h.size
  obtain ⟨ho, a1, c1, a2, c2, rfl, hr, hc⟩ := hI
  obtain ⟨T, hT⟩ : ∃ T : Nat → List UInt8, ∀ i, l ++ lineT (fncP k x) ++ cat (codeT x) i = T i := ⟨_, fun _ => rfl⟩
  have hend : T x.code.length = l' := by rw [← hT, ← hl', List.append_assoc]; rfl
  have HTl : Hid (∀ i, i ≤ x.code.length → (T i).length ≤ lim) := hide (fun i hi => by
    have h1 := cat_le (codeT x) hi
    rw [← hend, ← hT] at hl
    rw [← hT]
    simp only [List.length_append] at hl ⊢
    omega)
  have HTs : Hid (∀ i (h : i < x.code.length), T i ++ lineT (insF i x.code[i]) = T (i + 1)) := hide (fun i h => by rw [← hT, ← hT, cat_succ, codeT_at h, List.append_assoc])
  have HC := hide (fnc_line hk #[.string x.name, .slice a1 x.refs.length c1, .int .i64 x.params, .int .i64 x.captures, .bool true, .slice a2 x.code.length c2] (c1 := c1) hE h ho.2 hr x.name ⟨#[32, 114, 101, 115, 117, 108, 116]⟩ (name_n hq) (by rw [hres]; rfl) (l' := T 0) (by rw [← hT]; simp [cat]) ((unhide HTl) 0 (Nat.zero_le _)))
  have HEnd := hide hend
  have HR := hide hc
  have hn := hc.1
  rw [hres]
  clear hT hend hl' hl hr hc ho h
  go_enter Tryd.func15, Tryd.ntmps15
  go_wp2_with (go_at_call 13; refine (unhide HC).mono ?_)
  rintro e w1 ⟨⟨⟨v, rfl⟩, HS⟩, hH⟩
  have c5 : w1.cell? ⟨w.heap.size, 5, none⟩ = some (.slice a2 x.code.length c2) := by rw [Lib.cell_of_heap hH]; rfl
  clear HC hH
  go_wp2
  go_loopw [42] (fun t wr => ∃ i : Nat, i ≤ x.code.length ∧ t = .int .i64 i ∧ St false B b (T i) w wr) (fun t _ => x.code.length - (intOf t).toNat)
  case atStart => exact ⟨0, Nat.zero_le _, rfl, HS⟩
  case round =>
    clear HS c5
    obtain ⟨i, hi, rfl, HS⟩ := hrel
    by_cases hlt : i < x.code.length
    · obtain ⟨rb, off, cs, e1, hS, hc, hcell⟩ := row_get insG (unhide HR) HS.at hlt
      have HI := hide hc
      obtain ⟨ho, al, cp, rfl, hr⟩ := hc
      have c0 : wr.cell? ⟨rb, off + i * 6, none⟩ = some (.int .i64 x.code[i].op) := by have := hcell 0 _ rfl; simpa using this
      have c1 : wr.cell? ⟨rb, off + i * 6 + 1, none⟩ = some (.int .i64 x.code[i].a) := by have := hcell 1 _ rfl; simpa using this
      have c2 : wr.cell? ⟨rb, off + i * 6 + 2, none⟩ = some (.int .i64 x.code[i].b) := by have := hcell 2 _ rfl; simpa using this
      have c3 : wr.cell? ⟨rb, off + i * 6 + 3, none⟩ = some (.int .i64 x.code[i].c) := by have := hcell 3 _ rfl; simpa using this
      have c4 : wr.cell? ⟨rb, off + i * 6 + 4, none⟩ = some (.int .i64 x.code[i].d) := by have := hcell 4 _ rfl; simpa using this
      have c5 : wr.cell? ⟨rb, off + i * 6 + 5, none⟩ = some (.slice al x.code[i].list.length cp) := by have := hcell 5 _ rfl; simpa using this
      have HT := hide ((unhide HTs) i hlt)
      have HP1 := hide ((unhide HTl) (i + 1) (by omega))
      have HEr := hide (HS.env hE)
      subst e1
      clear hcell hr ho
      generalize x.code[i] = y at *
      have HSa := HS.alloc (.cells #[.int .i64 y.op, .int .i64 y.a, .int .i64 y.b, .int .i64 y.c, .int .i64 y.d, .slice al y.list.length cp] 34)
      have HC : Hid (Calls Tryd.prog 23 #[.pointer (some ⟨b, 0, none⟩), .int .i64 i, .agg #[.int .i64 y.op, .int .i64 y.a, .int .i64 y.b, .int .i64 y.c, .int .i64 y.d, .slice al y.list.length cp]] (wr.alloc (.cells #[.int .i64 y.op, .int .i64 y.a, .int .i64 y.b, .int .i64 y.c, .int .i64 y.d, .slice al y.list.length cp] 34)) fun e w' => StP false B b (T (i + 1)) _ e w') :=
        hide (instr_any W0 B b (T i) i (by unfold okN; omega) y _ _ (HSa.env hE) HSa.wr hN (insG.same (fun k hk => (HSa.at k hk).trans (HS.at k hk).symm) (unhide HI)) (unhide HT) (unhide HP1))
      clear HS
      go_wp2_with (go_at_call 23; refine (unhide HC).mono ?_)
      rintro e w2 ⟨⟨v2, rfl⟩, H2⟩
      have HS := St.put HSa (e := .returned v2) ⟨⟨_, rfl⟩, H2.wr, H2.wf⟩
      clear HC H2 HSa
      go_wp2
      go_roundw
      case rel => exact ⟨i + 1, by omega, by simp, HS⟩
      case measure => simp [intOf]; omega
    · obtain rfl : i = x.code.length := by omega
      rw [unhide HEnd] at HS
      go_wp2
      go_end0
      exact ⟨⟨_, rfl⟩, HS⟩
theorem function_any (W0 : World) (B b : Nat) (l : List UInt8) (k : Nat) (hk : okN k) (x : Fnc) (cs : List Value) (w : World) (hE : Env W0 w B) (h : Wr false B b l w) (hN : ∀ w', Below W0.heap.size W0 w' → NamesOk w') (hI : fncC (· < B) w x cs)
    {l' : List UInt8} (hl' : l ++ fncT k x = l') (hl : l'.length ≤ lim) :
    Calls Tryd.prog 15 #[.pointer (some ⟨b, 0, none⟩), .int .i64 k, .agg cs.toArray] w fun e w' => StP false B b l' w e w' := by
  cases hq : x.name.toList.isEmpty
  · cases hr : x.result
    · exact function_np W0 B b l k hk x cs w hE h hN hI hl' hl hq hr
    · exact function_nr W0 B b l k hk x cs w hE h hN hI hl' hl hq hr
  · cases hr : x.result
    · exact function_ep W0 B b l k hk x cs w hE h hN hI hl' hl hq hr
    · exact function_er W0 B b l k hk x cs w hE h hN hI hl' hl hq hr
end Go.Proofs.YtipnefogflpkhaaDoor
