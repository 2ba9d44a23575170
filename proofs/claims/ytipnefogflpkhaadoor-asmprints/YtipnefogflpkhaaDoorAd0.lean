/- line: parts of each sort. -/
import Derived.Test.YtipnefogflpkhaaDoorAc0
set_option linter.unusedVariables false
set_option linter.unusedSimpArgs false
namespace Go.Proofs.YtipnefogflpkhaaDoor
open Go.RowKit
inductive Part
  | s (x : ByteArray)
  | n (z : Int)
  | l (xs : List Int)
  | r (xs : List Bool)
def partT : Part → List UInt8
  | .s x => x.data.toList
  | .n z => itoaT z
  | .l xs => numsT xs
  | .r xs => refsT xs
def PartV (B : Nat) (w : World) : Part → Value → Prop
  | .s x, v => v = .iface 9 (.string x)
  | .n z, v => okN z ∧ v = .iface 3 (.int .i64 z)
  | .l xs, v => ∃ a cap, v = .iface 59 (.slice a xs.length cap) ∧ RowOf numC 1 (· < B) w xs a
  | .r xs, v => ∃ a cap, v = .iface 61 (.slice a xs.length cap) ∧ RowOf flagC 1 (· < B) w xs a
theorem PartV.same {B : Nat} {w w' : World} {p : Part} {v : Value} (hs : ∀ k, k < B → w'.heap[k]? = w.heap[k]?) (h : PartV B w p v) : PartV B w' p v := by
  cases p with
  | s x => exact h
  | n z => exact h
  | l xs => obtain ⟨a, cap, e, hr⟩ := h; exact ⟨a, cap, e, numG.rowS hs hr⟩
  | r xs => obtain ⟨a, cap, e, hr⟩ := h; exact ⟨a, cap, e, flagG.rowS hs hr⟩
/-- The parts of a line in memory. -/
def PartsAt (B b : Nat) (w : World) (ps : List Part) (g : Nat) : Prop :=
  g ≠ b ∧ ∃ cs t fz, t ≠ 5 ∧ w.heap[g]? = some (.cells cs t fz) ∧ ∀ j (h : j < ps.length), ∃ v, cs[j]? = some v ∧ PartV B w ps[j] v
theorem PartsAt.get {B b g : Nat} {w w' : World} {ps : List Part} (h : PartsAt B b w ps g) (hF : WF B b w w') {j : Nat} (hj : j < ps.length) : ∃ v, w'.cell? ⟨g, j, none⟩ = some v ∧ PartV B w' ps[j] v := by
  obtain ⟨hb, cs, t, fz, ht, hc, hp⟩ := h
  obtain ⟨v, h1, h2⟩ := hp j hj
  refine ⟨v, ?_, h2.same hF.below.block⟩
  rw [Lib.cell_of_heap (hF.other hc ht hb)]
  exact h1
theorem ta9_9 (v : Value) (w : World) : (Instr.typeAssert (.iface 9 v) 20 9 true).run Tryd.prog w = .ok (.tuple #[v, .bool true]) w := by kernel_rfl
theorem ta3_9 (v : Value) (w : World) : (Instr.typeAssert (.iface 3 v) 20 9 true).run Tryd.prog w = .ok (.tuple #[.string ⟨#[]⟩, .bool false]) w := by kernel_rfl
theorem ta3_3 (v : Value) (w : World) : (Instr.typeAssert (.iface 3 v) 20 3 true).run Tryd.prog w = .ok (.tuple #[v, .bool true]) w := by kernel_rfl
theorem ta59_9 (v : Value) (w : World) : (Instr.typeAssert (.iface 59 v) 20 9 true).run Tryd.prog w = .ok (.tuple #[.string ⟨#[]⟩, .bool false]) w := by kernel_rfl
theorem ta59_3 (v : Value) (w : World) : (Instr.typeAssert (.iface 59 v) 20 3 true).run Tryd.prog w = .ok (.tuple #[.int .i64 0, .bool false]) w := by kernel_rfl
theorem ta59_59 (v : Value) (w : World) : (Instr.typeAssert (.iface 59 v) 20 59 true).run Tryd.prog w = .ok (.tuple #[v, .bool true]) w := by kernel_rfl
theorem ta61_9 (v : Value) (w : World) : (Instr.typeAssert (.iface 61 v) 20 9 true).run Tryd.prog w = .ok (.tuple #[.string ⟨#[]⟩, .bool false]) w := by kernel_rfl
theorem ta61_3 (v : Value) (w : World) : (Instr.typeAssert (.iface 61 v) 20 3 true).run Tryd.prog w = .ok (.tuple #[.int .i64 0, .bool false]) w := by kernel_rfl
theorem ta61_59 (v : Value) (w : World) : (Instr.typeAssert (.iface 61 v) 20 59 true).run Tryd.prog w = .ok (.tuple #[.slice none 0 0, .bool false]) w := by kernel_rfl
theorem ta61_61 (v : Value) (w : World) : (Instr.typeAssert (.iface 61 v) 20 61 true).run Tryd.prog w = .ok (.tuple #[v, .bool true]) w := by kernel_rfl
def lineT (ps : List Part) : List UInt8 := ps.flatMap partT ++ [10]
theorem take_flat (ps : List Part) {i : Nat} (h : i < ps.length) : (ps.take (i + 1)).flatMap partT = (ps.take i).flatMap partT ++ partT ps[i] := by
  rw [List.take_succ_eq_append_getElem h, List.flatMap_append]
  simp only [List.flatMap_cons, List.flatMap_nil, List.append_nil]
theorem take_flat_le (ps : List Part) {i j : Nat} (h : i ≤ j) : ((ps.take i).flatMap partT).length ≤ ((ps.take j).flatMap partT).length := by
  have e : ps.take i = (ps.take j).take i := by rw [List.take_take, Nat.min_eq_left h]
  have e2 : ps.take j = (ps.take j).take i ++ (ps.take j).drop i := (List.take_append_drop i _).symm
  rw [e]
  have := congrArg (fun x => (List.flatMap partT x).length) e2
  simp only [List.flatMap_append, List.length_append] at this
  omega
theorem St.env {W0 : World} {k : Bool} {B b : Nat} {l : List UInt8} {w0 w : World} (h : St k B b l w0 w) (hE : Env W0 w0 B) : Env W0 w B := ⟨hE.tab, hE.below.trans (h.wf.below.mono hE.size), hE.size⟩
set_option maxRecDepth 100000 in
set_option maxHeartbeats 4000000 in
theorem line_any (W0 : World) (B b : Nat) (l : List UInt8) (ps : List Part) (g cap : Nat) (w : World) (hE : Env W0 w B) (h : Wr false B b l w) (hP : PartsAt B b w ps g) (hn : ps.length ≤ 281474976710656) {l' : List UInt8} (hl' : l ++ lineT ps = l') (hl : l'.length ≤ lim) :
    Calls Tryd.prog 13 #[.pointer (some ⟨b, 0, none⟩), .slice (some ⟨g, 0, none⟩) ps.length cap] w fun e w' => StP false B b l' w e w' := by
  obtain ⟨T, hT⟩ : ∃ T : Nat → List UInt8, ∀ i, l ++ (ps.take i).flatMap partT = T i := ⟨_, fun _ => rfl⟩
  have hend : T ps.length ++ [10] = l' := by rw [← hT, ← hl', List.take_length, List.append_assoc]; rfl
  have HTl : Hid (∀ i, i ≤ ps.length → (T i).length ≤ lim) := hide (fun i hi => by
    have h1 := take_flat_le ps hi
    rw [← hend, ← hT] at hl
    rw [← hT]
    simp only [List.length_append] at hl ⊢
    omega)
  have HTs : Hid (∀ i (h : i < ps.length), T i ++ partT ps[i] = T (i + 1)) := hide (fun i h => by rw [← hT, ← hT, take_flat ps h, List.append_assoc])
  have HEnd := hide hend
  have HL := hide hl
  have HPs := hide hP
  have HS0 : St false B b (T 0) w w := h.st.cong (by rw [← hT]; simp)
  clear hT hend hl' hl hP h
  go_enter Tryd.func13, Tryd.ntmps13
  go_wp2
  go_loopw [12] (fun t wr => ∃ i : Nat, i ≤ ps.length ∧ t = .int .i64 i ∧ St false B b (T i) w wr) (fun t _ => ps.length - (intOf t).toNat)
  case atStart => exact ⟨0, Nat.zero_le _, rfl, HS0⟩
  case round =>
    clear HS0
    obtain ⟨i, hi, rfl, HS⟩ := hrel
    by_cases hlt : i < ps.length
    · obtain ⟨v, hc0, hv⟩ := (unhide HPs).get HS.wf hlt
      have HT := hide ((unhide HTs) i hlt)
      have HP1 := hide ((unhide HTl) (i + 1) (by omega))
      have hEr := HS.env hE
      have HW := HS.wr
      generalize ps[i] = p at *
      cases p with
      | s x =>
        obtain rfl := hv
        have t9 := ta9_9
        have HC := hide (HS.s x (unhide HT) (unhide HP1))
        clear HS hEr
        go_wp2_with (go_at_call 17; refine (unhide HC).mono ?_)
        rintro e w2 ⟨⟨v2, rfl⟩, HS⟩
        clear HC
        go_wp2
        go_roundw
        case rel => exact ⟨i + 1, by omega, by simp, HS⟩
        case measure => simp [intOf]; omega
      | n z =>
        obtain ⟨hz, rfl⟩ := hv
        have t9 := ta3_9
        have t3 := ta3_3
        have HZ := hide hz
        clear hz
        go_wp2
        go_region_held2 (fun _ => True) (trivial) (first | (go_at_call 18; with_reducible refine (HS.drew.itoa hE _ (unhide HZ)).mono ?_; clear HS; rintro e w3 ⟨rfl, HS⟩) | (go_at_call 17; refine (HS.n _ (unhide HT) (unhide HP1)).mono ?_; clear HS; rintro e w4 ⟨⟨v4, rfl⟩, HS⟩))
        go_wp2
        go_roundw
        case rel => exact ⟨i + 1, by omega, by simp, HS⟩
        case measure => simp [intOf]; omega
      | l xs =>
        obtain ⟨a, cp, rfl, hr⟩ := hv
        have t9 := ta59_9
        have t3 := ta59_3
        have t59 := ta59_59
        have HC := hide (numbers_any W0 B b (T i) xs a cp wr wr hEr HW.st hr (unhide HT) (unhide HP1))
        clear hr
        go_wp2_with (go_at_call 19; refine (unhide HC).mono ?_)
        rintro e w2 ⟨⟨v2, rfl⟩, H2⟩
        have HS := St.put HS (e := .returned v2) ⟨⟨_, rfl⟩, H2.wr, H2.wf⟩
        clear HC H2
        go_wp2
        go_roundw
        case rel => exact ⟨i + 1, by omega, by simp, HS⟩
        case measure => simp [intOf]; omega
      | r xs =>
        obtain ⟨a, cp, rfl, hr⟩ := hv
        have t9 := ta61_9
        have t3 := ta61_3
        have t59 := ta61_59
        have t61 := ta61_61
        have HC := hide (letters_any B b (T i) xs a cp wr wr HW.st hr (by have := unhide HP1; rw [← unhide HT] at this; exact this))
        clear hr
        go_wp2_with (go_at_call 20; refine (unhide HC).mono ?_)
        rintro e w2 ⟨⟨v2, rfl⟩, H2⟩
        have HS := (St.put HS (e := .returned v2) ⟨⟨_, rfl⟩, H2.wr, H2.wf⟩).cong (unhide HT)
        clear HC H2
        go_wp2
        go_roundw
        case rel => exact ⟨i + 1, by omega, by simp, HS⟩
        case measure => simp [intOf]; omega
    · obtain rfl : i = ps.length := by omega
      have HC := hide (HS.b 10 (unhide HEnd) (unhide HL))
      clear HS
      go_wp2_with (go_at_call 21; refine (unhide HC).mono ?_)
      rintro e w2 ⟨⟨v2, rfl⟩, HS⟩
      clear HC
      go_wp2
      go_end0
      exact ⟨⟨_, rfl⟩, HS⟩
end Go.Proofs.YtipnefogflpkhaaDoor
