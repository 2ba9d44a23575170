/- instr, walked. -/
import Derived.Test.YtipnefogflpkhaaDoorAe1
set_option linter.unusedVariables false
set_option linter.unusedSimpArgs false
namespace Go.Proofs.YtipnefogflpkhaaDoor
open Go.RowKit
theorem us_size (i : Nat) : (us i).size = (usL.getD i []).length := rfl
theorem us_at (i j : Nat) (h : j < (us i).size) : (us i)[j] = (usL.getD i [])[j]'(by rw [us_size] at h; exact h) := rfl
theorem us_small (i : Nat) : (us i).size ≤ 4 := by
  rcases Nat.lt_or_ge i 57 with h | h
  · have : ∀ i, i < 57 → (usL.getD i []).length ≤ 4 := by decide
    exact this i h
  · have : usL.length = 57 := by rfl
    rw [us_size]
    simp [List.getD_eq_getElem?_getD, List.getElem?_eq_none (show usL.length ≤ i by omega)]
theorem insP_next (k : Nat) (x : Ins) (j : Nat) (h : j < (us (nrm x.op)).size) : insP k x j ++ [.s ⟨#[32]⟩, usedP x (us (nrm x.op))[j]] = insP k x (j + 1) := by
  have h' : j < (usL.getD (nrm x.op) []).length := h
  unfold insP
  rw [List.take_succ_eq_append_getElem h', List.flatMap_append, List.append_assoc]
  rfl
theorem PartV.iface {B : Nat} {w : World} {p : Part} {v : Value} (h : PartV B w p v) : ∃ t x, v = .iface t x := by
  cases p with
  | s x => exact ⟨_, _, h⟩
  | n z => exact ⟨_, _, h.2⟩
  | l xs => obtain ⟨a, cap, e, hr⟩ := h; exact ⟨_, _, e⟩
  | r xs => obtain ⟨a, cap, e, hr⟩ := h; exact ⟨_, _, e⟩
theorem ownF_form {w : World} {base e size n : Nat} {v : Value} {xs : List Value} (h : w.ownsRowF base e size v n xs) : ∃ ao cp, v = .slice ao n cp := by
  rcases h.2 with ⟨h2, h3⟩ | ⟨g, cap, cur, fz, h2, _⟩
  · exact ⟨none, 0, by rw [h2, h3]⟩
  · exact ⟨_, cap, h2⟩
theorem PartV.one {B : Nat} {w : World} {p : Part} {v : Value} (h : PartV B w p v) : v.oneCell' = true := by
  obtain ⟨t, x, rfl⟩ := h.iface
  rfl
theorem IS.parts {B b : Nat} {w0 : World} {l : List UInt8} {x : Ins} {al : Option Addr} {cap : Nat} {u : ByteArray} {ps : List Part} {pv : Value} {j : Nat} {w : World} (h : IS B b w0 l x al cap u ps pv j w) (hn : 0 < ps.length) : ∃ g cp, pv = .slice (some ⟨g, 0, none⟩) ps.length cp ∧ PartsAt B b w ps g := by
  obtain ⟨vs, ho, hp⟩ := h.own
  rcases ho.2 with ⟨_, h0⟩ | ⟨g, cp, cur, fz, rfl, hbg, hg, hf, hc, hm, hs, ht⟩
  · omega
  · refine ⟨g, cp, rfl, fun e => ?_, cur, 20, fz, by decide, hg, fun i hi => ?_⟩
    · subst e
      exact (h.wr.ty.ne (by decide)) ⟨cur, fz, hg⟩
    · obtain ⟨v, h1, h2⟩ := hp i hi
      refine ⟨v, ?_, h2⟩
      rw [← ht, List.getElem?_take_of_lt (by omega)] at h1
      simpa using h1
theorem let_lt {c : UInt8} (h : Let c) : c.toNat < 128 := by
  rcases h with rfl | rfl | rfl | rfl | rfl <;> decide
set_option maxRecDepth 100000 in
set_option maxHeartbeats 4000000 in
theorem instr_any (W0 : World) (B b : Nat) (l : List UInt8) (k : Nat) (hk : okN k) (x : Ins) (cs : List Value) (w : World) (hE : Env W0 w B) (h : Wr false B b l w) (hN : ∀ w', Below W0.heap.size W0 w' → NamesOk w') (hI : insC (· < B) w x cs)
    {l' : List UInt8} (hl' : l ++ lineT (insP k x (us (nrm x.op)).size) = l') (hl : l'.length ≤ lim) :
    Calls Tryd.prog 23 #[.pointer (some ⟨b, 0, none⟩), .int .i64 k, .agg cs.toArray] w fun e w' => StP false B b l' w e w' := by
  have HI := hide hI
  have hB := h.size
  obtain ⟨ho, al, cap, rfl, hr⟩ := hI
  have HC := hide (Name_any (w.alloc (.cells #[.int .i64 x.op, .int .i64 x.a, .int .i64 x.b, .int .i64 x.c, .int .i64 x.d, .slice al x.list.length cap] 34)) x.op (hN _ (hE.below.alloc (by have := hE.size; omega) _)))
  obtain ⟨u, hu⟩ : ∃ u, us (nrm x.op) = u := ⟨_, rfl⟩
  have HU := hide hu
  have hus := us_small (nrm x.op)
  rw [hu] at hus
  obtain ⟨P, hP⟩ : ∃ P : Nat → List Part, ∀ j, insP k x j = P j := ⟨_, fun _ => rfl⟩
  have HPn : Hid (∀ j (h : j < u.size), P j ++ [.s ⟨#[32]⟩, usedP x u[j]] = P (j + 1)) := hide (by subst hu; intro j h; rw [← hP, ← hP, insP_next k x j h])
  have HL : Hid (∀ j (h : j < u.size), Let u[j]) := hide (by subst hu; intro j h; exact letters_ok _ _ (by rw [us_at]; exact List.getElem_mem _))
  have HS : IS B b w l x al cap u (P 0) (.slice (some ⟨w.heap.size + 1, 0, none⟩) 4 4) 0 (((w.alloc (.cells #[.int .i64 x.op, .int .i64 x.a, .int .i64 x.b, .int .i64 x.c, .int .i64 x.d, .slice al x.list.length cap] 34)).alloc (.cells #[.iface 9 (.string ⟨#[9]⟩), .iface 3 (.int .i64 k), .iface 9 (.string ⟨#[32]⟩), .iface 9 (.string (nm (nrm x.op)))] 20)).alloc (.stringIter u 0)) := by
    have hbk : ∀ {w : World} (o p : Obj) (k : Nat), k < w.heap.size → (w.alloc o).heap[k]? = w.heap[k]? := fun o p k hk => Below.heap_alloc _ _ _ hk
    refine ⟨((h.alloc _).alloc _).alloc _, (((WF.refl B b w).alloc hB _).alloc (by simp; omega) _).alloc (by simp; omega) _, ?_, ?_, ?_⟩
    · have := heap_alloc_new ((w.alloc (.cells #[.int .i64 x.op, .int .i64 x.a, .int .i64 x.b, .int .i64 x.c, .int .i64 x.d, .slice al x.list.length cap] 34)).alloc (.cells #[.iface 9 (.string ⟨#[9]⟩), .iface 3 (.int .i64 k), .iface 9 (.string ⟨#[32]⟩), .iface 9 (.string (nm (nrm x.op)))] 20)) (.stringIter u 0)
      simpa using this
    · rw [Below.heap_alloc _ _ _ (by simp; omega), Below.heap_alloc _ _ _ (by simp)]
      exact heap_alloc_new w _
    · refine ⟨[.iface 9 (.string ⟨#[9]⟩), .iface 3 (.int .i64 k), .iface 9 (.string ⟨#[32]⟩), .iface 9 (.string (nm (nrm x.op)))], ?_, ?_⟩
      · have e : (P 0).length = 4 := by rw [← hP]; rfl
        rw [e]
        refine ⟨rfl, .inr ⟨w.heap.size + 1, 4, #[.iface 9 (.string ⟨#[9]⟩), .iface 3 (.int .i64 k), .iface 9 (.string ⟨#[32]⟩), .iface 9 (.string (nm (nrm x.op)))], (0, 0), rfl, Nat.le_refl _, ?_, by decide, by decide, by decide, rfl, rfl⟩⟩
        rw [Below.heap_alloc _ _ _ (by simp)]
        have := heap_alloc_new (w.alloc (.cells #[.int .i64 x.op, .int .i64 x.a, .int .i64 x.b, .int .i64 x.c, .int .i64 x.d, .slice al x.list.length cap] 34)) (.cells #[.iface 9 (.string ⟨#[9]⟩), .iface 3 (.int .i64 k), .iface 9 (.string ⟨#[32]⟩), .iface 9 (.string (nm (nrm x.op)))] 20)
        simpa using this
      · intro i hi
        have e0 : P 0 = [.s ⟨#[9]⟩, .n k, .s ⟨#[32]⟩, .s (nm (nrm x.op))] := by rw [← hP]; simp [insP]
        simp only [e0] at hi ⊢
        match i, hi with
        | 0, _ => exact ⟨_, rfl, rfl⟩
        | 1, _ => exact ⟨_, rfl, hk, rfl⟩
        | 2, _ => exact ⟨_, rfl, rfl⟩
        | 3, _ => exact ⟨_, rfl, rfl⟩
  have HLen : Hid (∀ j, (P j).length ≤ 12) := hide (fun j => by
    rw [← hP]
    have h1 : ∀ l : List UInt8, (l.flatMap fun c => [Part.s ⟨#[32]⟩, usedP x c]).length = 2 * l.length := by
      intro l
      induction l with
      | nil => rfl
      | cons a l ih => rw [List.flatMap_cons, List.length_append, ih]; simp; omega
    have h2 := us_small (nrm x.op)
    rw [us_size] at h2
    unfold insP
    rw [List.length_append, h1, List.length_take]
    simp only [List.length_cons, List.length_nil]
    omega)
  have HPos4 : Hid (0 < (P u.size).length) := hide (by rw [← hP]; unfold insP; rw [List.length_append]; simp only [List.length_cons, List.length_nil]; omega)
  have HUs := hide (fun w' => uses_any w' x.op)
  rw [hu] at HUs
  have HE := hide hl'
  rw [hu, hP] at HE
  have HLl := hide hl
  have HH := hide h
  clear hr ho hP hu hl' hl h
  go_enter Tryd.func23, Tryd.ntmps23
  go_wp2_with (go_at_call 11; refine (unhide HC).mono ?_)
  rintro e w1 ⟨rfl, rfl⟩
  clear HC
  go_wp2_with (go_at_call 27; refine ((unhide HUs) _).mono ?_)
  rintro e w1 ⟨rfl, rfl⟩
  clear HUs
  go_wp2
  go_loopw [6] (fun pv wr => ∃ j : Nat, j ≤ u.size ∧ IS B b w l x al cap u (P j) pv j wr) (fun _ wr => u.size - posOf wr (w.heap.size + 2))
  case atStart => exact ⟨0, Nat.zero_le _, HS⟩
  case round =>
    clear HS
    obtain ⟨j, hj, HS⟩ := hrel
    have hpos : posOf wr (w.heap.size + 2) = j := by unfold posOf; rw [HS.iter]
    have HPos := hide hpos
    clear hpos
    have hit : wr.heap[w.heap.size + 1 + 1]? = some (.stringIter u j) := HS.iter
    by_cases hlt : j < u.size
    · have hnx := fun ty => Lib.run_next_ascii_at (P := Tryd.prog) wr (w.heap.size + 1 + 1) u j ty hit hlt (let_lt ((unhide HL) j hlt))
      have HS1 := HS.next hB
      have HPn1 := hide ((unhide HPn) j hlt)
      have hlet := hide ((unhide HL) j hlt)
      obtain ⟨w1, hw1⟩ : ∃ w1, wr.iterAt (w.heap.size + 1 + 1) u (j + 1) = w1 := ⟨_, rfl⟩
      rw [hw1] at hnx
      replace HS1 : IS B b w l x al cap u (P j) _ (j + 1) w1 := hw1 ▸ HS1
      have c0 : w1.cell? ⟨w.heap.size, 0, none⟩ = some (.int .i64 x.op) := by rw [Lib.cell_of_heap HS1.ins]; rfl
      have c1 : w1.cell? ⟨w.heap.size, 1, none⟩ = some (.int .i64 x.a) := by rw [Lib.cell_of_heap HS1.ins]; rfl
      have c2 : w1.cell? ⟨w.heap.size, 2, none⟩ = some (.int .i64 x.b) := by rw [Lib.cell_of_heap HS1.ins]; rfl
      have c3 : w1.cell? ⟨w.heap.size, 3, none⟩ = some (.int .i64 x.c) := by rw [Lib.cell_of_heap HS1.ins]; rfl
      have c4 : w1.cell? ⟨w.heap.size, 4, none⟩ = some (.int .i64 x.d) := by rw [Lib.cell_of_heap HS1.ins]; rfl
      have c5 : w1.cell? ⟨w.heap.size, 5, none⟩ = some (.slice al x.list.length cap) := by rw [Lib.cell_of_heap HS1.ins]; rfl
      have HI1 := hide (insG.same (w' := w1) (fun k hk => HS1.wf.below.block k hk) (unhide HI))
      have HC := hide (used_any B w1 x _ u[j] HS1.wr.size (unhide HI1) (unhide hlet))
      clear HS hw1
      generalize u[j] = ch at *
      go_wp2_with (go_at_call 28; refine (unhide HC).mono ?_)
      rintro e w2 ⟨⟨v, rfl, hv⟩, hg2⟩
      have HS2 := HS1.grown hB hg2
      clear HC HS1 hg2
      obtain ⟨vt, vx, rfl⟩ := hv.iface
      have HSa := HS2.grown hB (World.grownBy_alloc w2 (.cells #[.iface 9 (.string ⟨#[32]⟩), .iface vt vx] 20) none)
      obtain ⟨vs, ho, hp⟩ := HSa.own
      obtain ⟨ao, cp, rfl⟩ := ownF_form ho
      obtain ⟨i0, hi0, hz0, hz1, hz2⟩ := info_parts info20
      have hPl : (P j).length ≤ 12 := (unhide HLen) j
      have HV : Hid (PartV B (w2.alloc (.cells #[.iface 9 (.string ⟨#[32]⟩), .iface vt vx] 20)) (usedP x ch) (.iface vt vx)) := hide (hv.same fun k hk => Below.heap_alloc _ _ _ (by have := HS2.wr.size; omega))
      have HP := hide hp
      have hsz2 : w.heap.size + 1 ≤ (w2.alloc (.cells #[.iface 9 (.string ⟨#[32]⟩), .iface vt vx] 20)).heap.size := by have := HS2.wf.below.size; simp; omega
      clear hv hp HS2 hnx hit
      go_wp2_with (at_builtin; refine wpList_append_ownF _ rfl _ _ 54 rfl (w.heap.size + 1) 20 i0 .nilIface 1 16 Tryd.underlying54 hi0 hz0 hz1 hz2 rfl (by decide) _ _ _ rfl ho ⟨w2.heap.size, 0, none⟩ 2 2 [.iface 9 (.string ⟨#[32]⟩), .iface vt vx] rfl rfl ?c1 ?c2 ?c3 ?c4 ?c5 ?_)
      case c1 =>
        intro j u hj
        match j, hj with
        | 0, hj => simp at hj; subst hj; simp [Addr.add]
        | 1, hj => simp at hj; subst hj; simp [Addr.add]
      case c2 =>
        intro u hu
        rcases List.mem_cons.1 hu with rfl | hu
        · rfl
        · rcases List.mem_cons.1 hu with rfl | hu
          · rfl
          · cases hu
      case c3 => unfold maxLen; omega
      case c4 => omega
      case c5 => exact hsz2
      intro pv' w3 hown' hgrow _
      have HS3 := HSa.push hB ho (unhide HP) (p := .s ⟨#[32]⟩) (q := usedP x ch) rfl (unhide HV) hown' hgrow
      rw [unhide HPn1] at HS3
      clear hown' hgrow ho HSa
      go_wp2
      go_roundw
      case rel => exact ⟨j + 1, by omega, HS3⟩
      case measure =>
        have : posOf w3 (w.heap.size + 2) = j + 1 := by unfold posOf; rw [HS3.iter]
        rw [unhide HPos, this]
        omega
    · obtain rfl : j = u.size := by omega
      have hnx := fun ty => Lib.run_next_end_at (P := Tryd.prog) wr (w.heap.size + 1 + 1) u u.size ty hit hlt
      have hlen := (unhide HLen) u.size
      obtain ⟨g, cp, rfl, hPa⟩ := HS.parts (unhide HPos4)
      have HC := hide (line_any W0 B b l (P u.size) g cp wr ((HS.wr.st.env (St.env ⟨HS.wr, HS.wf⟩ hE))) HS.wr hPa (by omega) (unhide HE) (unhide HLl))
      have HSt : St false B b l w wr := ⟨HS.wr, HS.wf⟩
      clear hPa HS hit HPos
      go_wp2_with (go_at_call 13; refine (unhide HC).mono ?_)
      rintro e w2 ⟨⟨v2, rfl⟩, H2⟩
      have HS := St.put HSt (e := .returned v2) ⟨⟨_, rfl⟩, H2.wr, H2.wf⟩
      clear HC H2
      go_wp2
      go_end0
      exact ⟨⟨_, rfl⟩, HS⟩
end Go.Proofs.YtipnefogflpkhaaDoor
