/- Two programs, held against each other. -/
import Derived.Test.YtfkjjljhabjcjaaDoorCq
import Derived.Deep.LoopGhost
namespace Go.Proofs.YtfkjjljhabjcjaaDoor
open Go.RowKit Go.Proofs.YtfkjjljhabjcjaaDoor.Cx
def SameP (x y : Prg) (w : World) (e : Ending) (w' : World) : Prop := Fr (fun _ => False) w w' ∧ ∃ r : Bool, e = .returned (.bool r) ∧ (r = true ↔ x = y)
theorem SameP.no {x y : Prg} {w w' : World} (h : x ≠ y) (hF : Fr (fun _ => False) w w') : SameP x y w (.returned (.bool false)) w' := ⟨hF, false, rfl, by simp [h]⟩
theorem SameP.yes {x y : Prg} {w w' : World} (h : x = y) (hF : Fr (fun _ => False) w w') : SameP x y w (.returned (.bool true)) w' := ⟨hF, true, rfl, by simp [h]⟩
theorem row_at {α : Type} {C : (Nat → Prop) → World → α → List Value → Prop} (g : Gd C) {size n : Nat} {w wr : World} {l : List α} {a : Option Addr} (h : RowOf C size (· < n) w l a) (hn : n ≤ w.heap.size) (hF : Fr (fun _ => False) w wr) : RowOf C size (· < n) wr l a :=
  g.rowS (fun k hk => hF.block k (Nat.lt_of_lt_of_le hk hn) id) h
theorem str_ne {s t : ByteArray} (h : ¬ s = t) : (s.toList == t.toList) = false := by
  rw [ByteArray.toList_eq, ByteArray.toList_eq]
  simp only [beq_eq_false_iff_ne, ne_eq]
  exact fun e => h (Go.WideShapes.bytes_inj e)
theorem fnc_cells {S : Nat → Prop} {w : World} {f : Fnc} {cs : List Value} (h : fncC S w f cs) : ∃ s rl p q r cl aa ca ab cb, cs = [.string s, .slice aa rl ca, .int .i64 p, .int .i64 q, .bool r, .slice ab cl cb] ∧ Hid (f.name = s) ∧ Hid (f.refs.length = rl) ∧ Hid (f.params = p) ∧ Hid (f.captures = q) ∧ Hid (f.result = r) ∧ Hid (f.code.length = cl) ∧ Hid (RowOf flagC 1 S w f.refs aa) ∧ Hid (RowOf insC 6 S w f.code ab) ∧ rl ≤ 281474976710656 ∧ cl ≤ 281474976710656 := by
  obtain ⟨_, aa, ca, ab, cb, rfl, hr, hk⟩ := h
  exact ⟨_, _, _, _, _, _, aa, ca, ab, cb, rfl, hide rfl, hide rfl, hide rfl, hide rfl, hide rfl, hide rfl, hide hr, hide hk, hr.1, hk.1⟩
theorem ins_cells {S : Nat → Prop} {w : World} {f : Ins} {cs : List Value} (h : insC S w f cs) : ∃ p0 p1 p2 p3 p4 l aa ca, cs = [.int .i64 p0, .int .i64 p1, .int .i64 p2, .int .i64 p3, .int .i64 p4, .slice aa l ca] ∧ Hid (f.op = p0) ∧ Hid (f.a = p1) ∧ Hid (f.b = p2) ∧ Hid (f.c = p3) ∧ Hid (f.d = p4) ∧ Hid (f.list.length = l) ∧ Hid (RowOf numC 1 S w f.list aa) := by
  obtain ⟨_, aa, ca, rfl, hr⟩ := h
  exact ⟨_, _, _, _, _, _, aa, ca, rfl, hide rfl, hide rfl, hide rfl, hide rfl, hide rfl, hide rfl, hide hr⟩
theorem pair_next {α : Type} {l m : List α} {i : Nat} (hI : ∀ j (h1 : j < l.length) (h2 : j < m.length), j < i → l[j] = m[j]) (h1 : i < l.length) (h2 : i < m.length) (he : l[i] = m[i]) : ∀ j (h1 : j < l.length) (h2 : j < m.length), j < i + 1 → l[j] = m[j] := fun j g1 g2 hj => by
  rcases Nat.lt_or_ge j i with h3 | h3
  · exact hI j g1 g2 h3
  · obtain rfl : j = i := by omega
    exact he
set_option maxRecDepth 100000 in
set_option maxHeartbeats 16000000 in
theorem same_core (x y : Prg) (n1 n2 n3 n4 m1 m2 m3 m4 : Nat) (n5 m5 : Int) (a1 a2 a3 a4 b1 b2 b3 b4 : Option Addr) (ac1 ac2 ac3 ac4 bc1 bc2 bc3 bc4 : Nat) (w : World)
    (L1 : Hid (x.texts.length = n1)) (L2 : Hid (x.globals.length = n2)) (L3 : Hid (x.structs.length = n3)) (L4 : Hid (x.funcs.length = n4)) (L5 : Hid (x.main = n5))
    (M1 : Hid (y.texts.length = m1)) (M2 : Hid (y.globals.length = m2)) (M3 : Hid (y.structs.length = m3)) (M4 : Hid (y.funcs.length = m4)) (M5 : Hid (y.main = m5))
    (H1 : Hid (RowOf textC 1 (· < w.heap.size) w x.texts a1)) (H2 : Hid (RowOf flagC 1 (· < w.heap.size) w x.globals a2)) (H3 : Hid (RowOf (listC flagC 1) 1 (· < w.heap.size) w x.structs a3)) (H4 : Hid (RowOf fncC 6 (· < w.heap.size) w x.funcs a4))
    (K1 : Hid (RowOf textC 1 (· < w.heap.size) w y.texts b1)) (K2 : Hid (RowOf flagC 1 (· < w.heap.size) w y.globals b2)) (K3 : Hid (RowOf (listC flagC 1) 1 (· < w.heap.size) w y.structs b3)) (K4 : Hid (RowOf fncC 6 (· < w.heap.size) w y.funcs b4)) :
    Calls Tryd.prog 12 #[.agg #[.slice a1 n1 ac1, .slice a2 n2 ac2, .slice a3 n3 ac3, .slice a4 n4 ac4, .int .i64 n5], .agg #[.slice b1 m1 bc1, .slice b2 m2 bc2, .slice b3 m3 bc3, .slice b4 m4 bc4, .int .i64 m5]] w fun e w' => SameP x y w e w' := by
  have l1 : n1 ≤ 281474976710656 := by have := (unhide H1).1; rw [unhide L1] at this; exact this
  have l3 : n3 ≤ 281474976710656 := by have := (unhide H3).1; rw [unhide L3] at this; exact this
  have l4 : n4 ≤ 281474976710656 := by have := (unhide H4).1; rw [unhide L4] at this; exact this
  have k1 : m1 ≤ 281474976710656 := by have := (unhide K1).1; rw [unhide M1] at this; exact this
  have k3 : m3 ≤ 281474976710656 := by have := (unhide K3).1; rw [unhide M3] at this; exact this
  have k4 : m4 ≤ 281474976710656 := by have := (unhide K4).1; rw [unhide M4] at this; exact this
  have HFW : Hid (Fr (fun _ => False) w ((w.alloc (.cells #[.slice a1 n1 ac1, .slice a2 n2 ac2, .slice a3 n3 ac3, .slice a4 n4 ac4, .int .i64 n5] 27)).alloc (.cells #[.slice b1 m1 bc1, .slice b2 m2 bc2, .slice b3 m3 bc3, .slice b4 m4 bc4, .int .i64 m5] 27))) := hide (((Fr.refl _ w).alloc _).alloc _)
  have HG := hide (flags_eq x.globals y.globals a2 b2 ac2 bc2 _ _ ((w.alloc (.cells #[.slice a1 n1 ac1, .slice a2 n2 ac2, .slice a3 n3 ac3, .slice a4 n4 ac4, .int .i64 n5] 27)).alloc (.cells #[.slice b1 m1 bc1, .slice b2 m2 bc2, .slice b3 m3 bc3, .slice b4 m4 bc4, .int .i64 m5] 27)) (row_at flagG (unhide H2) (Nat.le_refl _) (unhide HFW)) (row_at flagG (unhide K2) (Nat.le_refl _) (unhide HFW)))
  rw [unhide L2, unhide M2] at HG
  have e1 : (w.alloc (.cells #[.slice a1 n1 ac1, .slice a2 n2 ac2, .slice a3 n3 ac3, .slice a4 n4 ac4, .int .i64 n5] 27)).heap.size = w.heap.size + 1 := by simp
  have BCX : Hid (∀ j v, #[.slice a1 n1 ac1, .slice a2 n2 ac2, .slice a3 n3 ac3, .slice a4 n4 ac4, .int .i64 n5][j]? = some v → ∀ W, Fr (fun _ => False) ((w.alloc (.cells #[.slice a1 n1 ac1, .slice a2 n2 ac2, .slice a3 n3 ac3, .slice a4 n4 ac4, .int .i64 n5] 27)).alloc (.cells #[.slice b1 m1 bc1, .slice b2 m2 bc2, .slice b3 m3 bc3, .slice b4 m4 bc4, .int .i64 m5] 27)) W → W.cell? ⟨w.heap.size, j, none⟩ = some v) := hide fun j v hj W hW => hW.cell (((Fr.refl (fun _ => False) _).alloc _).cell (by rw [World.cell?_alloc_at _ _ _ _ rfl]; exact hj) id) id
  have BCY : Hid (∀ j v, #[.slice b1 m1 bc1, .slice b2 m2 bc2, .slice b3 m3 bc3, .slice b4 m4 bc4, .int .i64 m5][j]? = some v → ∀ W, Fr (fun _ => False) ((w.alloc (.cells #[.slice a1 n1 ac1, .slice a2 n2 ac2, .slice a3 n3 ac3, .slice a4 n4 ac4, .int .i64 n5] 27)).alloc (.cells #[.slice b1 m1 bc1, .slice b2 m2 bc2, .slice b3 m3 bc3, .slice b4 m4 bc4, .int .i64 m5] 27)) W → W.cell? ⟨w.heap.size + 1, j, none⟩ = some v) := hide fun j v hj W hW => hW.cell (by rw [World.cell?_alloc_at _ _ _ _ e1.symm]; exact hj) id
  clear e1
  go_enter Tryd.func12, Tryd.ntmps12
  by_cases q1 : n1 = m1
  · subst q1
    go_wp2_with fail
    refine (unhide HG).mono ?_
    rintro e w1 ⟨r, rfl, hr, rfl⟩
    have HR := hide hr
    clear hr HG
    cases r with
    | false =>
      have HNE : Hid (x ≠ y) := hide fun e => by have := (unhide HR).2 (by rw [e]); cases this
      go_wp2
      all_goals (go_ret; exact SameP.no (unhide HNE) (unhide HFW))
    | true =>
      have HGE : Hid (x.globals = y.globals) := hide ((unhide HR).1 rfl)
      by_cases q3 : n3 = m3
      · subst q3
        by_cases q4 : n4 = m4
        · subst q4
          by_cases q5 : n5 = m5
          · subst q5
            go_wp2
            generalize ((w.alloc (.cells #[.slice a1 n1 ac1, .slice a2 n2 ac2, .slice a3 n3 ac3, .slice a4 n4 ac4, .int .i64 n5] 27)).alloc (.cells #[.slice b1 n1 bc1, .slice b2 m2 bc2, .slice b3 n3 bc3, .slice b4 n4 bc4, .int .i64 n5] 27)) = W0 at *
            go_loopw [58] (fun t wr => ∃ i : Nat, i ≤ n1 ∧ t = .int .i64 i ∧ Hid ((∀ j (h1 : j < x.texts.length) (h2 : j < y.texts.length), j < i → x.texts[j] = y.texts[j]) ∧ Fr (fun _ => False) W0 wr)) (fun t _ => n1 - (intOf t).toNat)
            case atStart => exact ⟨0, by omega, rfl, hide ⟨fun j _ _ h => by omega, Fr.refl _ _⟩⟩
            case round =>
              obtain ⟨i, hi, rfl, hI⟩ := hrel
              by_cases hlt : i < n1
              · have hx : i < x.texts.length := by rw [unhide L1]; exact hlt
                have hy : i < y.texts.length := by rw [unhide M1]; exact hlt
                obtain ⟨b, off, cs, e1, _, hc, hcell⟩ := row_get textG (unhide H1) (fun k hk => hk) ((unhide HFW).trans (unhide hI).2) hx
                obtain ⟨b', off', cs', e1', _, hc', hcell'⟩ := row_get textG (unhide K1) (fun k hk => hk) ((unhide HFW).trans (unhide hI).2) hy
                obtain ⟨_, rfl⟩ := hc
                obtain ⟨_, rfl⟩ := hc'
                have d0 : wr.cell? ⟨b, off + i, none⟩ = some (.string x.texts[i]) := by have := hcell 0 _ rfl; simpa using this
                have d1 : wr.cell? ⟨b', off' + i, none⟩ = some (.string y.texts[i]) := by have := hcell' 0 _ rfl; simpa using this
                have bx := (unhide BCY) 0 _ rfl wr (unhide hI).2
                subst e1 e1'
                clear hcell hcell'
                by_cases hs : x.texts[i] = y.texts[i]
                · have HX := hide (pair_next (unhide hI).1 hx hy hs)
                  rw [← hs] at d1
                  clear hs
                  generalize x.texts[i] = s at *
                  go_wp2
                  go_roundw
                  case rel => exact ⟨i + 1, by omega, rfl, hide ⟨unhide HX, (unhide hI).2⟩⟩
                  case measure => simp [intOf]; omega
                · have HNE : Hid (x ≠ y) := hide fun e => hs (by subst e; rfl)
                  have hs' := str_ne hs
                  clear hs
                  generalize x.texts[i] = s at *
                  generalize y.texts[i] = s2 at *
                  go_wp2
                  go_ret
                  exact SameP.no (unhide HNE) ((unhide HFW).trans (unhide hI).2)
              · have HTX : Hid (x.texts = y.texts) := hide (list_eq_of (by rw [unhide L1, unhide M1]) fun j h1 h2 => (unhide hI).1 j h1 h2 (by rw [unhide L1] at h1; omega))
                have HF1 := hide (unhide hI).2
                have bx := (unhide BCX) 2 _ rfl wr (unhide hI).2
                clear hI
                go_wp2
                go_loopw [74] (fun t wr => ∃ i : Nat, i ≤ n3 ∧ t = .int .i64 i ∧ Hid ((∀ j (h1 : j < x.structs.length) (h2 : j < y.structs.length), j < i → x.structs[j] = y.structs[j]) ∧ Fr (fun _ => False) W0 wr)) (fun t _ => n3 - (intOf t).toNat)
                case atStart => exact ⟨0, by omega, rfl, hide ⟨fun j _ _ h => by omega, unhide HF1⟩⟩
                case round =>
                  obtain ⟨i, hi, rfl, hI⟩ := hrel
                  by_cases hlt : i < n3
                  · have hx : i < x.structs.length := by rw [unhide L3]; exact hlt
                    have hy : i < y.structs.length := by rw [unhide M3]; exact hlt
                    obtain ⟨b, off, cs, e1, _, hc, hcell⟩ := row_get (listG flagG 1) (unhide H3) (fun k hk => hk) ((unhide HFW).trans (unhide hI).2) hx
                    obtain ⟨b', off', cs', e1', _, hc', hcell'⟩ := row_get (listG flagG 1) (unhide K3) (fun k hk => hk) ((unhide HFW).trans (unhide hI).2) hy
                    obtain ⟨aa, ca, rfl, hra⟩ := hc
                    obtain ⟨ab, cb, rfl, hrb⟩ := hc'
                    have d0 : wr.cell? ⟨b, off + i, none⟩ = some (.slice aa x.structs[i].length ca) := by have := hcell 0 _ rfl; simpa using this
                    have d1 : wr.cell? ⟨b', off' + i, none⟩ = some (.slice ab y.structs[i].length cb) := by have := hcell' 0 _ rfl; simpa using this
                    have bx := (unhide BCY) 2 _ rfl wr (unhide hI).2
                    have HC := hide (flags_eq x.structs[i] y.structs[i] aa ab ca cb _ _ wr hra hrb)
                    have HX := hide (fun he => pair_next (unhide hI).1 hx hy he)
                    have HNE : Hid (x.structs[i] ≠ y.structs[i] → x ≠ y) := hide fun h e => h (by subst e; rfl)
                    subst e1 e1'
                    clear hcell hcell' hra hrb
                    generalize x.structs[i] = s at *
                    generalize y.structs[i] = s2 at *
                    go_wp2_with fail
                    refine (unhide HC).mono ?_
                    rintro e w1 ⟨r, rfl, hr, rfl⟩
                    cases r with
                    | true =>
                      have HY := hide (unhide HX (hr.1 rfl))
                      clear hr HC HX HNE
                      go_wp2
                      go_roundw
                      case rel => exact ⟨i + 1, by omega, rfl, hide ⟨unhide HY, (unhide hI).2⟩⟩
                      case measure => simp [intOf]; omega
                    | false =>
                      have HN2 := hide (unhide HNE fun e => by have := hr.2 e; cases this)
                      clear hr HC HX HNE
                      go_wp2
                      go_ret
                      exact SameP.no (unhide HN2) ((unhide HFW).trans (unhide hI).2)
                  · have HSX : Hid (x.structs = y.structs) := hide (list_eq_of (by rw [unhide L3, unhide M3]) fun j h1 h2 => (unhide hI).1 j h1 h2 (by rw [unhide L3] at h1; omega))
                    have HF2 := hide (unhide hI).2
                    have bx := (unhide BCX) 3 _ rfl wr (unhide hI).2
                    clear hI
                    go_wp2
                    go_loopw [91] (fun t wr => ∃ i : Nat, i ≤ n4 ∧ t = .int .i64 i ∧ Hid ((∀ j (h1 : j < x.funcs.length) (h2 : j < y.funcs.length), j < i → x.funcs[j] = y.funcs[j]) ∧ Fr (fun _ => False) W0 wr)) (fun t _ => n4 - (intOf t).toNat)
                    case atStart => exact ⟨0, by omega, rfl, hide ⟨fun j _ _ h => by omega, unhide HF2⟩⟩
                    case round =>
                      obtain ⟨i, hi, rfl, hI⟩ := hrel
                      by_cases hlt : i < n4
                      · have hx : i < x.funcs.length := by rw [unhide L4]; exact hlt
                        have hy : i < y.funcs.length := by rw [unhide M4]; exact hlt
                        obtain ⟨b, off, cs, e1, hSb, hc, hcell⟩ := row_get fncG (unhide H4) (fun k hk => hk) ((unhide HFW).trans (unhide hI).2) hx
                        obtain ⟨b', off', cs', e1', hSb', hc', hcell'⟩ := row_get fncG (unhide K4) (fun k hk => hk) ((unhide HFW).trans (unhide hI).2) hy
                        obtain ⟨s, rl, p, q, r, cl, aa, ca, ab, cb, rfl, T0, T1, T2, T3, T4, T5, R1, R2, hrl, hcl⟩ := fnc_cells hc
                        obtain ⟨s2, rl2, p2, q2, r2, cl2, aa2, ca2, ab2, cb2, rfl, U0, U1, U2, U3, U4, U5, V1, V2, hrl2, hcl2⟩ := fnc_cells hc'
                        have d0 : wr.cell? ⟨b, off + i * 6, none⟩ = some (.string s) := by have := hcell 0 _ rfl; simpa using this
                        have d1 : wr.cell? ⟨b, off + i * 6 + 1, none⟩ = some (.slice aa rl ca) := by have := hcell 1 _ rfl; simpa using this
                        have d2 : wr.cell? ⟨b, off + i * 6 + 2, none⟩ = some (.int .i64 p) := by have := hcell 2 _ rfl; simpa using this
                        have d3 : wr.cell? ⟨b, off + i * 6 + 3, none⟩ = some (.int .i64 q) := by have := hcell 3 _ rfl; simpa using this
                        have d4 : wr.cell? ⟨b, off + i * 6 + 4, none⟩ = some (.bool r) := by have := hcell 4 _ rfl; simpa using this
                        have d5 : wr.cell? ⟨b, off + i * 6 + 5, none⟩ = some (.slice ab cl cb) := by have := hcell 5 _ rfl; simpa using this
                        have g0 : wr.cell? ⟨b', off' + i * 6, none⟩ = some (.string s2) := by have := hcell' 0 _ rfl; simpa using this
                        have g1 : wr.cell? ⟨b', off' + i * 6 + 1, none⟩ = some (.slice aa2 rl2 ca2) := by have := hcell' 1 _ rfl; simpa using this
                        have g2 : wr.cell? ⟨b', off' + i * 6 + 2, none⟩ = some (.int .i64 p2) := by have := hcell' 2 _ rfl; simpa using this
                        have g3 : wr.cell? ⟨b', off' + i * 6 + 3, none⟩ = some (.int .i64 q2) := by have := hcell' 3 _ rfl; simpa using this
                        have g4 : wr.cell? ⟨b', off' + i * 6 + 4, none⟩ = some (.bool r2) := by have := hcell' 4 _ rfl; simpa using this
                        have g5 : wr.cell? ⟨b', off' + i * 6 + 5, none⟩ = some (.slice ab2 cl2 cb2) := by have := hcell' 5 _ rfl; simpa using this
                        have bx := (unhide BCY) 3 _ rfl wr (unhide hI).2
                        have hbb : b < wr.heap.size := World.block_lt_of_cell? wr ⟨b, off + i * 6, none⟩ d0
                        have hbb' : b' < wr.heap.size := World.block_lt_of_cell? wr ⟨b', off' + i * 6, none⟩ g0
                        have hbx : w.heap.size + 1 < wr.heap.size := World.block_lt_of_cell? wr ⟨w.heap.size + 1, 3, none⟩ bx
                        have hwr : w.heap.size ≤ wr.heap.size := ((unhide HFW).trans (unhide hI).2).size
                        have HX := hide (fun he => pair_next (unhide hI).1 hx hy he)
                        have HN0 : Hid (x.funcs[i] ≠ y.funcs[i] → x ≠ y) := hide fun h e => h (by subst e; rfl)
                        subst e1 e1'
                        clear hcell hcell' hc hc'
                        generalize x.funcs[i] = f at *
                        generalize y.funcs[i] = f2 at *
                        have HFF : Hid (Fr (fun _ => False) w ((wr.alloc (.cells #[.string s, .slice aa rl ca, .int .i64 p, .int .i64 q, .bool r, .slice ab cl cb] 38)).alloc (.cells #[.string s2, .slice aa2 rl2 ca2, .int .i64 p2, .int .i64 q2, .bool r2, .slice ab2 cl2 cb2] 38))) := hide ((((unhide HFW).trans (unhide hI).2).alloc _).alloc _)
                        have HC := hide (flags_eq f.refs f2.refs aa aa2 ca ca2 _ _ ((wr.alloc (.cells #[.string s, .slice aa rl ca, .int .i64 p, .int .i64 q, .bool r, .slice ab cl cb] 38)).alloc (.cells #[.string s2, .slice aa2 rl2 ca2, .int .i64 p2, .int .i64 q2, .bool r2, .slice ab2 cl2 cb2] 38)) (row_at flagG (unhide R1) hwr (((Fr.refl _ wr).alloc _).alloc _)) (row_at flagG (unhide V1) hwr (((Fr.refl _ wr).alloc _).alloc _)))
                        rw [unhide T1, unhide U1] at HC
                        by_cases z0 : s = s2
                        · subst z0
                          go_wp2_with fail
                          refine (unhide HC).mono ?_
                          rintro e w1 ⟨rr, rfl, hr, rfl⟩
                          have HR := hide hr
                          clear hr HC
                          cases rr with
                          | false =>
                            have HNE : Hid (x ≠ y) := hide fun e => unhide HN0 (fun e2 => by have := (unhide HR).2 (by rw [e2]); cases this) e
                            go_wp2
                            all_goals (go_ret; exact SameP.no (unhide HNE) (unhide HFF))
                          | true =>
                            by_cases z2 : p = p2
                            · subst z2
                              by_cases z3 : q = q2
                              · subst z3
                                by_cases z4 : r = r2
                                · subst z4
                                  by_cases z5 : cl = cl2
                                  · subst z5
                                    have e1 : (wr.alloc (.cells #[.string s, .slice aa rl ca, .int .i64 p, .int .i64 q, .bool r, .slice ab cl cb] 38)).heap.size = wr.heap.size + 1 := by simp
                                    have BV : Hid (∀ W, Fr (fun _ => False) ((wr.alloc (.cells #[.string s, .slice aa rl ca, .int .i64 p, .int .i64 q, .bool r, .slice ab cl cb] 38)).alloc (.cells #[.string s, .slice aa2 rl2 ca2, .int .i64 p, .int .i64 q, .bool r, .slice ab2 cl cb2] 38)) W → W.cell? ⟨wr.heap.size + 1, 5, none⟩ = some (.slice ab2 cl cb2)) := hide fun W hW => hW.cell (by rw [World.cell?_alloc_at _ _ _ _ e1.symm]; rfl) id
                                    have HW2 : Hid (Fr (fun _ => False) wr ((wr.alloc (.cells #[.string s, .slice aa rl ca, .int .i64 p, .int .i64 q, .bool r, .slice ab cl cb] 38)).alloc (.cells #[.string s, .slice aa2 rl2 ca2, .int .i64 p, .int .i64 q, .bool r, .slice ab2 cl cb2] 38))) := hide (((Fr.refl _ wr).alloc _).alloc _)
                                    clear e1
                                    go_wp2
                                    generalize ((wr.alloc (.cells #[.string s, .slice aa rl ca, .int .i64 p, .int .i64 q, .bool r, .slice ab cl cb] 38)).alloc (.cells #[.string s, .slice aa2 rl2 ca2, .int .i64 p, .int .i64 q, .bool r, .slice ab2 cl cb2] 38)) = W2 at *
                                    have HRX : Hid (f.refs = f2.refs) := hide ((unhide HR).1 (by first | rfl | trivial))
                                    have HWr : Hid (∀ W, Fr (fun _ => False) W2 W → Fr (fun _ => False) w W) := hide fun W h => (unhide HFF).trans h
                                    go_loopg [147] cl (fun gk t wr => ∃ j : Nat, j ≤ cl ∧ Hid (gk = cl - j) ∧ t = .int .i64 j ∧ Hid ((∀ k (h1 : k < f.code.length) (h2 : k < f2.code.length), k < j → f.code[k] = f2.code[k]) ∧ Fr (fun _ => False) W2 wr))
                                    case atStart => exact ⟨0, by omega, hide (by omega), rfl, hide ⟨fun j _ _ h => by omega, Fr.refl _ _⟩⟩
                                    case round =>
                                      obtain ⟨j, hj, hgk, rfl, hJ⟩ := hrel
                                      by_cases hjl : j < cl
                                      · have hx4 : j < f.code.length := by rw [unhide T5]; exact hjl
                                        have hy4 : j < f2.code.length := by rw [unhide U5]; exact hjl
                                        obtain ⟨b, off, cs, e1, _, hc, hcell⟩ := row_get insG (unhide R2) (fun k hk => Nat.lt_of_lt_of_le hk hwr) ((unhide HW2).trans (unhide hJ).2) hx4
                                        obtain ⟨b', off', cs', e1', _, hc', hcell'⟩ := row_get insG (unhide V2) (fun k hk => Nat.lt_of_lt_of_le hk hwr) ((unhide HW2).trans (unhide hJ).2) hy4
                                        obtain ⟨i0, i1, i2, i3, i4, il, ia, ic, rfl, S0, S1, S2, S3, S4, S5, S6⟩ := ins_cells hc
                                        obtain ⟨j0, j1, j2, j3, j4, jl, ja, jc, rfl, X0, X1, X2, X3, X4, X5, X6⟩ := ins_cells hc'
                                        have d0 : wr.cell? ⟨b, off + j * 6, none⟩ = some (.int .i64 i0) := by have := hcell 0 _ rfl; simpa using this
                                        have d1 : wr.cell? ⟨b, off + j * 6 + 1, none⟩ = some (.int .i64 i1) := by have := hcell 1 _ rfl; simpa using this
                                        have d2 : wr.cell? ⟨b, off + j * 6 + 2, none⟩ = some (.int .i64 i2) := by have := hcell 2 _ rfl; simpa using this
                                        have d3 : wr.cell? ⟨b, off + j * 6 + 3, none⟩ = some (.int .i64 i3) := by have := hcell 3 _ rfl; simpa using this
                                        have d4 : wr.cell? ⟨b, off + j * 6 + 4, none⟩ = some (.int .i64 i4) := by have := hcell 4 _ rfl; simpa using this
                                        have d5 : wr.cell? ⟨b, off + j * 6 + 5, none⟩ = some (.slice ia il ic) := by have := hcell 5 _ rfl; simpa using this
                                        have g0 : wr.cell? ⟨b', off' + j * 6, none⟩ = some (.int .i64 j0) := by have := hcell' 0 _ rfl; simpa using this
                                        have g1 : wr.cell? ⟨b', off' + j * 6 + 1, none⟩ = some (.int .i64 j1) := by have := hcell' 1 _ rfl; simpa using this
                                        have g2 : wr.cell? ⟨b', off' + j * 6 + 2, none⟩ = some (.int .i64 j2) := by have := hcell' 2 _ rfl; simpa using this
                                        have g3 : wr.cell? ⟨b', off' + j * 6 + 3, none⟩ = some (.int .i64 j3) := by have := hcell' 3 _ rfl; simpa using this
                                        have g4 : wr.cell? ⟨b', off' + j * 6 + 4, none⟩ = some (.int .i64 j4) := by have := hcell' 4 _ rfl; simpa using this
                                        have g5 : wr.cell? ⟨b', off' + j * 6 + 5, none⟩ = some (.slice ja jl jc) := by have := hcell' 5 _ rfl; simpa using this
                                        have bv := (unhide BV) wr (unhide hJ).2
                                        have hbb : b < wr.heap.size := World.block_lt_of_cell? wr ⟨b, off + j * 6, none⟩ d0
                                        have hbb' : b' < wr.heap.size := World.block_lt_of_cell? wr ⟨b', off' + j * 6, none⟩ g0
                                        have hbv := World.block_lt_of_cell? wr _ bv
                                        simp only [] at hbv
                                        have hwr4 : w.heap.size ≤ wr.heap.size := ((unhide HWr) _ (unhide hJ).2).size
                                        have HX4 := hide (fun he => pair_next (unhide hJ).1 hx4 hy4 he)
                                        have HM0 : Hid (f.code[j] ≠ f2.code[j] → x ≠ y) := hide fun h => unhide HN0 fun e => h (by subst e; rfl)
                                        have HF4 : Hid (Fr (fun _ => False) w ((wr.alloc (.cells #[.int .i64 i0, .int .i64 i1, .int .i64 i2, .int .i64 i3, .int .i64 i4, .slice ia il ic] 43)).alloc (.cells #[.int .i64 j0, .int .i64 j1, .int .i64 j2, .int .i64 j3, .int .i64 j4, .slice ja jl jc] 43))) := hide ((((unhide HWr) _ (unhide hJ).2).alloc _).alloc _)
                                        subst e1 e1'
                                        clear hcell hcell' hc hc'
                                        generalize f.code[j] = g at *
                                        generalize f2.code[j] = g' at *
                                        have HC := hide (ints_eq g.list g'.list ia ja ic jc _ _ ((wr.alloc (.cells #[.int .i64 i0, .int .i64 i1, .int .i64 i2, .int .i64 i3, .int .i64 i4, .slice ia il ic] 43)).alloc (.cells #[.int .i64 j0, .int .i64 j1, .int .i64 j2, .int .i64 j3, .int .i64 j4, .slice ja jl jc] 43)) (row_at numG (unhide S6) hwr4 (((Fr.refl _ wr).alloc _).alloc _)) (row_at numG (unhide X6) hwr4 (((Fr.refl _ wr).alloc _).alloc _)))
                                        rw [unhide S5, unhide X5] at HC
                                        by_cases y0 : i0 = j0
                                        · subst y0
                                          by_cases y1 : i1 = j1
                                          · subst y1
                                            by_cases y2 : i2 = j2
                                            · subst y2
                                              by_cases y3 : i3 = j3
                                              · subst y3
                                                by_cases y4 : i4 = j4
                                                · subst y4
                                                  go_wp2_with fail
                                                  refine (unhide HC).mono ?_
                                                  rintro e w1 ⟨rr, rfl, hr, rfl⟩
                                                  have HRR := hide hr
                                                  clear hr HC
                                                  cases rr with
                                                  | false =>
                                                    have HNE : Hid (x ≠ y) := hide (unhide HM0 fun e => by have := (unhide HRR).2 (by rw [e]); cases this)
                                                    go_wp2
                                                    all_goals (go_ret; exact SameP.no (unhide HNE) (unhide HF4))
                                                  | true =>
                                                    have HGG : Hid (g = g') := hide (Ins.inj g g' (by unfold Ins.tup; rw [unhide S0, unhide S1, unhide S2, unhide S3, unhide S4, unhide X0, unhide X1, unhide X2, unhide X3, unhide X4, (unhide HRR).1 rfl]))
                                                    have HY4 := hide (unhide HX4 (unhide HGG))
                                                    go_wp2
                                                    go_roundg (cl - (j + 1))
                                                    case measure => have := unhide hgk; omega
                                                    case rel => exact ⟨j + 1, by omega, hide rfl, by go_num, hide ⟨unhide HY4, ((unhide hJ).2.alloc _).alloc _⟩⟩
                                                · have y4' : (i4 == j4) = false := by simp [y4]
                                                  have HNE : Hid (x ≠ y) := hide (unhide HM0 fun e => y4 (by rw [← unhide S4, ← unhide X4, e]))
                                                  go_wp2
                                                  all_goals (go_ret; exact SameP.no (unhide HNE) (unhide HF4))
                                              · have y3' : (i3 == j3) = false := by simp [y3]
                                                have HNE : Hid (x ≠ y) := hide (unhide HM0 fun e => y3 (by rw [← unhide S3, ← unhide X3, e]))
                                                go_wp2
                                                all_goals (go_ret; exact SameP.no (unhide HNE) (unhide HF4))
                                            · have y2' : (i2 == j2) = false := by simp [y2]
                                              have HNE : Hid (x ≠ y) := hide (unhide HM0 fun e => y2 (by rw [← unhide S2, ← unhide X2, e]))
                                              go_wp2
                                              all_goals (go_ret; exact SameP.no (unhide HNE) (unhide HF4))
                                          · have y1' : (i1 == j1) = false := by simp [y1]
                                            have HNE : Hid (x ≠ y) := hide (unhide HM0 fun e => y1 (by rw [← unhide S1, ← unhide X1, e]))
                                            go_wp2
                                            all_goals (go_ret; exact SameP.no (unhide HNE) (unhide HF4))
                                        · have y0' : (i0 == j0) = false := by simp [y0]
                                          have HNE : Hid (x ≠ y) := hide (unhide HM0 fun e => y0 (by rw [← unhide S0, ← unhide X0, e]))
                                          go_wp2
                                          all_goals (go_ret; exact SameP.no (unhide HNE) (unhide HF4))
                                      · have HCX : Hid (f.code = f2.code) := hide (list_eq_of (by rw [unhide T5, unhide U5]) fun k h1 h2 => (unhide hJ).1 k h1 h2 (by rw [unhide T5] at h1; omega))
                                        have HFE : Hid (f = f2) := hide (Fnc.inj f f2 (by unfold Fnc.tup; rw [unhide T0, unhide U0, unhide HRX, unhide T2, unhide U2, unhide T3, unhide U3, unhide T4, unhide U4, unhide HCX]))
                                        have HY3 := hide (unhide HX (unhide HFE))
                                        have HFo := hide ((unhide hI).2.trans ((unhide HW2).trans (unhide hJ).2))
                                        go_wp2
                                        go_roundw
                                        case rel => exact ⟨i + 1, by omega, rfl, hide ⟨unhide HY3, unhide HFo⟩⟩
                                        case measure => simp [intOf]; omega

                                  · have z5' : ((cl : Int) == (cl2 : Int)) = false := by simp; omega
                                    have HNE : Hid (x ≠ y) := hide fun e => unhide HN0 (fun e2 => z5 (by rw [← unhide T5, ← unhide U5, e2])) e
                                    go_wp2
                                    all_goals (go_ret; exact SameP.no (unhide HNE) (unhide HFF))
                                · have z4' : (r == r2) = false := by simp [z4]
                                  have HNE : Hid (x ≠ y) := hide fun e => unhide HN0 (fun e2 => z4 (by rw [← unhide T4, ← unhide U4, e2])) e
                                  go_wp2
                                  all_goals (go_ret; exact SameP.no (unhide HNE) (unhide HFF))
                              · have z3' : (q == q2) = false := by simp [z3]
                                have HNE : Hid (x ≠ y) := hide fun e => unhide HN0 (fun e2 => z3 (by rw [← unhide T3, ← unhide U3, e2])) e
                                go_wp2
                                all_goals (go_ret; exact SameP.no (unhide HNE) (unhide HFF))
                            · have z2' : (p == p2) = false := by simp [z2]
                              have HNE : Hid (x ≠ y) := hide fun e => unhide HN0 (fun e2 => z2 (by rw [← unhide T2, ← unhide U2, e2])) e
                              go_wp2
                              all_goals (go_ret; exact SameP.no (unhide HNE) (unhide HFF))
                        · have z0' := str_ne z0
                          have HNE : Hid (x ≠ y) := hide fun e => unhide HN0 (fun e2 => z0 (by rw [← unhide T0, ← unhide U0, e2])) e
                          go_wp2
                          all_goals (go_ret; exact SameP.no (unhide HNE) (unhide HFF))
                      · have HFX : Hid (x.funcs = y.funcs) := hide (list_eq_of (by rw [unhide L4, unhide M4]) fun j h1 h2 => (unhide hI).1 j h1 h2 (by rw [unhide L4] at h1; omega))
                        have HEQ : Hid (x = y) := hide (Prg.inj x y (by unfold Prg.tup; rw [unhide HTX, unhide HGE, unhide HSX, unhide HFX, unhide L5, unhide M5]))
                        go_wp2
                        go_ret
                        exact SameP.yes (unhide HEQ) ((unhide HFW).trans (unhide hI).2)

          · have HNE : Hid (x ≠ y) := hide fun e => q5 (by rw [← unhide L5, ← unhide M5, e])
            go_wp2
            all_goals (go_ret; exact SameP.no (unhide HNE) (unhide HFW))
        · have HNE : Hid (x ≠ y) := hide fun e => q4 (by rw [← unhide L4, ← unhide M4, e])
          go_wp2
          all_goals (go_ret; exact SameP.no (unhide HNE) (unhide HFW))
      · have HNE : Hid (x ≠ y) := hide fun e => q3 (by rw [← unhide L3, ← unhide M3, e])
        go_wp2
        all_goals (go_ret; exact SameP.no (unhide HNE) (unhide HFW))
  · have HNE : Hid (x ≠ y) := hide fun e => q1 (by rw [← unhide L1, ← unhide M1, e])
    go_wp2
    all_goals (go_ret; exact SameP.no (unhide HNE) (unhide HFW))
theorem same_any (x y : Prg) (cx cy : List Value) (w : World) (hX : prgC (· < w.heap.size) w x cx) (hY : prgC (· < w.heap.size) w y cy) :
    Calls Tryd.prog 12 #[.agg cx.toArray, .agg cy.toArray] w fun e w' => SameP x y w e w' := by
  obtain ⟨_, a1, ac1, a2, ac2, a3, ac3, a4, ac4, rfl, h1, h2, h3, h4⟩ := hX
  obtain ⟨_, b1, bc1, b2, bc2, b3, bc3, b4, bc4, rfl, k1, k2, k3, k4⟩ := hY
  exact same_core x y _ _ _ _ _ _ _ _ _ _ a1 a2 a3 a4 b1 b2 b3 b4 ac1 ac2 ac3 ac4 bc1 bc2 bc3 bc4 w (hide rfl) (hide rfl) (hide rfl) (hide rfl) (hide rfl) (hide rfl) (hide rfl) (hide rfl) (hide rfl) (hide rfl) (hide h1) (hide h2) (hide h3) (hide h4) (hide k1) (hide k2) (hide k3) (hide k4)
end Go.Proofs.YtfkjjljhabjcjaaDoor
