/- CodeReads, walked. -/
import Derived.Test.YtfkjjljhabjcjaaDoorLr
import Derived.Test.YtfkjjljhabjcjaaDoorLt
namespace Go.Proofs.YtfkjjljhabjcjaaDoor
open Go.RowKit Go.Proofs.YtfkjjljhabjcjaaDoor.Cx
def prg0 : Prg := ⟨[], [], [], [], 0⟩
theorem prg0_at (S : Nat → Prop) (w : World) : prgC S w prg0 zero5 := ⟨by unfold okN prg0; decide, none, 0, none, 0, none, 0, none, 0, rfl, rowNil _ _ _ _ _, rowNil _ _ _ _ _, rowNil _ _ _ _ _, rowNil _ _ _ _ _⟩
set_option maxRecDepth 100000 in
set_option maxHeartbeats 8000000 in
theorem reads_w (pe pf : Addr) (l : List UInt8) (a : Option Addr) (cap : Nat) (r : Int) (w : World) (hv : Vars w pe pf) (hl : l.length ≤ cap) (hB : RowOf byteC 1 (· < w.heap.size) w l a) (hr : okN r) :
    Calls Tryd.prog 6 #[.slice a l.length cap, .int .i64 r] w fun e w' => e = .returned (.bool true) ∧ Below w.heap.size w w' := by
  have hll := hB.1
  have HV := hide hv
  have HB := hide (row_bytes hB)
  have HR := hide hr
  obtain ⟨hr1, hr2⟩ := hr
  have HA := hide (anchor_any pe pf w hv)
  clear hv hB
  go_enter Tryd.func6, Tryd.ntmps6
  go_wp2_with fail
  refine (unhide HA).mono ?_
  rintro e w1 ⟨rfl, hF1⟩
  have HF1 := hide hF1
  clear hF1 HA
  by_cases hbig : l.length ≤ 20000
  · have hbig' : ¬ (20000 : Int) < (l.length : Int) := by omega
    have HD := hide (Decode_any pe pf l a cap w1 ((unhide HV).fr (unhide HF1)) ((unhide HB).fr (unhide HF1)) (by omega) hl)
    go_wp2_with fail
    refine (unhide HD).mono ?_
    rintro e w2 ⟨hF2, ⟨y, cy, hy1, hy2, rfl, hy3⟩ | ⟨_, rfl⟩⟩
    · have HF2 := hide ((unhide HF1).trans hF2)
      have HY := hide (prgG.mono (S' := (· < w2.heap.size)) (fun _ hk => hk.2) hy3)
      have HOK := hide hy1
      have hle : (encP y).length ≤ 20000 := by rw [← hy2]; exact hbig
      obtain ⟨_, e1, k1, e2, k2, e3, k3, e4, k4, rfl, g1, g2, g3, g4⟩ := hy3
      have l4 := g4.1
      have H4 := hide (fncG.row (S' := (· < w2.heap.size)) (fun _ hk => hk.2) g4)
      have HBX : Hid (Box (w2.alloc (.cells #[.slice e1 y.texts.length k1, .slice e2 y.globals.length k2, .slice e3 y.structs.length k3, .slice e4 y.funcs.length k4, .int .i64 y.main] 27)) w2.heap.size [.slice e1 y.texts.length k1, .slice e2 y.globals.length k2, .slice e3 y.structs.length k3, .slice e4 y.funcs.length k4, .int .i64 y.main]) := hide (Box.new w2 [.slice e1 y.texts.length k1, .slice e2 y.globals.length k2, .slice e3 y.structs.length k3, .slice e4 y.funcs.length k4, .int .i64 y.main] 27)
      have HFA : Hid (Fr (fun _ => False) w2 (w2.alloc (.cells #[.slice e1 y.texts.length k1, .slice e2 y.globals.length k2, .slice e3 y.structs.length k3, .slice e4 y.funcs.length k4, .int .i64 y.main] 27))) := hide ((Fr.refl _ w2).alloc _)
      clear hF2 hy1 hy2 g1 g2 g3 g4 HD HF1
      go_wp2
      generalize w2.alloc (.cells #[.slice e1 y.texts.length k1, .slice e2 y.globals.length k2, .slice e3 y.structs.length k3, .slice e4 y.funcs.length k4, .int .i64 y.main] 27) = W0 at *
      go_loopw [29] (fun t wr => ∃ i : Nat, i ≤ y.funcs.length ∧ t = .int .i64 i ∧ Hid (Fr (fun _ => False) W0 wr)) (fun t _ => y.funcs.length - (intOf t).toNat)
      case atStart => exact ⟨0, by omega, rfl, hide (Fr.refl _ _)⟩
      case round =>
        obtain ⟨i, hi, rfl, hI⟩ := hrel
        by_cases hlt : i < y.funcs.length
        · obtain ⟨b, off, cs, q1, _, hc, hcell⟩ := row_get fncG (unhide H4) (fun k hk => hk) ((unhide HFA).trans (unhide hI)) hlt
          have HFc := hide hc
          obtain ⟨_, aa, ca, ab, cb, rfl, hra, _⟩ := hc
          have hrl := hra.1
          have HRa := hide hra
          have d0 : wr.cell? ⟨b, off + i * 6, none⟩ = some (.string y.funcs[i].name) := by have := hcell 0 _ rfl; simpa using this
          have d1 : wr.cell? ⟨b, off + i * 6 + 1, none⟩ = some (.slice aa y.funcs[i].refs.length ca) := by have := hcell 1 _ rfl; simpa using this
          have d2 : wr.cell? ⟨b, off + i * 6 + 2, none⟩ = some (.int .i64 y.funcs[i].params) := by have := hcell 2 _ rfl; simpa using this
          have d3 : wr.cell? ⟨b, off + i * 6 + 3, none⟩ = some (.int .i64 y.funcs[i].captures) := by have := hcell 3 _ rfl; simpa using this
          have d4 : wr.cell? ⟨b, off + i * 6 + 4, none⟩ = some (.bool y.funcs[i].result) := by have := hcell 4 _ rfl; simpa using this
          have d5 : wr.cell? ⟨b, off + i * 6 + 5, none⟩ = some (.slice ab y.funcs[i].code.length cb) := by have := hcell 5 _ rfl; simpa using this
          have hbl : b < wr.heap.size := World.block_lt_of_cell? wr ⟨b, off + i * 6, none⟩ d0
          subst q1
          clear hcell hra
          generalize y.funcs[i] = f at *
          have HC : Hid (∀ o, Calls Tryd.prog 13 _ (wr.alloc o) fun e w' => e = .returned (.bool (refB f.refs r)) ∧ Fr (fun _ => False) (wr.alloc o) w') := hide fun o => Reference_any f _ r (· < w2.heap.size) (wr.alloc o) (fncG.same (fun k hk => Below.heap_alloc _ _ _ (Nat.lt_of_lt_of_le hk ((unhide HFA).trans (unhide hI)).size)) (unhide HFc)) (unhide HR)
          have HBV : Hid (∀ W, Fr (fun _ => False) (wr.alloc (.cells #[.string f.name, .slice aa f.refs.length ca, .int .i64 f.params, .int .i64 f.captures, .bool f.result, .slice ab f.code.length cb] 38)) W → W.cell? ⟨wr.heap.size, 1, none⟩ = some (.slice aa f.refs.length ca)) := hide fun W h => h.cell (by rw [World.cell?_alloc_at _ _ _ _ rfl]; rfl) id
          by_cases h0 : 0 ≤ r
          · by_cases h1 : r < f.refs.length
            · obtain ⟨k, rfl⟩ : ∃ k : Nat, r = (k : Int) := ⟨r.toNat, by omega⟩
              have hk : k < f.refs.length := by omega
              obtain ⟨b', off', cs', q2, _, hc', _, hcell'⟩ := (unhide HRa).2 k hk
              obtain rfl : cs' = _ := hc'
              have hE : refB f.refs (k : Int) = f.refs[k] := by
                unfold refB
                rw [if_pos ⟨h0, h1⟩]
                simp [List.getD, List.getElem?_eq_getElem hk]
              have HG : Hid (∀ W, Fr (fun _ => False) (wr.alloc (.cells #[.string f.name, .slice aa f.refs.length ca, .int .i64 f.params, .int .i64 f.captures, .bool f.result, .slice ab f.code.length cb] 38)) W → W.cell? ⟨b', off' + k, none⟩ = some (.bool f.refs[k])) := hide fun W h => h.cell (((Fr.refl (fun _ => False) wr).alloc _).cell (by have := hcell' 0 _ rfl; simpa using this) id) id
              rw [hE] at HC
              subst q2
              clear hcell' hE
              generalize f.refs[k] = v at *
              go_wp2_with fail
              refine ((unhide HC) _).mono ?_
              rintro e w3 ⟨rfl, hF3⟩
              have s1 := (unhide HBV) w3 hF3
              have s2 := (unhide HG) w3 hF3
              have HF3 := hide (((unhide hI).alloc _).trans hF3)
              clear hF3 HC
              go_wp2
              go_roundw
              case rel => exact ⟨i + 1, by omega, rfl, HF3⟩
              case measure => simp [intOf]; omega
            · have hE : refB f.refs r = false := by unfold refB; rw [if_neg (by omega)]
              rw [hE] at HC
              clear hE
              go_wp2_with fail
              refine ((unhide HC) _).mono ?_
              rintro e w3 ⟨rfl, hF3⟩
              have s1 := (unhide HBV) w3 hF3
              have HF3 := hide (((unhide hI).alloc _).trans hF3)
              clear hF3 HC
              go_wp2
              go_roundw
              case rel => exact ⟨i + 1, by omega, rfl, HF3⟩
              case measure => simp [intOf]; omega
          · have hE : refB f.refs r = false := by unfold refB; rw [if_neg (by omega)]
            rw [hE] at HC
            clear hE
            go_wp2_with fail
            refine ((unhide HC) _).mono ?_
            rintro e w3 ⟨rfl, hF3⟩
            have HF3 := hide (((unhide hI).alloc _).trans hF3)
            clear hF3 HC
            go_wp2
            go_roundw
            case rel => exact ⟨i + 1, by omega, rfl, HF3⟩
            case measure => simp [intOf]; omega
        · have hFr := (unhide HFA).trans (unhide hI)
          obtain ⟨b0, b1, b2, b3, b4⟩ := ((unhide HBX).fr (unhide hI)).five
          have hP := prg_fr (unhide HY) (Nat.le_refl _) hFr
          have HEn := hide (Encode_any y _ wr hP (by omega))
          have HPr := hide hP
          have HFr := hide ((unhide HF2).trans hFr)
          clear hFr hP
          go_wp2_with fail
          refine (unhide HEn).mono ?_
          rintro e w3 ⟨ao, cp, rfl, ho, hF3⟩
          have hcap := own_cap ho
          have HF3 := hide ((unhide HFr).trans hF3)
          have HD := hide (Decode_any pe pf (encP y) ao cp w3 ((unhide HV).fr (unhide HF3)) (own_bytes ho) (by omega) hcap)
          obtain ⟨g0, g1, g2, g3, g4⟩ := (((unhide HBX).fr (unhide hI)).fr hF3).five
          have HP3 := hide (prg_fr (unhide HPr) (Nat.le_refl _) hF3)
          have HBX3 := hide (((unhide HBX).fr (unhide hI)).fr hF3)
          clear hF3 ho HEn b0 b1 b2 b3 b4
          go_wp2_with fail
          refine (unhide HD).mono ?_
          rintro e w4 ⟨hF4, ⟨z, cz, hz1, hz2, rfl, hz3⟩ | ⟨hno, _⟩⟩
          · obtain rfl : y = z := encP_inj hz2
            have HF4 := hide ((unhide HF3).trans hF4)
            have HP4 := hide (prg_fr (unhide HP3) (Nat.le_refl _) hF4)
            have HZ := hide (prgG.mono (S' := (· < w4.heap.size)) (fun _ hk => hk.2) hz3)
            have HBX4 := hide ((unhide HBX3).fr hF4)
            obtain ⟨_, p1, o1, p2, o2, p3, o3, p4, o4, rfl, _, _, _, _⟩ := hz3
            have hal : ∀ o, _ := fun o => ((unhide HBX4).fr ((Fr.refl (fun _ => False) w4).alloc o)).five
            have r0 := fun o => (hal o).1
            have r1 := fun o => (hal o).2.1
            have r2 := fun o => (hal o).2.2.1
            have r3 := fun o => (hal o).2.2.2.1
            have r4 := fun o => (hal o).2.2.2.2
            have HS : Hid (∀ o, Calls Tryd.prog 12 _ (w4.alloc o) _) := hide fun o => same_any y y _ _ (w4.alloc o) (prg_fr (unhide HP4) (Nat.le_refl _) ((Fr.refl _ w4).alloc o)) (prg_fr (unhide HZ) (Nat.le_refl _) ((Fr.refl _ w4).alloc o))
            clear hF4 hal g0 g1 g2 g3 g4 HD hz1 hz2 HP3 HF3 HP4 HZ
            go_wp2_with fail
            refine ((unhide HS) _).mono ?_
            rintro e w5 ⟨hF5, q, rfl, hq⟩
            obtain rfl : q = true := hq.2 rfl
            have HE := hide ((((unhide HF4).alloc _).trans hF5).below (Nat.le_refl _) fun _ h => h.elim)
            clear hF5 hq HS r0 r1 r2 r3 r4
            go_wp2
            go_ret
            exact ⟨rfl, unhide HE⟩
          · exact (hno y (unhide HOK) rfl).elim
    · have HF2 := hide ((unhide HF1).trans hF2)
      have HS : Hid (∀ o, Calls Tryd.prog 12 #[.agg zero5.toArray, .agg zero5.toArray] (w2.alloc o) fun e w' => SameP prg0 prg0 (w2.alloc o) e w') := hide fun o => same_any prg0 prg0 _ _ (w2.alloc o) (prg0_at _ _) (prg0_at _ _)
      clear hF2 HD HF1
      unfold zero5 at HS
      unfold zero5
      go_wp2_with fail
      refine ((unhide HS) _).mono ?_
      rintro e w5 ⟨hF5, q, rfl, hq⟩
      obtain rfl : q = true := hq.2 rfl
      have HE := hide ((((unhide HF2).alloc _).trans hF5).below (Nat.le_refl _) fun _ h => h.elim)
      clear hF5 hq HS
      go_wp2
      go_ret
      exact ⟨rfl, unhide HE⟩
  · have hbig' : (20000 : Int) < (l.length : Int) := by omega
    have HE := hide ((unhide HF1).below (Nat.le_refl _) fun _ h => h.elim)
    go_wp2
    go_ret
    exact ⟨rfl, unhide HE⟩
end Go.Proofs.YtfkjjljhabjcjaaDoor
