/- CodeBack, walked. -/
import Derived.Test.YtfkjjljhabjcjaaDoorCo
import Derived.Test.YtfkjjljhabjcjaaDoorCs1
namespace Go.Proofs.YtfkjjljhabjcjaaDoor
open Go.RowKit Go.Proofs.YtfkjjljhabjcjaaDoor.Cx
theorem prg_fr {n : Nat} {w w' : World} {x : Prg} {cs : List Value} (h : prgC (· < n) w x cs) (hn : n ≤ w.heap.size) (hF : Fr (fun _ => False) w w') : prgC (· < w'.heap.size) w' x cs :=
  prgG.mono (fun _ hk => Nat.lt_of_lt_of_le hk (Nat.le_trans hn hF.size)) (prgG.same (fun k hk => hF.block k (Nat.lt_of_lt_of_le hk hn) id) h)
set_option maxRecDepth 100000 in
set_option maxHeartbeats 4000000 in
theorem back_w (pe pf : Addr) (x : Prg) (cs : List Value) (w : World) (hv : Vars w pe pf) (hC : prgC (· < w.heap.size) w x cs) :
    Calls Tryd.prog 3 #[.agg cs.toArray] w fun e w' => e = .returned (.bool true) ∧ Below w.heap.size w w' := by
  have HC := hide hC
  have HV := hide hv
  have hok := prg_ok hC
  have HK := hide hok
  obtain ⟨_, a1, c1, a2, c2, a3, c3, a4, c4, rfl, _, _, _, _⟩ := hC
  clear hv hok
  have hF0 : Fr (fun _ => False) w (w.alloc (.cells #[.slice a1 x.texts.length c1, .slice a2 x.globals.length c2, .slice a3 x.structs.length c3, .slice a4 x.funcs.length c4, .int .i64 x.main] 27)) := (Fr.refl _ w).alloc _
  have B0 : ∀ (j : Nat) (v : Value), #[Value.slice a1 x.texts.length c1, .slice a2 x.globals.length c2, .slice a3 x.structs.length c3, .slice a4 x.funcs.length c4, .int .i64 x.main][j]? = some v → (w.alloc (.cells #[.slice a1 x.texts.length c1, .slice a2 x.globals.length c2, .slice a3 x.structs.length c3, .slice a4 x.funcs.length c4, .int .i64 x.main] 27)).cell? ⟨w.heap.size, j, none⟩ = some v := fun j v hj => by rw [World.cell?_alloc_at _ _ _ _ rfl]; exact hj
  have HB0 := hide B0
  have HF0 := hide hF0
  clear B0 hF0
  have HA := hide (anchor_any pe pf _ ((unhide HV).fr (unhide HF0)))
  go_enter Tryd.func3, Tryd.ntmps3
  go_wp2_with fail
  refine (unhide HA).mono ?_
  rintro e w1 ⟨rfl, hF1⟩
  have HF1 := hide ((unhide HF0).trans hF1)
  have b0 := hF1.cell ((unhide HB0) 0 _ rfl) id
  have b1 := hF1.cell ((unhide HB0) 1 _ rfl) id
  have b2 := hF1.cell ((unhide HB0) 2 _ rfl) id
  have b3 := hF1.cell ((unhide HB0) 3 _ rfl) id
  have b4 := hF1.cell ((unhide HB0) 4 _ rfl) id
  have hC1 := prg_fr (unhide HC) (Nat.le_refl _) (unhide HF1)
  have HW := hide (few_any x _ w1 hC1)
  have HC1 := hide hC1
  clear hF1 HA HB0 HF0 HC hC1
  go_wp2_with fail
  refine (unhide HW).mono ?_
  rintro e w2 ⟨hF2, r, rfl, hr⟩
  cases r with
  | false =>
    have HE := hide (((unhide HF1).trans hF2).below (Nat.le_refl _) fun _ h => h.elim)
    clear hF2 hr HW
    go_wp2
    go_ret
    exact ⟨rfl, unhide HE⟩
  | true =>
    have hsmall : (encP x).length ≤ 1000000 := by have := hr rfl; have := encP_le (unhide HK); omega
    have HF2 := hide ((unhide HF1).trans hF2)
    have d0 := hF2.cell b0 id
    have d1 := hF2.cell b1 id
    have d2 := hF2.cell b2 id
    have d3 := hF2.cell b3 id
    have d4 := hF2.cell b4 id
    have hC2 := prg_fr (unhide HC1) (Nat.le_refl _) hF2
    have HEn := hide (Encode_any x _ w2 hC2 (by omega))
    have HC2 := hide hC2
    clear hF2 hr HW HC1 HF1 b0 b1 b2 b3 b4 hC2
    go_wp2_with fail
    refine (unhide HEn).mono ?_
    rintro e w3 ⟨ao, cp, rfl, ho, hF3⟩
    have hcap := own_cap ho
    have HF3 := hide ((unhide HF2).trans hF3)
    have HD := hide (Decode_any pe pf (encP x) ao cp w3 ((unhide HV).fr (unhide HF3)) (own_bytes ho) (by omega) hcap)
    have g0 := hF3.cell d0 id
    have g1 := hF3.cell d1 id
    have g2 := hF3.cell d2 id
    have g3 := hF3.cell d3 id
    have g4 := hF3.cell d4 id
    have HC3 := hide (prg_fr (unhide HC2) (Nat.le_refl _) hF3)
    clear hF3 ho HEn HC2 HF2 d0 d1 d2 d3 d4
    go_wp2_with fail
    refine (unhide HD).mono ?_
    rintro e w4 ⟨hF4, ⟨y, cy, hy1, hy2, rfl, hy3⟩ | ⟨hno, _⟩⟩
    · obtain rfl : x = y := encP_inj hy2
      have HF4 := hide ((unhide HF3).trans hF4)
      have q0 := hF4.cell g0 id
      have q1 := hF4.cell g1 id
      have q2 := hF4.cell g2 id
      have q3 := hF4.cell g3 id
      have q4 := hF4.cell g4 id
      have HC4 := hide (prg_fr (unhide HC3) (Nat.le_refl _) hF4)
      have HY := hide (prgG.mono (S' := (· < w4.heap.size)) (fun k hk => hk.2) hy3)
      obtain ⟨_, e1, k1, e2, k2, e3, k3, e4, k4, rfl, _, _, _, _⟩ := hy3
      have hal : ∀ (o : Obj) {p : Addr} {v : Value}, w4.cell? p = some v → (w4.alloc o).cell? p = some v := fun o _ _ h => ((Fr.refl (fun _ => False) w4).alloc o).cell h id
      have r0 := fun o => hal o q0
      have r1 := fun o => hal o q1
      have r2 := fun o => hal o q2
      have r3 := fun o => hal o q3
      have r4 := fun o => hal o q4
      have HS : Hid (∀ o, Calls Tryd.prog 12 _ (w4.alloc o) _) := hide fun o => same_any x x _ _ (w4.alloc o) (prg_fr (unhide HC4) (Nat.le_refl _) ((Fr.refl _ w4).alloc o)) (prg_fr (unhide HY) (Nat.le_refl _) ((Fr.refl _ w4).alloc o))
      clear hF4 hal q0 q1 q2 q3 q4 g0 g1 g2 g3 g4 HD hy1 hy2 HC3 HF3 HC4 HY
      go_wp2_with fail
      refine ((unhide HS) _).mono ?_
      rintro e w5 ⟨hF5, r, rfl, hr⟩
      obtain rfl : r = true := hr.2 rfl
      have HE := hide ((((unhide HF4).alloc _).trans hF5).below (Nat.le_refl _) fun _ h => h.elim)
      clear hF5 hr HS
      go_wp2
      go_ret
      exact ⟨rfl, unhide HE⟩
    · exact (hno x (unhide HK) rfl).elim
end Go.Proofs.YtfkjjljhabjcjaaDoor
