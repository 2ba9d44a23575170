/- CodeTells, walked. -/
import Derived.Test.YtfkjjljhabjcjaaDoorLb
import Derived.Deep.RegionHeld2
import Derived.Laws.IdiomStrings
namespace Go.Proofs.YtfkjjljhabjcjaaDoor
open Go.RowKit Go.Proofs.YtfkjjljhabjcjaaDoor.Cx
theorem conv_bytes {w : World} {b : List UInt8} {a : Option Addr} {cap : Nat} (h : BytesAt w b a) (h0 : 0 < b.length) : (convert 32 9 (.slice a b.length cap)).run Tryd.prog w = .ok (.string ⟨b.toArray⟩) w := by
  obtain ⟨bk, off, rfl, _⟩ := h 0 h0
  refine run_convert_bytes_back (P := Tryd.prog) w 32 9 5 ⟨bk, off, none⟩ cap b Tryd.underlying32 Tryd.underlying5 Tryd.underlying9 fun j hj => ?_
  obtain ⟨bk', off', e, hc⟩ := h j hj
  cases e
  rw [Go.WideShapes.add_plain]
  exact hc
theorem encP_pos (x : Prg) : 0 < (encP x).length := by
  have h2 : 0 < (encL encT x.texts).length := encL_ne encT x.texts
  have h3 : (encP x).length = (encL encT x.texts ++ (encL encB x.globals ++ (encL (encL encB) x.structs ++ (encL encF x.funcs ++ encN x.main)))).length := rfl
  rw [List.length_append] at h3
  omega
theorem conv_own {w W : World} {x : Prg} {ao : Option Addr} {cp : Nat} {base : Nat} (h : w.ownsRow base 5 1 (.slice ao (encP x).length cp) (encP x).length ((encP x).map byteV)) (hF : Fr (fun _ => False) w W) : (convert 32 9 (.slice ao (encP x).length cp)).run Tryd.prog W = .ok (.string ⟨(encP x).toArray⟩) W := conv_bytes ((own_bytes h).fr hF) (encP_pos x)
def Box (W : World) (B : Nat) (cs : List Value) : Prop := ∀ j v, cs[j]? = some v → W.cell? ⟨B, j, none⟩ = some v
theorem Box.fr {W W' : World} {B : Nat} {cs : List Value} (h : Box W B cs) (hF : Fr (fun _ => False) W W') : Box W' B cs := fun j v hj => hF.cell (h j v hj) id
theorem Box.new (w : World) (cs : List Value) (t : Nat) : Box (w.alloc (.cells cs.toArray t)) w.heap.size cs := fun j v hj => by rw [World.cell?_alloc_at _ _ _ _ rfl]; simpa using hj
theorem Box.new1 (w : World) (o : Obj) (cs : List Value) (t : Nat) : Box ((w.alloc o).alloc (.cells cs.toArray t)) (w.heap.size + 1) cs := by
  have h := Box.new (w.alloc o) cs t
  have e : (w.alloc o).heap.size = w.heap.size + 1 := by simp
  rwa [e] at h
theorem Box.five {W : World} {B : Nat} {v0 v1 v2 v3 v4 : Value} (h : Box W B [v0, v1, v2, v3, v4]) : W.cell? ⟨B, 0, none⟩ = some v0 ∧ W.cell? ⟨B, 1, none⟩ = some v1 ∧ W.cell? ⟨B, 2, none⟩ = some v2 ∧ W.cell? ⟨B, 3, none⟩ = some v3 ∧ W.cell? ⟨B, 4, none⟩ = some v4 := ⟨h 0 _ rfl, h 1 _ rfl, h 2 _ rfl, h 3 _ rfl, h 4 _ rfl⟩
theorem wpAnyH_mono {P : Program} {ops : Array Oper} {Q : Exit → Act → World → Prop} {md : Region.Mode} {S S' : World → Prop} (h : ∀ w, S' w → S w) : ∀ (fuel : Nat) (listed : Array Bool) (a : Act) (w : World), wpAnyH P md ops Q S' fuel listed a w → wpAnyH P md ops Q S fuel listed a w
  | 0, _, _, _, hh => hh
  | fuel + 1, _, _, _, hh => ⟨hh.1, fun i hi => wpOp_mono (fun a' w' h' => ⟨h w' h'.1, wpAnyH_mono h fuel _ a' w' h'.2⟩) (hh.2 i hi)⟩
theorem bytes_iff {x y : Prg} : (ByteArray.toList ⟨(encP x).toArray⟩ == ByteArray.toList ⟨(encP y).toArray⟩) = true ↔ x = y := by
  rw [ByteArray.toList_eq, ByteArray.toList_eq, beq_iff_eq]
  constructor
  · exact fun h => encP_inj h
  · rintro rfl; rfl
set_option maxRecDepth 100000 in
set_option maxHeartbeats 8000000 in
theorem tells_w (pe pf : Addr) (x : Prg) (cx : List Value) (y : Prg) (cy : List Value) (w : World) (hv : Vars w pe pf) (hX : prgC (· < w.heap.size) w x cx) (hY : prgC (· < w.heap.size) w y cy) :
    Calls Tryd.prog 5 #[.agg cx.toArray, .agg cy.toArray] w fun e w' => e = .returned (.bool true) ∧ Below w.heap.size w w' := by
  have HX := hide hX
  have HY := hide hY
  have HV := hide hv
  have HKX := hide (prg_ok hX)
  have HKY := hide (prg_ok hY)
  obtain ⟨_, a1, ac1, a2, ac2, a3, ac3, a4, ac4, rfl, _, _, _, _⟩ := hX
  obtain ⟨_, b1, bc1, b2, bc2, b3, bc3, b4, bc4, rfl, _, _, _, _⟩ := hY
  clear hv
  have HF0 : Hid (Fr (fun _ => False) w ((w.alloc (.cells #[.slice a1 x.texts.length ac1, .slice a2 x.globals.length ac2, .slice a3 x.structs.length ac3, .slice a4 x.funcs.length ac4, .int .i64 x.main] 27)).alloc (.cells #[.slice b1 y.texts.length bc1, .slice b2 y.globals.length bc2, .slice b3 y.structs.length bc3, .slice b4 y.funcs.length bc4, .int .i64 y.main] 27))) := hide (((Fr.refl _ w).alloc _).alloc _)
  have HBX : Hid (Box ((w.alloc (.cells #[.slice a1 x.texts.length ac1, .slice a2 x.globals.length ac2, .slice a3 x.structs.length ac3, .slice a4 x.funcs.length ac4, .int .i64 x.main] 27)).alloc (.cells #[.slice b1 y.texts.length bc1, .slice b2 y.globals.length bc2, .slice b3 y.structs.length bc3, .slice b4 y.funcs.length bc4, .int .i64 y.main] 27)) w.heap.size [.slice a1 x.texts.length ac1, .slice a2 x.globals.length ac2, .slice a3 x.structs.length ac3, .slice a4 x.funcs.length ac4, .int .i64 x.main]) := hide ((Box.new w [.slice a1 x.texts.length ac1, .slice a2 x.globals.length ac2, .slice a3 x.structs.length ac3, .slice a4 x.funcs.length ac4, .int .i64 x.main] 27).fr ((Fr.refl _ _).alloc _))
  have HBY : Hid (Box ((w.alloc (.cells #[.slice a1 x.texts.length ac1, .slice a2 x.globals.length ac2, .slice a3 x.structs.length ac3, .slice a4 x.funcs.length ac4, .int .i64 x.main] 27)).alloc (.cells #[.slice b1 y.texts.length bc1, .slice b2 y.globals.length bc2, .slice b3 y.structs.length bc3, .slice b4 y.funcs.length bc4, .int .i64 y.main] 27)) (w.heap.size + 1) [.slice b1 y.texts.length bc1, .slice b2 y.globals.length bc2, .slice b3 y.structs.length bc3, .slice b4 y.funcs.length bc4, .int .i64 y.main]) := hide (Box.new1 w _ [.slice b1 y.texts.length bc1, .slice b2 y.globals.length bc2, .slice b3 y.structs.length bc3, .slice b4 y.funcs.length bc4, .int .i64 y.main] 27)
  have HA := hide (anchor_any pe pf ((w.alloc (.cells #[.slice a1 x.texts.length ac1, .slice a2 x.globals.length ac2, .slice a3 x.structs.length ac3, .slice a4 x.funcs.length ac4, .int .i64 x.main] 27)).alloc (.cells #[.slice b1 y.texts.length bc1, .slice b2 y.globals.length bc2, .slice b3 y.structs.length bc3, .slice b4 y.funcs.length bc4, .int .i64 y.main] 27)) ((unhide HV).fr (unhide HF0)))
  have HPX : Hid (∀ W, Fr (fun _ => False) ((w.alloc (.cells #[.slice a1 x.texts.length ac1, .slice a2 x.globals.length ac2, .slice a3 x.structs.length ac3, .slice a4 x.funcs.length ac4, .int .i64 x.main] 27)).alloc (.cells #[.slice b1 y.texts.length bc1, .slice b2 y.globals.length bc2, .slice b3 y.structs.length bc3, .slice b4 y.funcs.length bc4, .int .i64 y.main] 27)) W → prgC (· < W.heap.size) W x [.slice a1 x.texts.length ac1, .slice a2 x.globals.length ac2, .slice a3 x.structs.length ac3, .slice a4 x.funcs.length ac4, .int .i64 x.main]) := hide fun W h => prg_fr (unhide HX) (Nat.le_refl _) ((unhide HF0).trans h)
  have HPY : Hid (∀ W, Fr (fun _ => False) ((w.alloc (.cells #[.slice a1 x.texts.length ac1, .slice a2 x.globals.length ac2, .slice a3 x.structs.length ac3, .slice a4 x.funcs.length ac4, .int .i64 x.main] 27)).alloc (.cells #[.slice b1 y.texts.length bc1, .slice b2 y.globals.length bc2, .slice b3 y.structs.length bc3, .slice b4 y.funcs.length bc4, .int .i64 y.main] 27)) W → prgC (· < W.heap.size) W y [.slice b1 y.texts.length bc1, .slice b2 y.globals.length bc2, .slice b3 y.structs.length bc3, .slice b4 y.funcs.length bc4, .int .i64 y.main]) := hide fun W h => prg_fr (unhide HY) (Nat.le_refl _) ((unhide HF0).trans h)
  clear HX HY HV
  go_enter Tryd.func5, Tryd.ntmps5
  go_wp2_with fail
  generalize ((w.alloc (.cells #[.slice a1 x.texts.length ac1, .slice a2 x.globals.length ac2, .slice a3 x.structs.length ac3, .slice a4 x.funcs.length ac4, .int .i64 x.main] 27)).alloc (.cells #[.slice b1 y.texts.length bc1, .slice b2 y.globals.length bc2, .slice b3 y.structs.length bc3, .slice b4 y.funcs.length bc4, .int .i64 y.main] 27)) = W0 at *
  refine (unhide HA).mono ?_
  rintro e w1 ⟨rfl, hF1⟩
  have HF1 := hide hF1
  clear hF1 HA
  obtain ⟨d0, d1, d2, d3, d4⟩ := ((unhide HBX).fr (unhide HF1)).five
  obtain ⟨d5, d6, d7, d8, d9⟩ := ((unhide HBY).fr (unhide HF1)).five
  have HW := hide (few_any x _ w1 ((unhide HPX) _ (unhide HF1)))
  go_wp2_with fail
  refine (unhide HW).mono ?_
  rintro e w2 ⟨hF2, r, rfl, hr⟩
  have HF2 := hide ((unhide HF1).trans hF2)
  clear hF2 HW d0 d1 d2 d3 d4 d5 d6 d7 d8 d9
  cases r with
  | false =>
    have HE := hide (((unhide HF0).trans (unhide HF2)).below (Nat.le_refl _) fun _ h => h.elim)
    clear hr
    go_wp2
    go_ret
    exact ⟨rfl, unhide HE⟩
  | true =>
    have hsx : (encP x).length ≤ 1000000 := by have := hr rfl; have := encP_le (unhide HKX); omega
    have HSX := hide hsx
    clear hr hsx HF1
    obtain ⟨d0, d1, d2, d3, d4⟩ := ((unhide HBX).fr (unhide HF2)).five
    obtain ⟨d5, d6, d7, d8, d9⟩ := ((unhide HBY).fr (unhide HF2)).five
    have HW := hide (few_any y _ w2 ((unhide HPY) _ (unhide HF2)))
    go_wp2_with fail
    refine (unhide HW).mono ?_
    rintro e w3 ⟨hF3, r, rfl, hr⟩
    have HF3 := hide ((unhide HF2).trans hF3)
    clear hF3 HW d0 d1 d2 d3 d4 d5 d6 d7 d8 d9 HF2
    cases r with
    | false =>
      have HE := hide (((unhide HF0).trans (unhide HF3)).below (Nat.le_refl _) fun _ h => h.elim)
      clear hr
      go_wp2
      go_ret
      exact ⟨rfl, unhide HE⟩
    | true =>
      have hsy : (encP y).length ≤ 1000000 := by have := hr rfl; have := encP_le (unhide HKY); omega
      have HSY := hide hsy
      clear hr hsy
      obtain ⟨d0, d1, d2, d3, d4⟩ := ((unhide HBX).fr (unhide HF3)).five
      obtain ⟨d5, d6, d7, d8, d9⟩ := ((unhide HBY).fr (unhide HF3)).five
      have HEX : Hid (∀ W, Fr (fun _ => False) w3 W → Calls Tryd.prog 11 _ W fun e w' => EncP x W e w') := hide fun W h => Encode_any x _ W ((unhide HPX) _ ((unhide HF3).trans h)) (by have := unhide HSX; omega)
      have HEY : Hid (∀ W, Fr (fun _ => False) w3 W → Calls Tryd.prog 11 _ W fun e w' => EncP y W e w') := hide fun W h => Encode_any y _ W ((unhide HPY) _ ((unhide HF3).trans h)) (by have := unhide HSY; omega)
      have HSM : Hid (∀ W, Fr (fun _ => False) w3 W → Calls Tryd.prog 12 _ W fun e w' => SameP x y W e w') := hide fun W h => same_any x y _ _ W ((unhide HPX) _ ((unhide HF3).trans h)) ((unhide HPY) _ ((unhide HF3).trans h))
      have HTen : Hid (∀ W, Fr (fun _ => False) w3 W → (fun w' => w'.cell? ⟨w.heap.size, 0, none⟩ = some (.slice a1 x.texts.length ac1) ∧ w'.cell? ⟨w.heap.size, 1, none⟩ = some (.slice a2 x.globals.length ac2) ∧ w'.cell? ⟨w.heap.size, 2, none⟩ = some (.slice a3 x.structs.length ac3) ∧ w'.cell? ⟨w.heap.size, 3, none⟩ = some (.slice a4 x.funcs.length ac4) ∧ w'.cell? ⟨w.heap.size, 4, none⟩ = some (.int .i64 x.main) ∧ w'.cell? ⟨w.heap.size + 1, 0, none⟩ = some (.slice b1 y.texts.length bc1) ∧ w'.cell? ⟨w.heap.size + 1, 1, none⟩ = some (.slice b2 y.globals.length bc2) ∧ w'.cell? ⟨w.heap.size + 1, 2, none⟩ = some (.slice b3 y.structs.length bc3) ∧ w'.cell? ⟨w.heap.size + 1, 3, none⟩ = some (.slice b4 y.funcs.length bc4) ∧ w'.cell? ⟨w.heap.size + 1, 4, none⟩ = some (.int .i64 y.main)) W) := hide fun W h => by
        obtain ⟨h0, h1, h2, h3, h4⟩ := ((unhide HBX).fr ((unhide HF3).trans h)).five
        obtain ⟨h5, h6, h7, h8, h9⟩ := ((unhide HBY).fr ((unhide HF3).trans h)).five
        exact ⟨h0, h1, h2, h3, h4, h5, h6, h7, h8, h9⟩
      go_wp2
      refine wp_region_held_drew (S := (fun w' => w'.cell? ⟨w.heap.size, 0, none⟩ = some (.slice a1 x.texts.length ac1) ∧ w'.cell? ⟨w.heap.size, 1, none⟩ = some (.slice a2 x.globals.length ac2) ∧ w'.cell? ⟨w.heap.size, 2, none⟩ = some (.slice a3 x.structs.length ac3) ∧ w'.cell? ⟨w.heap.size, 3, none⟩ = some (.slice a4 x.funcs.length ac4) ∧ w'.cell? ⟨w.heap.size, 4, none⟩ = some (.int .i64 x.main) ∧ w'.cell? ⟨w.heap.size + 1, 0, none⟩ = some (.slice b1 y.texts.length bc1) ∧ w'.cell? ⟨w.heap.size + 1, 1, none⟩ = some (.slice b2 y.globals.length bc2) ∧ w'.cell? ⟨w.heap.size + 1, 2, none⟩ = some (.slice b3 y.structs.length bc3) ∧ w'.cell? ⟨w.heap.size + 1, 3, none⟩ = some (.slice b4 y.funcs.length bc4) ∧ w'.cell? ⟨w.heap.size + 1, 4, none⟩ = some (.int .i64 y.main))) (by kernel_rfl) (unhide HTen _ (by (repeat' (first | exact Fr.refl _ _ | refine Fr.alloc ?_ _ | refine Fr.drew ?_ | refine Fr.drewN ?_ _)))) (fun hHeld => ?_)
      refine wpAnyH_take (i := 0) (oi := { dst := some 15, op := _, type := _, pos := _, after := _, guard := _ }) (v := (.agg #[.slice a1 x.texts.length ac1, .slice a2 x.globals.length ac2, .slice a3 x.structs.length ac3, .slice a4 x.funcs.length ac4, .int .i64 x.main])) rfl (by kernel_rfl) (by kernel_rfl) (by kernel_rfl) (fun _ _ _ h => h) (Or.inl ⟨by rfl, ?_⟩) hHeld ?_
      · intro w' hSw
        (try dsimp only at hSw)
        go_simp
      (try simp only [Act.put, List.setIfInBounds_toArray, List.set_cons_zero, List.set_cons_succ])
      refine wpAnyH_take (i := 3) (oi := { dst := some 18, op := _, type := _, pos := _, after := _, guard := _ }) (v := (.agg #[.slice b1 y.texts.length bc1, .slice b2 y.globals.length bc2, .slice b3 y.structs.length bc3, .slice b4 y.funcs.length bc4, .int .i64 y.main])) rfl (by kernel_rfl) (by kernel_rfl) (by kernel_rfl) (fun _ _ _ h => h) (Or.inl ⟨by rfl, ?_⟩) hHeld ?_
      · intro w' hSw
        (try dsimp only at hSw)
        go_simp
      (try simp only [Act.put, List.setIfInBounds_toArray, List.set_cons_zero, List.set_cons_succ])
      refine wpAnyH_take (i := 7) (oi := { dst := some 22, op := _, type := _, pos := _, after := _, guard := _ }) (v := (.agg #[.slice a1 x.texts.length ac1, .slice a2 x.globals.length ac2, .slice a3 x.structs.length ac3, .slice a4 x.funcs.length ac4, .int .i64 x.main])) rfl (by kernel_rfl) (by kernel_rfl) (by kernel_rfl) (fun _ _ _ h => h) (Or.inl ⟨by rfl, ?_⟩) hHeld ?_
      · intro w' hSw
        (try dsimp only at hSw)
        go_simp
      (try simp only [Act.put, List.setIfInBounds_toArray, List.set_cons_zero, List.set_cons_succ])
      refine wpAnyH_take (i := 8) (oi := { dst := some 23, op := _, type := _, pos := _, after := _, guard := _ }) (v := (.agg #[.slice b1 y.texts.length bc1, .slice b2 y.globals.length bc2, .slice b3 y.structs.length bc3, .slice b4 y.funcs.length bc4, .int .i64 y.main])) rfl (by kernel_rfl) (by kernel_rfl) (by kernel_rfl) (fun _ _ _ h => h) (Or.inl ⟨by rfl, ?_⟩) hHeld ?_
      · intro w' hSw
        (try dsimp only at hSw)
        go_simp
      (try simp only [Act.put, List.setIfInBounds_toArray, List.set_cons_zero, List.set_cons_succ])
      refine wpAnyH_ready (rs := [1]) (by kernel_rfl) (by simp) ?_
      refine AllReadyH.cons (o := _) rfl (fun K hK => ?_) AllReadyH.nil
      go_simp
      go_wp2_with fail
      refine (unhide HEX _ (by (repeat' (first | exact Fr.refl _ _ | refine Fr.alloc ?_ _ | refine Fr.drew ?_ | refine Fr.drewN ?_ _)))).mono ?_
      rintro e w4 ⟨ao, ap, rfl, ho4, hF4⟩
      go_wp2_with fail
      refine hK.out _ _ (unhide HTen _ ((Fr.refl _ _).drew.trans hF4)) (fun hHeld => ?_)
      clear hK K
      (try simp only [Act.put, List.setIfInBounds_toArray, List.set_cons_zero, List.set_cons_succ])
      have HO4 := hide ho4
      have HF4 : Hid (Fr (fun _ => False) w3 w4) := hide ((Fr.refl _ _).drew.trans hF4)
      have hS2 : (fun w' => (fun w' => w'.cell? ⟨w.heap.size, 0, none⟩ = some (.slice a1 x.texts.length ac1) ∧ w'.cell? ⟨w.heap.size, 1, none⟩ = some (.slice a2 x.globals.length ac2) ∧ w'.cell? ⟨w.heap.size, 2, none⟩ = some (.slice a3 x.structs.length ac3) ∧ w'.cell? ⟨w.heap.size, 3, none⟩ = some (.slice a4 x.funcs.length ac4) ∧ w'.cell? ⟨w.heap.size, 4, none⟩ = some (.int .i64 x.main) ∧ w'.cell? ⟨w.heap.size + 1, 0, none⟩ = some (.slice b1 y.texts.length bc1) ∧ w'.cell? ⟨w.heap.size + 1, 1, none⟩ = some (.slice b2 y.globals.length bc2) ∧ w'.cell? ⟨w.heap.size + 1, 2, none⟩ = some (.slice b3 y.structs.length bc3) ∧ w'.cell? ⟨w.heap.size + 1, 3, none⟩ = some (.slice b4 y.funcs.length bc4) ∧ w'.cell? ⟨w.heap.size + 1, 4, none⟩ = some (.int .i64 y.main)) w' ∧ (convert 32 9 (.slice ao (encP x).length ap)).run Tryd.prog w' = .ok (.string ⟨(encP x).toArray⟩) w') w4 := ⟨hHeld, conv_own ho4 (Fr.refl _ _)⟩
      clear hHeld ho4 hF4
      refine wpAnyH_mono (S' := (fun w' => (fun w' => w'.cell? ⟨w.heap.size, 0, none⟩ = some (.slice a1 x.texts.length ac1) ∧ w'.cell? ⟨w.heap.size, 1, none⟩ = some (.slice a2 x.globals.length ac2) ∧ w'.cell? ⟨w.heap.size, 2, none⟩ = some (.slice a3 x.structs.length ac3) ∧ w'.cell? ⟨w.heap.size, 3, none⟩ = some (.slice a4 x.funcs.length ac4) ∧ w'.cell? ⟨w.heap.size, 4, none⟩ = some (.int .i64 x.main) ∧ w'.cell? ⟨w.heap.size + 1, 0, none⟩ = some (.slice b1 y.texts.length bc1) ∧ w'.cell? ⟨w.heap.size + 1, 1, none⟩ = some (.slice b2 y.globals.length bc2) ∧ w'.cell? ⟨w.heap.size + 1, 2, none⟩ = some (.slice b3 y.structs.length bc3) ∧ w'.cell? ⟨w.heap.size + 1, 3, none⟩ = some (.slice b4 y.funcs.length bc4) ∧ w'.cell? ⟨w.heap.size + 1, 4, none⟩ = some (.int .i64 y.main)) w' ∧ (convert 32 9 (.slice ao (encP x).length ap)).run Tryd.prog w' = .ok (.string ⟨(encP x).toArray⟩) w')) (fun _ h => h.1) _ _ _ _ ?_
      refine wpAnyH_take (i := 2) (oi := { dst := some 17, op := _, type := _, pos := _, after := _, guard := _ }) (v := .string ⟨(encP x).toArray⟩) rfl (by kernel_rfl) (by kernel_rfl) (by kernel_rfl) (fun _ _ _ h => h) (Or.inl ⟨by rfl, ?_⟩) hS2 ?_
      · intro w' hSw
        (try dsimp only at hSw)
        go_simp
      (try simp only [Act.put, List.setIfInBounds_toArray, List.set_cons_zero, List.set_cons_succ])
      refine wpAnyH_ready (rs := [4]) (by kernel_rfl) (by simp) ?_
      refine AllReadyH.cons (o := _) rfl (fun K hK => ?_) AllReadyH.nil
      go_simp
      go_wp2_with fail
      refine (unhide HEY _ (unhide HF4)).mono ?_
      rintro e w5 ⟨bo, bp, rfl, ho5, hF5⟩
      go_wp2_with fail
      refine hK.out _ _ ⟨unhide HTen _ ((unhide HF4).trans hF5), conv_own (unhide HO4) hF5⟩ (fun hHeld => ?_)
      clear hK K
      (try simp only [Act.put, List.setIfInBounds_toArray, List.set_cons_zero, List.set_cons_succ])
      have HF5 : Hid (Fr (fun _ => False) w3 w5) := hide ((unhide HF4).trans hF5)
      have HF45 : Hid (Fr (fun _ => False) w4 w5) := hide hF5
      have HO5 := hide ho5
      have hS3 : (fun w' => (fun w' => (fun w' => w'.cell? ⟨w.heap.size, 0, none⟩ = some (.slice a1 x.texts.length ac1) ∧ w'.cell? ⟨w.heap.size, 1, none⟩ = some (.slice a2 x.globals.length ac2) ∧ w'.cell? ⟨w.heap.size, 2, none⟩ = some (.slice a3 x.structs.length ac3) ∧ w'.cell? ⟨w.heap.size, 3, none⟩ = some (.slice a4 x.funcs.length ac4) ∧ w'.cell? ⟨w.heap.size, 4, none⟩ = some (.int .i64 x.main) ∧ w'.cell? ⟨w.heap.size + 1, 0, none⟩ = some (.slice b1 y.texts.length bc1) ∧ w'.cell? ⟨w.heap.size + 1, 1, none⟩ = some (.slice b2 y.globals.length bc2) ∧ w'.cell? ⟨w.heap.size + 1, 2, none⟩ = some (.slice b3 y.structs.length bc3) ∧ w'.cell? ⟨w.heap.size + 1, 3, none⟩ = some (.slice b4 y.funcs.length bc4) ∧ w'.cell? ⟨w.heap.size + 1, 4, none⟩ = some (.int .i64 y.main)) w' ∧ (convert 32 9 (.slice ao (encP x).length ap)).run Tryd.prog w' = .ok (.string ⟨(encP x).toArray⟩) w') w' ∧ (convert 32 9 (.slice bo (encP y).length bp)).run Tryd.prog w' = .ok (.string ⟨(encP y).toArray⟩) w') w5 := ⟨hHeld, conv_own ho5 (Fr.refl _ _)⟩
      clear hHeld ho5 hF5 hS2
      refine wpAnyH_mono (S' := (fun w' => (fun w' => (fun w' => w'.cell? ⟨w.heap.size, 0, none⟩ = some (.slice a1 x.texts.length ac1) ∧ w'.cell? ⟨w.heap.size, 1, none⟩ = some (.slice a2 x.globals.length ac2) ∧ w'.cell? ⟨w.heap.size, 2, none⟩ = some (.slice a3 x.structs.length ac3) ∧ w'.cell? ⟨w.heap.size, 3, none⟩ = some (.slice a4 x.funcs.length ac4) ∧ w'.cell? ⟨w.heap.size, 4, none⟩ = some (.int .i64 x.main) ∧ w'.cell? ⟨w.heap.size + 1, 0, none⟩ = some (.slice b1 y.texts.length bc1) ∧ w'.cell? ⟨w.heap.size + 1, 1, none⟩ = some (.slice b2 y.globals.length bc2) ∧ w'.cell? ⟨w.heap.size + 1, 2, none⟩ = some (.slice b3 y.structs.length bc3) ∧ w'.cell? ⟨w.heap.size + 1, 3, none⟩ = some (.slice b4 y.funcs.length bc4) ∧ w'.cell? ⟨w.heap.size + 1, 4, none⟩ = some (.int .i64 y.main)) w' ∧ (convert 32 9 (.slice ao (encP x).length ap)).run Tryd.prog w' = .ok (.string ⟨(encP x).toArray⟩) w') w' ∧ (convert 32 9 (.slice bo (encP y).length bp)).run Tryd.prog w' = .ok (.string ⟨(encP y).toArray⟩) w')) (fun _ h => h.1) _ _ _ _ ?_
      refine wpAnyH_take (i := 5) (oi := { dst := some 20, op := _, type := _, pos := _, after := _, guard := _ }) (v := .string ⟨(encP y).toArray⟩) rfl (by kernel_rfl) (by kernel_rfl) (by kernel_rfl) (fun _ _ _ h => h) (Or.inl ⟨by rfl, ?_⟩) hS3 ?_
      · intro w' hSw
        (try dsimp only at hSw)
        go_simp
      (try simp only [Act.put, List.setIfInBounds_toArray, List.set_cons_zero, List.set_cons_succ])
      refine wpAnyH_take (i := 6) (oi := { dst := some 21, op := _, type := _, pos := _, after := _, guard := _ }) (v := .bool (ByteArray.toList ⟨(encP x).toArray⟩ == ByteArray.toList ⟨(encP y).toArray⟩)) rfl (by kernel_rfl) (by kernel_rfl) (by kernel_rfl) (fun _ _ _ h => h) (Or.inl ⟨by rfl, ?_⟩) hS3 ?_
      · intro w' hSw
        (try dsimp only at hSw)
        go_simp
      (try simp only [Act.put, List.setIfInBounds_toArray, List.set_cons_zero, List.set_cons_succ])
      have HQ : Hid ((ByteArray.toList ⟨(encP x).toArray⟩ == ByteArray.toList ⟨(encP y).toArray⟩) = true ↔ x = y) := hide bytes_iff
      generalize (ByteArray.toList ⟨(encP x).toArray⟩ == ByteArray.toList ⟨(encP y).toArray⟩) = q at *
      refine wpAnyH_ready (rs := [9]) (by kernel_rfl) (by simp) ?_
      refine AllReadyH.cons (o := _) rfl (fun K hK => ?_) AllReadyH.nil
      go_simp
      go_wp2_with fail
      refine (unhide HSM _ (unhide HF5)).mono ?_
      rintro e w6 ⟨hF6, r, rfl, hr⟩
      go_wp2_with fail
      refine hK.out _ _ ⟨⟨unhide HTen _ ((unhide HF5).trans hF6), conv_own (unhide HO4) ((unhide HF45).trans hF6)⟩, conv_own (unhide HO5) hF6⟩ (fun hHeld => ?_)
      clear hK K
      (try simp only [Act.put, List.setIfInBounds_toArray, List.set_cons_zero, List.set_cons_succ])
      have HE := hide ((((unhide HF0).trans (unhide HF3)).trans ((unhide HF5).trans hF6)).below (Nat.le_refl _) fun _ h => h.elim)
      obtain rfl : q = r := by
        have h1 := unhide HQ
        cases q <;> cases r <;> simp_all
      refine wpAnyH_take (i := 10) (oi := { dst := some 25, op := _, type := _, pos := _, after := _, guard := _ }) (v := .bool (q == q)) rfl (by kernel_rfl) (by kernel_rfl) (by kernel_rfl) (fun _ _ _ h => h) (Or.inl ⟨by rfl, ?_⟩) hHeld ?_
      · intro w' hSw
        (try dsimp only at hSw)
        go_simp
      (try simp only [Act.put, List.setIfInBounds_toArray, List.set_cons_zero, List.set_cons_succ])
      refine wpAnyH_take (i := 11) (oi := { dst := some 4, op := _, type := _, pos := _, after := _, guard := _ }) (v := .bool (q == q)) rfl (by kernel_rfl) (by kernel_rfl) (by kernel_rfl) (fun _ _ _ h => h) (Or.inl ⟨by rfl, ?_⟩) hHeld ?_
      · intro w' hSw
        (try dsimp only at hSw)
        go_simp
      (try simp only [Act.put, List.setIfInBounds_toArray, List.set_cons_zero, List.set_cons_succ])
      refine wpAnyH_done (by kernel_rfl) ?_ _
      clear hHeld hF6 hr hS3
      go_wp2
      go_ret
      exact ⟨by cases q <;> rfl, unhide HE⟩
end Go.Proofs.YtfkjjljhabjcjaaDoor
