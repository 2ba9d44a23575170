/- The slice of blocks to be made, opened; whether they are few. -/
import Derived.Test.YtinmaogbfcmagaaDoorMd2
import Derived.Deep.SlicePairs
import Derived.ProofKit
namespace Go.Proofs.YtinmaogbfcmagaaDoor
open Go.RowKit Go.Proofs.YtinmaogbfcmagaaDoor.Hp Go.ChangeShapes Go.WideShapes Go.Deep
theorem wf_rng {n : Int} (h : (Lit.int .i64 n).wf = true) : -9223372036854775808 ≤ n ∧ n < 9223372036854775808 := by
  simp [Lit.wf, IntKind.min, IntKind.max, IntKind.signed, IntKind.bits] at h
  omega
def RawW (w : World) (r : Rw) : Prop := (∀ v ∈ r.W, -9223372036854775808 ≤ v ∧ v < 9223372036854775808) ∧ ∀ j, j < r.W.length → ∃ b' off', r.wa = some ⟨b', off', none⟩ ∧ b' < w.heap.size ∧ w.cell? ⟨b', off' + j, none⟩ = some (.int .i64 (r.W.getD j 0))
def RawX (w : World) (a0 : Option Addr) (i : Nat) (r : Rw) : Prop := ∃ b off, a0 = some ⟨b, off, none⟩ ∧ b < w.heap.size ∧
  w.cell? ⟨b, off + i * 4, none⟩ = some (.int .i64 r.kd) ∧ w.cell? ⟨b, off + i * 4 + 1, none⟩ = some (.int .i64 r.sz) ∧ w.cell? ⟨b, off + i * 4 + 2, none⟩ = some (.int .i64 r.ms) ∧ w.cell? ⟨b, off + i * 4 + 3, none⟩ = some (.slice r.wa r.W.length r.wc) ∧ r.W.length ≤ maxLen ∧ RawW w r
theorem raw_words {H : Type} {enc : TypeId × Value → H} {w : World} {spare : Nat → Bool} {held : Bool} {fuel : Nat} {v : Value} {x : DataW H × List MemPlace} (h : DataW.trod enc Tryd.prog w 0 spare held fuel 29 [v] = some x) :
    ∃ (wa : Option Addr) (wc : Nat) (W : List Int), v = .slice wa W.length wc ∧ W.length ≤ maxLen ∧ (∀ z ∈ W, -9223372036854775808 ≤ z ∧ z < 9223372036854775808) ∧ ∀ j, j < W.length → ∃ b' off', wa = some ⟨b', off', none⟩ ∧ b' < w.heap.size ∧ w.cell? ⟨b', off' + j, none⟩ = some (.int .i64 (W.getD j 0)) := by
  rcases open_ints Tryd.underlying29 Tryd.underlying3 (by kernel_rfl) h with ⟨hcs, _⟩ | ⟨a, l, c, zs, hcs, _, hl, hm, hz, _, hcell, hwz⟩
  · simp at hcs
    exact ⟨none, 0, [], by rw [hcs]; rfl, by simp, by simp, fun j hj => absurd hj (by simp)⟩
  · simp at hcs
    have hlz : l ≤ zs.length := by rw [hz]; split <;> omega
    have hlt : (zs.take l).length = l := by rw [List.length_take]; omega
    refine ⟨some a, c, zs.take l, by rw [hcs, hlt], by omega, fun z hz' => wf_rng (hwz z (List.mem_of_mem_take hz')), fun j hj => ?_⟩
    have h0 := hcell j (by omega)
    obtain ⟨b, off, spot⟩ := a
    have hspot : spot = none := by simpa [Addr.add] using World.cell?_spot (hcell 0 (by omega))
    subst hspot
    rw [Go.WideShapes.add_plain] at h0
    refine ⟨b, off, rfl, World.block_lt_of_cell? w ⟨b, off + j, none⟩ h0, ?_⟩
    rw [h0]
    have hjl : j < l := by omega
    simp [List.getD, hjl]
set_option maxRecDepth 100000 in
theorem open_raws {H : Type} {enc : TypeId × Value → H} {w : World} {spare : Nat → Bool} {held : Bool} {fuel : Nat} {a0 : Option Addr} {len cap : Nat} {x : DataW H × List MemPlace} (h : DataW.trod enc Tryd.prog w 0 spare held fuel 28 [.slice a0 len cap] = some x) :
    ∃ rs : List Rw, rs.length = len ∧ len ≤ maxLen ∧ ∀ i r, rs[i]? = some r → RawX w a0 i r := by
  rcases Go.Deep.open_slice Tryd.underlying28 h with ⟨h0, _⟩ | ⟨a, len', cap', m, n, D, Pl, hcs, hb, hl, hm, hmm, _, hx⟩
  · simp at h0
    obtain ⟨rfl, rfl, rfl⟩ := h0
    exact ⟨[], rfl, Nat.zero_le _, fun i r hr => by simp at hr⟩
  · simp at hcs
    obtain ⟨rfl, rfl, rfl⟩ := hcs
    have hlm : len ≤ m := by rw [hmm]; split <;> omega
    have ce : Tryd.prog.cellsOf 61 = 4 := by kernel_rfl
    have c3 : Tryd.prog.cellsOf 3 = 1 := by kernel_rfl
    have c29 : Tryd.prog.cellsOf 29 = 1 := by kernel_rfl
    have each : ∀ i, i < len → ∃ r : Rw, w.cell? (a.add (i * 4)) = some (.int .i64 r.kd) ∧ w.cell? (a.add (i * 4 + 1)) = some (.int .i64 r.sz) ∧ w.cell? (a.add (i * 4 + 2)) = some (.int .i64 r.ms) ∧ w.cell? (a.add (i * 4 + 3)) = some (.slice r.wa r.W.length r.wc) ∧ r.W.length ≤ maxLen ∧ RawW w r := by
      intro i hi
      obtain ⟨cs', h1, h2⟩ := hx i (by omega)
      rw [ce] at h1
      obtain ⟨_, hlen, hcell⟩ := World.cells?_some h1
      obtain ⟨xs, k, hk, hxy, _, hxl, hf⟩ := DataW.trod_struct Tryd.underlying61 h2
      match xs, hxl, cs', hlen with
      | [y0, y1, y2, y3], _, [v0, v1, v2, v3], _ =>
        have g0 := hf 0 _ rfl
        have g1 := hf 1 _ rfl
        have g2 := hf 2 _ rfl
        have g3 := hf 3 _ rfl
        simp [c3, c29] at g0 g1 g2 g3
        obtain ⟨z0, e0, _, r0⟩ := DataW.trod_int Tryd.underlying3 g0
        obtain ⟨z1, e1, _, r1⟩ := DataW.trod_int Tryd.underlying3 g1
        obtain ⟨z2, e2, _, r2⟩ := DataW.trod_int Tryd.underlying3 g2
        obtain ⟨wa, wc, W, e3, hW1, hW2, hW3⟩ := raw_words g3
        have k0 := hcell 0 (by omega)
        have k1 := hcell 1 (by omega)
        have k2 := hcell 2 (by omega)
        have k3 := hcell 3 (by omega)
        rw [add_add] at k0 k1 k2 k3
        simp at e0 e1 e2
        subst e0 e1 e2 e3
        exact ⟨⟨z0, z1, z2, wa, wc, W⟩, by simpa using k0, by simpa using k1, by simpa using k2, by simpa using k3, hW1, hW2, hW3⟩
    have each2 : ∀ i, ∃ r : Rw, i < len → w.cell? (a.add (i * 4)) = some (.int .i64 r.kd) ∧ w.cell? (a.add (i * 4 + 1)) = some (.int .i64 r.sz) ∧ w.cell? (a.add (i * 4 + 2)) = some (.int .i64 r.ms) ∧ w.cell? (a.add (i * 4 + 3)) = some (.slice r.wa r.W.length r.wc) ∧ r.W.length ≤ maxLen ∧ RawW w r := fun i => by
      by_cases hi : i < len
      · obtain ⟨r, hr⟩ := each i hi
        exact ⟨r, fun _ => hr⟩
      · exact ⟨⟨0, 0, 0, none, 0, []⟩, fun h => absurd h hi⟩
    obtain ⟨f, hf⟩ := Classical.axiomOfChoice each2
    refine ⟨(List.range len).map f, by simp, by omega, fun i r hr => ?_⟩
    have hi : i < len := by
      have := (List.getElem?_eq_some_iff.1 hr).1
      simpa using this
    obtain rfl : f i = r := by
      rw [List.getElem?_map, List.getElem?_range hi] at hr
      simpa using hr
    have k00 := (hf 0 (by omega)).1
    obtain ⟨k0, k1, k2, k3, k4, k5⟩ := hf i hi
    clear hr each each2 hx
    obtain ⟨b, off, spot⟩ := a
    have hspot : spot = none := by simpa [Addr.add] using World.cell?_spot k00
    subst hspot
    rw [Go.WideShapes.add_plain] at k0 k1 k2 k3
    exact ⟨b, off, rfl, World.block_lt_of_cell? w ⟨b, off + i * 4, none⟩ k0, k0, by rw [← Nat.add_assoc] at k1; exact k1, by rw [← Nat.add_assoc] at k2; exact k2, by rw [← Nat.add_assoc] at k3; exact k3, k4, k5⟩
/-- Whether the blocks to be made are few. -/
def fewB (rs : List Rw) : Bool := decide (rs.length ≤ 40) && rs.all fun r => decide (r.W.length ≤ 100)
theorem RawX.far {w w' : World} {a0 : Option Addr} {i : Nat} {r : Rw} (h : RawX w a0 i r) (k : Fr (fun _ => False) w w') : RawX w' a0 i r := by
  obtain ⟨b, off, h1, h2, h3, h4, h5, h6, h7, h8, h9⟩ := h
  refine ⟨b, off, h1, Nat.lt_of_lt_of_le h2 k.size, cell_far k h2 h3, cell_far k h2 h4, cell_far k h2 h5, cell_far k h2 h6, h7, h8, fun j hj => ?_⟩
  obtain ⟨b', off', e1, e2, e3⟩ := h9 j hj
  exact ⟨b', off', e1, Nat.lt_of_lt_of_le e2 k.size, cell_far k e2 e3⟩
theorem raws_few {w : World} {a0 : Option Addr} {rs : List Rw} (h : ∀ i r, rs[i]? = some r → RawX w a0 i r) (hf : fewB rs = true) : RawsAt w a0 rs ∧ rs.length ≤ 40 := by
  unfold fewB at hf
  simp only [Bool.and_eq_true, decide_eq_true_eq, List.all_eq_true] at hf
  refine ⟨fun i r hr => ?_, hf.1⟩
  obtain ⟨b, off, h1, h2, h3, h4, h5, h6, h7, h8, h9⟩ := h i r hr
  exact ⟨b, off, h1, h2, h3, h4, h5, h6, hf.2 r (List.mem_of_getElem? hr), h8, h9⟩
set_option maxRecDepth 100000 in
set_option maxHeartbeats 1000000 in
theorem few_any (w : World) (a0 : Option Addr) (cap : Nat) (rs : List Rw) (hm : rs.length ≤ maxLen) (h : ∀ i r, rs[i]? = some r → RawX w a0 i r) : Calls Tryd.prog 11 #[.slice a0 rs.length cap] w fun e w' => e = .returned (.bool (fewB rs)) ∧ Fr (fun _ => False) w w' := by
  unfold maxLen at hm
  by_cases h40 : rs.length ≤ 40
  · have HE : Hid (∀ b, fewB rs = b ↔ (rs.all fun r => decide (r.W.length ≤ 100)) = b) := hide fun b => by unfold fewB; rw [decide_eq_true h40, Bool.true_and]
    obtain ⟨len, hlen⟩ : ∃ len, len = rs.length := ⟨_, rfl⟩
    rw [← hlen] at h40 hm ⊢
    have HLn := hide hlen
    have HX := hide h
    clear h hlen
    go_enter Tryd.func11, Tryd.ntmps11
    go_wp2
    go_loopw [10] (fun i wr => ∃ k : Nat, k ≤ len ∧ i = .int .i64 k ∧ Hid ((rs.take k).all (fun r => decide (r.W.length ≤ 100)) = true) ∧ Hid (Fr (fun _ => False) w wr)) (fun i _ => len - (intOf i).toNat)
    case atStart => exact ⟨0, by omega, rfl, hide rfl, hide (Fr.refl _ _)⟩
    case round =>
      obtain ⟨k, hk, rfl, hA, hF⟩ := hrel
      by_cases hlt : k < len
      · have hkr : k < rs.length := by have := unhide HLn; omega
        obtain ⟨r, hr⟩ : ∃ r, rs[k]? = some r := ⟨rs[k], by simp [hkr]⟩
        obtain ⟨b, off, hab, hb1, c0, c1, c2, c3, hW1, _⟩ := ((unhide HX) k r hr).far (unhide hF)
        subst hab
        have htk : rs.take (k + 1) = rs.take k ++ [r] := by
          rw [List.take_succ_eq_append_getElem hkr]
          have : rs[k] = r := by rw [List.getElem?_eq_getElem hkr] at hr; exact Option.some.inj hr
          rw [this]
        unfold maxLen at hW1
        by_cases hw : r.W.length ≤ 100
        · have HA2 : Hid ((rs.take (k + 1)).all (fun r => decide (r.W.length ≤ 100)) = true) := hide (by rw [htk, List.all_append, unhide hA]; simp [hw])
          clear hr hkr htk hb1
          go_wp2
          go_roundw
          case rel => exact ⟨k + 1, by omega, by go_num, HA2, hide ((unhide hF).alloc _)⟩
          case measure => simp [intOf]; omega
        · have HN : Hid (fewB rs = false) := hide ((unhide HE false).2 (by
            rw [List.all_eq_false]
            exact ⟨r, List.mem_of_getElem? hr, by simp; omega⟩))
          have hw2 : 100 < r.W.length := by omega
          clear hr hkr htk hb1 hw
          go_wp2
          go_ret
          exact ⟨ret_bool (unhide HN).symm, (unhide hF).alloc _⟩
      · have e : k = len := by omega
        subst e
        have HN : Hid (fewB rs = true) := hide ((unhide HE true).2 (by have := unhide hA; rw [unhide HLn, List.take_length] at this; exact this))
        go_wp2
        go_ret
        exact ⟨ret_bool (unhide HN).symm, unhide hF⟩
  · have HN : Hid (fewB rs = false) := hide (by unfold fewB; rw [decide_eq_false h40]; rfl)
    have h41 : 40 < rs.length := by omega
    clear h h40
    generalize rs.length = len at *
    go_enter Tryd.func11, Tryd.ntmps11
    go_wp2
    go_ret
    exact ⟨ret_bool (unhide HN).symm, Fr.refl _ _⟩
end Go.Proofs.YtinmaogbfcmagaaDoor
