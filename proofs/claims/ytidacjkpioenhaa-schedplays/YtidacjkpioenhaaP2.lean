/- SchedPlays, walked. -/
import Derived.Test.YtidacjkpioenhaaP1
namespace Go.Proofs.Ytidacjkpioenhaa
open Go.RowKit
/-- Steps that lie behind an address. -/
def OpsAt (w : World) (bo : Option Addr) (len : Nat) (f : Nat → Int × Int) : Prop := ∀ j, j < len → ∃ b off, bo = some ⟨b, off, none⟩ ∧ b < w.heap.size ∧ w.cell? ⟨b, off + j * 2, none⟩ = some (.int .i64 (f j).1) ∧ w.cell? ⟨b, off + j * 2 + 1, none⟩ = some (.int .i64 (f j).2)
theorem OpsAt.quiet {w w' : World} {bo : Option Addr} {len : Nat} {f : Nat → Int × Int} (h : OpsAt w bo len f) (k : Fr (fun _ => False) w w') : OpsAt w' bo len f := fun j hj => by
  obtain ⟨b, off, e, hl, h1, h2⟩ := h j hj
  exact ⟨b, off, e, Nat.lt_of_lt_of_le hl k.size, k.cell h1 id, k.cell h2 id⟩
set_option maxHeartbeats 1000000 in
theorem plays_out (w : World) (ao : Option Addr) (cp : Nat) (zs : List Int) (bo : Option Addr) (n cq : Nat) (hm : zs.length ≤ maxLen) (hm2 : n ≤ maxLen) (h : 1000 < zs.length ∨ 1000 < n) :
    Calls Try.prog 3 #[.slice ao zs.length cp, .slice bo n cq] w fun e w' => e = .returned (.bool true) ∧ Below w.heap.size w w' := by
  unfold maxLen at hm hm2
  have HA := hide (anchor_any w)
  go_enter Try.func3, Try.ntmps3
  go_wp2_with fail
  refine (unhide HA).mono ?_
  rintro e w1 ⟨rfl, hF⟩
  have HB := hide hF.lowD
  clear hF
  have hb : (decide (1000 < zs.length) || decide (1000 < n)) = true := by
    rcases h with h | h <;> simp [h]
  go_wp2
  all_goals first | (go_ret; exact ⟨rfl, unhide HB⟩) | (exfalso; omega)
set_option maxRecDepth 100000 in
set_option maxHeartbeats 2000000 in
theorem plays_in (w : World) (ao : Option Addr) (cp : Nat) (zs : List Int) (bo : Option Addr) (n cq : Nat) (f : Nat → Int × Int) (hl : zs.length ≤ 1000) (hl2 : n ≤ 1000) (hr : ∀ z ∈ zs, rng z) (hz : IntsAt w ao zs) (hy : OpsAt w bo n f) :
    Calls Try.prog 3 #[.slice ao zs.length cp, .slice bo n cq] w fun e w' => e = .returned (.bool true) ∧ Below w.heap.size w w' := by
  have HA := hide (anchor_any w)
  have HZ := hide hz
  have HR : Hid (∀ z ∈ zs, rng z) := hide hr
  have HY := hide hy
  obtain ⟨nz, hnz⟩ : ∃ n, n = zs.length := ⟨_, rfl⟩
  have HIz : Hid (zs.length = nz) := hide hnz.symm
  rw [← hnz] at hl ⊢
  clear hz hr hy hnz
  go_enter Try.func3, Try.ntmps3
  go_wp2_with fail
  refine (unhide HA).mono ?_
  rintro e w1 ⟨rfl, hF1⟩
  obtain ⟨w2, hw2⟩ : ∃ w2, w2 = w1.alloc (.cells #[] 3) := ⟨_, rfl⟩
  have hF2 : Fr (fun _ => False) w w2 := by rw [hw2]; exact hF1.alloc _
  have HX2 : Hid (Own w2 (.slice (some ⟨w1.heap.size, 0, none⟩) 0 0) (some w1.heap.size) [] ∧ IntsAt w2 ao zs ∧ ([] : List Int).length + zs.length ≤ 1000000) := hide ⟨by rw [hw2]; exact own_empty w1, (unhide HZ).quiet hF2, by have := unhide HIz; simp; omega⟩
  have HG2 : Hid (∀ ao' c' ib' w3, Own w3 (.slice ao' nz c') ib' zs → Grew w2 w3 (some w1.heap.size) ib' → Fr (fun _ => False) w w3 ∧ (∀ g, ib' = some g → w.heap.size ≤ g ∧ g < w3.heap.size) ∧ Calls Try.prog 8 #[.slice ao' nz c'] w3 (NewP w3 zs)) := hide fun ao' c' ib' w3 ho hg => by
    have h1 := hF1.size
    refine ⟨hF2.up hg.fr fun k e => by cases e; exact h1, fun g e => ⟨?_, ho.lt g e⟩, ?_⟩
    · rcases hg.at_ with e' | e'
      · rw [e'] at e; cases e; exact h1
      · rw [e'] at e; cases e; exact hF2.size
    · have := New_q w3 ao' c' zs (ho.ints) (by have := unhide HIz; omega) (unhide HR)
      rwa [unhide HIz] at this
  clear hF1 hF2 HA
  go_wp2_with (at_builtin; rw [← hw2]; refine wpList_app rfl _ _ rfl (.slice (some ⟨w1.heap.size, 0, none⟩) 0 0) (some w1.heap.size) [] rfl (unhide HX2).1 ao nz cp zs rfl (unhide HIz).symm (unhide HX2).2.1 (unhide HX2).2.2 ?_; intro ao3 c3 ib3 w3 ho hg; rw [List.length_nil, Nat.zero_add, List.nil_append, unhide HIz] at ho; rw [List.length_nil, Nat.zero_add, unhide HIz]; obtain ⟨hF3, hg3, hC3⟩ := unhide HG2 ao3 c3 ib3 w3 ho hg; have HX3 := hide (And.intro hF3 (And.intro hg3 ho)); have HC3 := hide hC3; clear hF3 hg3 hC3 ho hg)
  refine (unhide HC3).mono ?_
  rintro e w4 ⟨B, rfl, hq, hb, hF4⟩
  have HS4 : Hid (QAt w4 B zs [] ∧ Own w4 (.slice ao3 nz c3) ib3 zs ∧ Fr (fun _ => False) w w4) := hide ⟨hq, (unhide HX3).2.2.fr hF4 fun _ _ => id, (unhide HX3).1.trans hF4⟩
  have HB4 : Hid ((∀ k, B.all k → w3.heap.size ≤ k) ∧ (∀ g, ib3 = some g → w.heap.size ≤ g ∧ g < w3.heap.size) ∧ w.heap.size ≤ w3.heap.size) := hide ⟨hb, (unhide HX3).2.1, (unhide HX3).1.size⟩
  clear hq hb hF4 HX3 HC3 HX2 HG2 hw2
  obtain ⟨p, hp⟩ : ∃ p, p = B.p := ⟨_, rfl⟩
  have HPp : Hid (B.p = p) := hide hp.symm
  rw [← hp]
  clear hp
  go_wp2
  go_loopw [30] (fun i wr => ∃ k : Nat, k ≤ nz ∧ i = .int .i64 k ∧ ∃ us : List Int, Hid (us.length = nz) ∧ Hid (QAt wr B zs [] ∧ Own wr (.slice ao3 nz c3) ib3 us ∧ Fr (fun _ => False) w wr)) (fun i _ => nz - (intOf i).toNat)
  case atStart => exact ⟨0, by omega, rfl, zs, HIz, HS4⟩
  case round =>
    clear HS4
    obtain ⟨k, hk, rfl, us, hul, hS⟩ := hrel
    by_cases hlt : k < nz
    · have hml : k < us.length := by rw [unhide hul]; exact hlt
      obtain ⟨b, off, hab, hb1, cz⟩ := (unhide hS).2.1.ints k hml
      subst hab
      obtain ⟨ho2, fz, _, hib⟩ := (unhide hS).2.1.set k hml (-77)
      have HS2 : Hid (QAt (wr.setCell ⟨b, off + k, none⟩ (.int .i64 (-77))) B zs [] ∧ Own (wr.setCell ⟨b, off + k, none⟩ (.int .i64 (-77))) (.slice (some ⟨b, off, none⟩) nz c3) ib3 (us.set k (-77)) ∧ Fr (fun _ => False) w (wr.setCell ⟨b, off + k, none⟩ (.int .i64 (-77)))) := hide (by
        have F := (Fr.refl (· = b) wr).setCell (p := ⟨b, off + k, none⟩) rfl (.int .i64 (-77))
        obtain ⟨hb', hg', _⟩ := unhide HB4
        have h3 := hg' b hib
        exact ⟨(unhide hS).1.fr F fun j hj e => by have := hb' j hj; omega, ho2, (unhide hS).2.2.up F fun g e => by subst e; exact h3.1⟩)
      have HU2 : Hid ((us.set k (-77)).length = nz) := hide (by rw [List.length_set]; exact unhide hul)
      clear ho2 hib hml hS hul
      generalize us.getD k 0 = u at *
      go_wp2
      go_roundw
      case rel => exact ⟨k + 1, by omega, by go_num, _, HU2, HS2⟩
      case measure => simp [intOf]; omega
    · have hke : k = nz := by omega
      obtain ⟨w6, hw6⟩ : ∃ w6, w6 = wr.alloc (.cells #[.slice ao nz cp, .int .i64 0, .slice none 0 0] 29) := ⟨_, rfl⟩
      have HD6 : Hid (Duo w w6 p wr.heap.size zs [] zs []) := hide (by
        obtain ⟨hq, _, hF⟩ := unhide hS
        obtain ⟨hb', _, hs'⟩ := unhide HB4
        have := Duo.new (za := ao) (zc := cp) hF hq (fun j hj => by have := hb' j hj; omega) (by have := unhide HIz; omega) (unhide HR) (unhide HZ) (w1 := w6) (by rw [unhide HIz]; exact hw6)
        rw [unhide HPp] at this
        exact this)
      subst hke
      clear hS hul HB4
      go_wp2
      rw [← hw6]
      generalize wr.heap.size = r at *
      clear hw6
      go_loopw [42] (fun i wr => ∃ j : Nat, j ≤ n ∧ i = .int .i64 j ∧ ∃ S I, Hid (Duo w wr p r S I S I) ∧ Hid (I.length ≤ j)) (fun i _ => n - (intOf i).toNat)
      case atStart => exact ⟨0, by omega, rfl, zs, [], HD6, hide (Nat.le_refl _)⟩
      case round =>
        clear HD6
        obtain ⟨j, hj, rfl, S, I, hD, hI⟩ := hrel
        by_cases hjt : j < n
        · obtain ⟨b, off, hab, hb1, c1, c2⟩ := (unhide HY).quiet (unhide hD).far j hjt
          subst hab
          obtain ⟨kd, hkd⟩ : ∃ kd, kd = (f j).1 := ⟨_, rfl⟩
          obtain ⟨x, hx⟩ : ∃ x, x = (f j).2 := ⟨_, rfl⟩
          rw [← hkd] at c1
          rw [← hx] at c2
          clear hkd hx
          have HSt : Hid (∀ w7, w7 = wr.alloc (.cells #[.int .i64 kd, .int .i64 x] 31) → Calls Try.prog 9 #[.pointer (some ⟨p, 0, none⟩), .pointer (some ⟨r, 0, none⟩), .agg #[.int .i64 kd, .int .i64 x]] w7 (StepP w p r I)) := hide fun w7 hw7 => step_any w w7 p r S I kd x ((unhide hD).quiet (by rw [hw7]; exact (Fr.refl _ wr).alloc _)) (by have := unhide hI; omega)
          clear hD
          go_wp2_with fail
          refine (unhide HSt _ rfl).mono ?_
          rintro e w8 ⟨rfl, S', I', hI', hD'⟩
          have HD' := hide hD'
          have HI' : Hid (I'.length ≤ j + 1) := hide (by have := unhide hI; omega)
          clear hD' hI' HSt
          go_wp2
          go_roundw
          case rel => exact ⟨j + 1, by omega, by go_num, S', I', HD', HI'⟩
          case measure => simp [intOf]; omega
        · have HB : Hid (Below w.heap.size w wr) := hide (unhide hD).far.lowD
          clear hD hI
          go_wp2
          go_ret
          exact ⟨rfl, unhide HB⟩
theorem plays_w (ao : Option Addr) (cp : Nat) (zs : List Int) (bo : Option Addr) (n cq : Nat) (f : Nat → Int × Int) (w : World) (hm : zs.length ≤ maxLen) (hr : ∀ z ∈ zs, rng z) (hz : IntsAt w ao zs) (hm2 : n ≤ maxLen) (hy : OpsAt w bo n f) :
    Calls Try.prog 3 #[.slice ao zs.length cp, .slice bo n cq] w fun e w' => e = .returned (.bool true) ∧ Below w.heap.size w w' := by
  by_cases h : 1000 < zs.length ∨ 1000 < n
  · exact plays_out w ao cp zs bo n cq hm hm2 h
  · exact plays_in w ao cp zs bo n cq f (by omega) (by omega) hr hz hy
end Go.Proofs.Ytidacjkpioenhaa
