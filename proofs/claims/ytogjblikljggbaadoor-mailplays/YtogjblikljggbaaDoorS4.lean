/- roots, Collect, Told. -/
import Derived.Test.YtogjblikljggbaaDoorS3
import Derived.Deep.AppendSrc
namespace Go.Proofs.YtogjblikljggbaaDoor
open Go.RowKit Go.Proofs.YtogjblikljggbaaDoor.Hp
variable {w w' : World} {B : HB} {n p : Nat} {A : Nat → Kd} {wd : Nat → Int} {hv : Value} {held : List Int} {cnt : Nat}
theorem run_app_nil (w : World) : (Builtin.append_ #[28, 28] 28 #[.slice none 0 0, .slice none 0 0]).run Tryd.prog w = .ok (.slice none 0 0) w := by
  obtain ⟨i0, hi, hz0, hz1, hz2⟩ := info_parts Tryd.info3
  simp [Builtin.append_, run_underlying Tryd.underlying28, sizeOf, typeInfo, hi, Builtin.lenOf, Builtin.firstCells]
theorem cell_far {w w' : World} {b i : Nat} {u : Value} (k : Fr (fun _ => False) w w') (hb : b < w.heap.size) (h : w.cell? ⟨b, i, none⟩ = some u) : w'.cell? ⟨b, i, none⟩ = some u :=
  (World.cell?_of_block (w := w) (a := ⟨b, i, none⟩) (k.block b hb id)).trans h
theorem neq_nilf (w : World) : (binOp .neq 51 .nilFunc .nilFunc).run Tryd.prog w = .ok (.bool false) w := by kernel_rfl
def RootsP (w : World) (held : List Int) (e : Ending) (w' : World) : Prop :=
  ∃ ao cp, e = .returned (.slice ao held.length cp) ∧ (∀ j, j < held.length → ∃ b off, ao = some ⟨b, off, none⟩ ∧ b < w'.heap.size ∧ w'.cell? ⟨b, off + j, none⟩ = some (.int .i64 (held.getD j 0))) ∧ Fr (fun _ => False) w w'
set_option maxRecDepth 100000 in
set_option maxHeartbeats 2000000 in
theorem roots_any (h : Sp w B n p A wd hv held cnt) :
    Calls Tryd.prog 34 #[.pointer (some ⟨p, 0, none⟩)] w fun e w' => RootsP w held e w' := by
  have HS := hide h
  have c0 := h.c0
  have c2 := h.c2
  have hp := h.st.lt (by omega)
  obtain ⟨i0, hi, hz0, hz1, hz2⟩ := info_parts Tryd.info3
  have hq := neq_nilf
  rcases h.own.2 with ⟨h2, h3⟩ | ⟨g, cap, cur, h2, hg1, hg2, hg3, hg4, hg5, hg6⟩
  · subst h2
    have hr := run_app_nil
    have HE : Hid (∀ W, Fr (fun _ => False) w W → RootsP w held (.returned (.slice none 0 0)) W) := hide fun W hW => ⟨none, 0, by rw [h3], fun j hj => absurd hj (by omega), hW⟩
    clear h h3
    go_enter Tryd.func34, Tryd.ntmps34
    go_wp2
    go_region
    go_wp2
    go_ret
    exact unhide HE _ (((Fr.refl _ w).alloc _).drew)
  · have hown := h.own
    have hlen : held.length ≤ 900 := h.hl
    obtain ⟨len, hl⟩ : ∃ len, len = held.length := ⟨_, rfl⟩
    rw [h2, ← hl] at c2
    rw [h2, ← hl] at hown
    have hl9 : len ≤ 900 := by omega
    rcases Nat.eq_zero_or_pos len with h0 | h0
    · subst h0
      have HE : Hid (∀ W, Fr (fun _ => False) w W → RootsP w held (.returned (.slice none 0 0)) W) := hide fun W hW => ⟨none, 0, by rw [← hl], fun j hj => absurd hj (by omega), hW⟩
      clear h hown hg2 hg3 hg6 h2 hlen hl
      go_enter Tryd.func34, Tryd.ntmps34
      go_wp2
      go_region
      go_wp2
      go_ret
      exact unhide HE _ (((Fr.refl _ w).alloc _).drew)
    · have hF0 : Fr (fun _ => False) w (w.alloc (Obj.cells #[Value.slice none 0 0] 28)).drew := ((Fr.refl _ w).alloc _).drew
      have HC : Hid (∀ W, Fr (fun _ => False) w W → ∀ j u, (held.map (Value.int .i64))[j]? = some u → W.cell? ((⟨g, 0, none⟩ : Addr).add j) = some u) := hide fun W hW j u hu => by
        have hc := hown.cells (g := g) rfl j u hu
        exact (World.cell?_of_block (w := w) (a := (⟨g, 0, none⟩ : Addr).add j) (by rw [show ((⟨g, 0, none⟩ : Addr).add j).block = g by unfold Addr.add; split <;> rfl]; exact hW.block g (hown.lt g rfl).2 id)).trans hc
      have HL : Hid ((held.map (Value.int .i64)).length = len * 1) := hide (by simp [hl])
      have HE : Hid (∀ (W0 W1 : World) g' cap', Fr (fun _ => False) w W0 → W1.ownsRow (w.heap.size + 1) 3 1 (.slice (some ⟨g', 0, none⟩) (0 + len) cap') (0 + len) ([] ++ held.map (Value.int .i64)) → W0.grownBy W1 none → RootsP w held (.returned (.slice (some ⟨g', 0, none⟩) len cap')) W1) := hide fun W0 W1 g' cap' hF ho hgr => by
        rw [Nat.zero_add, hl] at ho
        rw [hl]
        refine ⟨_, cap', rfl, fun j hj => ?_, hF.trans (Fr.grown hgr |>.mono fun k e => by cases e)⟩
        obtain ⟨b, e, _, hb, hc⟩ := own_cells (ys := held) ho j hj
        exact ⟨b, 0, e, hb, by rw [Nat.zero_add]; exact hc⟩
      clear h hown hg2 hg3 hg6 h2 hlen hl
      go_enter Tryd.func34, Tryd.ntmps34
      go_wp2
      go_region_law (first | (refine step_append_lies _ rfl _ _ 28 rfl (w.heap.size + 1) 3 i0 (.int .i64 0) 1 8 Tryd.underlying28 hi hz0 hz1 hz2 rfl (by decide) (.slice none 0 0) 0 [] (by simp [Act.eval]) (World.ownsRow_nil _ _ _ _) ⟨g, 0, none⟩ len cap (held.map (Value.int .i64)) (by simp [Act.eval]) (unhide HL) (unhide HC _ hF0) (fun u hu => by obtain ⟨z, _, rfl⟩ := List.mem_map.1 hu; rfl) h0 (by unfold maxLen; omega) (by omega) (by simp) _ rfl ?_; intro g' cap' W1 ho hgr hat hlt))
      all_goals go_wp2
      all_goals go_ret
      all_goals exact unhide HE _ _ _ _ hF0 ho hgr
theorem bl_len : ∀ (m x : Nat), (bl m x).length ≤ m := by
  intro m x
  have h := bl_sorted m x
  have hm : ∀ k ∈ bl m x, k < m := fun k hk => ((bl_mem m x k).1 hk).1
  have hn : (bl m x).Nodup := h.imp fun h => by omega
  have := nd_le m ((bl m x).map Int.ofNat) (by rw [List.Nodup, List.pairwise_map]; exact hn.imp fun h e => h (Int.ofNat.inj e)) (fun y hy => by obtain ⟨k, hk, rfl⟩ := List.mem_map.1 hy; have := hm k hk; simp; omega)
  simpa using this
theorem blkL_len (A : Nat → Kd) : ∀ m, (blkL A m).length ≤ 32 * m
  | 0 => by simp [blkL]
  | m + 1 => by
    have := blkL_len A m
    have h2 := bl_len 32 (usK (A m))
    rw [blkL, List.length_append, spanU, List.length_map]
    omega
theorem Sp.few (h : Sp w B n p A wd hv held cnt) : (blkL A n).length ≤ 100000 := by
  have := blkL_len A n
  have := h.hi
  omega
set_option maxRecDepth 100000 in
set_option maxHeartbeats 2000000 in
theorem Told_any (h : Sp w B n p A wd hv held cnt) :
    Calls Tryd.prog 21 #[.pointer (some ⟨p, 0, none⟩)] w fun e w' => e = .returned (.tuple #[.int .i64 ((blkL A n).length : Nat), .int .i64 cnt, .int .i64 (cntN (fun s => frK (A s)) (64 * setM n) : Nat)]) ∧ Fr (fun _ => False) w w' := by
  have HS := hide h
  have c1 := h.c1
  have c3 := h.c3
  have HB : Hid (∀ W, Fr (fun _ => False) w W → Calls Tryd.prog 35 #[.pointer (some ⟨B.p, 0, none⟩)] W fun e w' => BlkP W (blkL A n) e w') := hide fun W hW => Blocks_full B n A wd W (h.quiet hW).at_ h.inv (h.quiet hW).vars h.few
  have HN : Hid (∀ W, Fr (fun _ => False) w W → Calls Tryd.prog 36 #[.pointer (some ⟨B.p, 0, none⟩)] W fun e w' => e = .returned (.int .i64 (cntN (fun s => frK (A s)) (64 * setM n) : Nat)) ∧ w' = W) := hide fun W hW => Spans_any B n (hrOf A wd) W (h.quiet hW).at_
  have hp := h.st.lt (by omega)
  clear h
  generalize cntN (fun s => frK (A s)) (64 * setM n) = cn at *
  go_enter Tryd.func21, Tryd.ntmps21
  go_wp2
  go_region_held2 (fun w' => w'.cell? ⟨p, 1, none⟩ = some (.pointer (some ⟨B.p, 0, none⟩)) ∧ w'.cell? ⟨p, 3, none⟩ = some (.int .i64 cnt)) (go_keep) (first | (go_at_call 35; refine (unhide HB _ (by (repeat' (first | exact Fr.refl _ _ | refine Fr.drew ?_)))).mono ?_; rintro e w2 ⟨ao, cp, rfl, hO2, hF2⟩; have hF3 := Fr.trans (show Fr (fun _ => False) w _ by (repeat' (first | exact Fr.refl _ _ | refine Fr.drew ?_))) hF2; have HF2 := hide hF3; have d1 := ((unhide HS).quiet hF3).c1; have d3 := ((unhide HS).quiet hF3).c3; clear hF2 hF3 hO2) | (go_at_call 36; refine (unhide HN _ (by first | exact unhide HF2 | exact (unhide HF2).drew | exact Fr.refl _ _ | exact (Fr.refl _ _).drew)).mono ?_; rintro e w3 ⟨rfl, rfl⟩))
  all_goals go_wp2
  all_goals go_ret3
  all_goals exact ⟨rfl, unhide HF2⟩
end Go.Proofs.YtogjblikljggbaaDoor
