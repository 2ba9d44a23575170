/- The answer by definition: what is reached. -/
import Derived.Test.YtjblmincldaklaaDoorFi1
import Derived.Deep.LoopGhost
import Derived.BigQuiet
import Derived.Deep.RegionHeld2
namespace Go.Proofs.YtjblmincldaklaaDoor
open Go.RowKit Go.Proofs.YtjblmincldaklaaDoor.Hp
inductive RchI (n : Nat) (at_ : Nat → Int) (ch : Nat → List Int) (rt : List Int) : Nat → Prop
  | root (i : Nat) : i < n → at_ i ∈ rt → RchI n at_ ch rt i
  | kid (k i : Nat) : RchI n at_ ch rt k → i < n → at_ i ∈ ch k → RchI n at_ ch rt i
theorem RchI.lt {n : Nat} {at_ : Nat → Int} {ch : Nat → List Int} {rt : List Int} {i : Nat} (h : RchI n at_ ch rt i) : i < n := by
  cases h <;> assumption
def shutM (n : Nat) (at_ : Nat → Int) (ch : Nat → List Int) (rt : List Int) (M : Nat → Bool) (i : Nat) : Prop := M i = true ∨ (at_ i ∉ rt ∧ ∀ k, k < n → M k = true → at_ i ∉ ch k)
theorem rch_all {n : Nat} {at_ : Nat → Int} {ch : Nat → List Int} {rt : List Int} {M : Nat → Bool} (h1 : ∀ i, i < n → M i = true → RchI n at_ ch rt i) (h2 : ∀ i, i < n → shutM n at_ ch rt M i) (i : Nat) (hi : i < n) : M i = true ↔ RchI n at_ ch rt i := by
  refine ⟨h1 i hi, fun h => ?_⟩
  clear h1
  induction h with
  | root i hi hr =>
    rcases h2 i hi with h | h
    · exact h
    · exact absurd hr h.1
  | kid k i hk hi hr ih =>
    rcases h2 i hi with h | h
    · exact h
    · exact absurd hr (h.2 k hk.lt (ih hk.lt))
/-- How many are unmarked. -/
def unm (M : Nat → Bool) : Nat → Nat
  | 0 => 0
  | n + 1 => unm M n + (if M n then 0 else 1)
theorem unm_le (M : Nat → Bool) : ∀ n, unm M n ≤ n
  | 0 => Nat.le_refl _
  | n + 1 => by
    have := unm_le M n
    unfold unm
    split <;> omega
theorem unm_same {M : Nat → Bool} {i : Nat} : ∀ n, n ≤ i → unm (upd M i true) n = unm M n
  | 0, _ => rfl
  | n + 1, h => by
    unfold unm
    rw [unm_same n (by omega), upd_ne _ _ (by omega)]
theorem unm_upd {M : Nat → Bool} {i : Nat} (hM : M i = false) : ∀ n, i < n → unm (upd M i true) n < unm M n
  | 0, h => absurd h (by omega)
  | n + 1, h => by
    unfold unm
    by_cases e : i = n
    · subst e
      rw [unm_same i (Nat.le_refl _), upd_same, hM]
      simp
    · have := unm_upd hM n (by omega)
      rw [upd_ne _ _ (by omega)]
      omega
structure Sr (w0 w : World) (gm n : Nat) (M : Nat → Bool) : Prop where
  far : Fr (fun _ => False) w0 w
  row : Row w gm n (fun i => .bool (M i))
  lo : w0.heap.size ≤ gm
  lt : gm < w.heap.size
theorem Sr.quiet {w0 w w' : World} {gm n : Nat} {M : Nat → Bool} (h : Sr w0 w gm n M) (q : Fr (fun _ => False) w w') : Sr w0 w' gm n M :=
  ⟨h.far.trans q, h.row.fr q id, h.lo, Nat.lt_of_lt_of_le h.lt q.size⟩
theorem Sr.set {w0 w : World} {gm n : Nat} {M : Nat → Bool} (h : Sr w0 w gm n M) {i : Nat} (hi : i < n) : Sr w0 (w.setCell ⟨gm, i, none⟩ (.bool true)) gm n (upd M i true) := by
  have hl := h.lo
  refine ⟨h.far.up ((Fr.refl (fun y => y = gm) w).setCell (p := ⟨gm, i, none⟩) rfl _) (fun j hj => by omega), (h.row.set i (.bool true) hi).ext fun j _ => ?_, h.lo, by simpa using h.lt⟩
  by_cases e : j = i
  · subst e; rw [upd_same, upd_same]
  · rw [upd_ne _ _ e, upd_ne _ _ e]
theorem lb_cells {w : World} {gl n : Nat} {F : Nat → Lb} (h : Row w gl (5 * n) (lcell F)) {x : Nat} (hx : x < n) : w.cell? ⟨gl, x * 5, none⟩ = some (.int .i64 (F x).at_) ∧ w.cell? ⟨gl, x * 5 + 1, none⟩ = some (.int .i64 (F x).kd) ∧ w.cell? ⟨gl, x * 5 + 2, none⟩ = some (.int .i64 (F x).sz) ∧ w.cell? ⟨gl, x * 5 + 3, none⟩ = some (.int .i64 (F x).ms) ∧ w.cell? ⟨gl, x * 5 + 4, none⟩ = some (.slice (F x).wa (F x).wn (F x).wc) := by
  have c : ∀ j, j < 5 → w.cell? ⟨gl, x * 5 + j, none⟩ = some ((lbCells (F x)).getD j undef) := fun j hj => by rw [(h (x * 5 + j) (by omega)).1, lcell_at _ _ _ hj]
  exact ⟨c 0 (by omega), c 1 (by omega), c 2 (by omega), c 3 (by omega), c 4 (by omega)⟩
theorem Tryd.info4 : (Tryd.prog.info? 4).map (fun i => (i.zero, i.size, i.bytes)) = some (some (.bool false), 1, 1) := by kernel_rfl
theorem make41 (W : World) (m : Nat) (hm : m ≤ 1000000) : (Instr.makeSlice 80 (.int .i64 (m : Int)) (.int .i64 (m : Int))).run Tryd.prog W = .ok (.slice (some ⟨W.heap.size, 0, none⟩) m m) (W.alloc (.cells (madeCells #[.bool false] m) 4)) := by
  obtain ⟨i0, hi, hz0, hz1, hz2⟩ := info_parts Tryd.info4
  have := run_make (P := Tryd.prog) W 80 4 i0 _ Tryd.underlying80 hi hz0 .i64 .i64 (m : Int) (m : Int) (by omega) (Int.le_refl _) (by rw [hz2]; omega) (by omega)
  rw [this, hz1]
  simp [Value.cells]
theorem fr_drewN (w : World) (n : Nat) : Fr (fun _ => False) w (w.drewN n) := ⟨rfl, rfl, rfl, Nat.le_refl _, fun _ _ _ => rfl⟩
theorem kid_cells {w w' W : World} {ys : List Int} {ao : Option Addr} {cp : Nat} (hO : w'.ownsRow w.heap.size 3 1 (.slice ao ys.length cp) ys.length (ys.map (Value.int .i64))) (q : Fr (fun _ => False) w' W) (j : Nat) (hj : j < ys.length) : ∃ b off, ao = some ⟨b, off, none⟩ ∧ b < W.heap.size ∧ W.cell? ⟨b, off + j, none⟩ = some (.int .i64 (ys.getD j 0)) := by
  obtain ⟨ao', cp', e', hg'⟩ := own_form hO
  cases e'
  obtain ⟨g', hg⟩ := hg' (by omega)
  subst hg
  have hlt := hO.lt g' rfl
  refine ⟨g', 0, rfl, Nat.lt_of_lt_of_le hlt.2 q.size, ?_⟩
  rw [Nat.zero_add]
  refine cell_far q hlt.2 ?_
  rw [hO.cellAt j (by omega)]
  simp [List.getD, hj]
def RchR (w : World) (n : Nat) (at_ : Nat → Int) (ch : Nat → List Int) (rt : List Int) (e : Ending) (w' : World) : Prop :=
  ∃ gm M, e = .returned (.slice (some ⟨gm, 0, none⟩) n n) ∧ Sr w w' gm n M ∧ ∀ i, i < n → (M i = true ↔ RchI n at_ ch rt i)
def lbV (b : Lb) : Value := .agg #[.int .i64 b.at_, .int .i64 b.kd, .int .i64 b.sz, .int .i64 b.ms, .slice b.wa b.wn b.wc]
set_option maxRecDepth 100000 in
set_option maxHeartbeats 4000000 in
theorem ReachedR_any (w : World) (pb : Nat) (lo : Option Addr) (cp n : Nat) (F : Nat → Lb) (gl : Nat) (ro : Option Addr) (rc : Nat) (rt : List Int) (ch : Nat → List Int)
    (hlo : 0 < n → lo = some ⟨gl, 0, none⟩) (hrow : Row w gl (5 * n) (lcell F)) (hn : n ≤ 1000)
    (hch : ∀ W, Fr (fun _ => False) w W → ∀ k, k < n → Calls Tryd.prog 54 #[.pointer (some ⟨pb, 0, none⟩), lbV (F k)] W fun e w' => KidsP W (ch k) e w')
    (hcl : ∀ k, k < n → (ch k).length ≤ maxLen) (hrl : rt.length ≤ maxLen)
    (hrt : ∀ j, j < rt.length → ∃ b off, ro = some ⟨b, off, none⟩ ∧ b < w.heap.size ∧ w.cell? ⟨b, off + j, none⟩ = some (.int .i64 (rt.getD j 0))) :
    Calls Tryd.prog 40 #[.pointer (some ⟨pb, 0, none⟩), .slice lo n cp, .slice ro rt.length rc] w fun e w' => RchR w n (fun i => ((F i).at_ : Int)) ch rt e w' := by
  obtain ⟨at_, hat⟩ : ∃ at_ : Nat → Int, at_ = fun i => ((F i).at_ : Int) := ⟨_, rfl⟩
  rw [← hat]
  have HLo := hide hlo
  have HRow := hide hrow
  have HCh := hide hch
  have HCl := hide hcl
  have HHas : Hid (∀ W, Fr (fun _ => False) w W → ∀ x, Calls Tryd.prog 53 #[.slice ro rt.length rc, .int .i64 x] W fun e w' => e = .returned (.bool (decide (x ∈ rt))) ∧ W = w') := hide fun W q x => (hasL_any W ro rc rt x hrl (fun j hj => by
    obtain ⟨b, off, e1, e2, e3⟩ := hrt j hj
    exact ⟨b, off, e1, Nat.lt_of_lt_of_le e2 q.size, cell_far q e2 e3⟩)).mono fun _ _ h => ⟨h.1, h.2.symm⟩
  have hmk : ∀ W : World, (Instr.makeSlice 80 (.int .i64 (n : Int)) (.int .i64 (n : Int))).run Tryd.prog W = .ok (.slice (some ⟨W.heap.size, 0, none⟩) n n) (W.alloc (.cells (madeCells #[.bool false] n) 4)) := fun W => make41 W n (by omega)
  have HSt : Hid (Sr w (w.alloc (.cells (madeCells #[.bool false] n) 4)) w.heap.size n (fun _ => false)) := hide ⟨(Fr.refl _ w).alloc _, (Row.made w #[.bool false] n 4).ext fun i _ => by simp [Nat.mod_one], Nat.le_refl _, by simp⟩
  have HAt := hide hat
  generalize madeCells #[.bool false] n = Z at *
  clear hlo hrow hch hcl hrt hat
  go_enter Tryd.func40, Tryd.ntmps40
  go_wp2
  obtain ⟨gm, hgm⟩ : ∃ g, g = w.heap.size := ⟨_, rfl⟩
  rw [← hgm] at HSt ⊢
  clear hmk hgm
  go_loopg [8] (2 * n + 1) (fun gk v wr => ∃ (ag : Bool) (M : Nat → Bool), v = .bool ag ∧ Hid (2 * unm M n + (if ag then 1 else 0) ≤ gk) ∧ Hid (Sr w wr gm n M) ∧ Hid (∀ i, i < n → M i = true → RchI n at_ ch rt i) ∧ Hid (ag = false → ∀ i, i < n → shutM n at_ ch rt M i))
  case atStart => exact ⟨true, fun _ => false, rfl, hide (by have := unm_le (fun _ => false) n; simp; omega), HSt, hide (fun i _ h => by cases h), hide (fun h => by cases h)⟩
  case round =>
    obtain ⟨ag, M, rfl, hgk, hS, hM, hsh⟩ := hrel
    cases ag with
    | false =>
      have HE : Hid (RchR w n at_ ch rt (.returned (.slice (some ⟨gm, 0, none⟩) n n)) wr) := hide ⟨gm, M, rfl, unhide hS, rch_all (unhide hM) (unhide hsh rfl)⟩
      clear hgk hS hM hsh
      go_wp2
      go_ret
      exact unhide HE
    | true =>
      go_wp2
      go_loopw [8, 9] (fun v i wr => ∃ k : Nat, k ≤ n ∧ i = .int .i64 k ∧ ∃ (ag : Bool) (M' : Nat → Bool), v = .bool ag ∧ Hid (Sr w wr gm n M') ∧ Hid (∀ i, i < n → M' i = true → RchI n at_ ch rt i) ∧ Hid (ag = false → M' = M ∧ ∀ i, i < k → shutM n at_ ch rt M i) ∧ Hid (ag = true → unm M' n < unm M n)) (fun _ i _ => n - (intOf i).toNat)
      case atStart => exact ⟨0, by omega, rfl, false, M, rfl, hS, hM, hide (fun _ => ⟨rfl, fun i hi => by omega⟩), hide (fun h => by cases h)⟩
      case round =>
        obtain ⟨i, hi, rfl, ag, M', rfl, hS', hM', hno, hyes⟩ := hrel
        clear hS hM hsh
        by_cases hlt : i < n
        · have hlo := unhide HLo (by omega)
          subst hlo
          have cm : wr.cell? ⟨gm, i, none⟩ = some (.bool (M' i)) := ((unhide hS').row i hlt).1
          have hgm := (unhide hS').lt
          cases hMi : M' i with
          | true =>
            rw [hMi] at cm
            have HN2 : Hid (ag = false → M' = M ∧ ∀ j, j < i + 1 → shutM n at_ ch rt M j) := hide fun h => by
              obtain ⟨h1, h2⟩ := unhide hno h
              refine ⟨h1, fun j hj => ?_⟩
              by_cases e : j = i
              · subst e; exact .inl (by rw [← h1]; exact hMi)
              · exact h2 j (by omega)
            clear hno hMi
            go_wp2
            go_roundw
            case rel => exact ⟨i + 1, by omega, by go_num, ag, M', rfl, hS', hM', HN2, hyes⟩
            case measure => simp [intOf]; omega
          | false =>
            rw [hMi] at cm
            have HMi := hide hMi
            clear hMi
            have HRw := hide ((unhide HRow).fr (unhide hS').far id)
            have ci := (lb_cells (unhide HRw) hlt).1
            have hgl := World.block_lt_of_cell? wr ⟨gl, i * 5, none⟩ ci
            have hai : ((F i).at_ : Int) = at_ i := by rw [unhide HAt]
            rw [hai] at ci
            have HH : Hid (Calls Tryd.prog 53 #[.slice ro rt.length rc, .int .i64 (at_ i)] wr fun e w' => e = .returned (.bool (decide (at_ i ∈ rt))) ∧ wr = w') := hide (unhide HHas wr (unhide hS').far (at_ i))
            obtain ⟨hb, hhb⟩ : ∃ hb, hb = decide (at_ i ∈ rt) := ⟨_, rfl⟩
            rw [← hhb] at HH
            have HHb := hide hhb
            clear hhb hai
            go_wp2_with (go_at_call 53; refine (unhide HH).mono ?_; rintro e w' ⟨rfl, rfl⟩)
            go_loopw [10, 11] (fun h t wr => ∃ k : Nat, k ≤ n ∧ t = .int .i64 k ∧ ∃ hit : Bool, h = .bool hit ∧ Hid (Sr w wr gm n M') ∧ Hid (hit = true → RchI n at_ ch rt i) ∧ Hid (hit = false → at_ i ∉ rt ∧ ∀ j, j < k → M' j = true → at_ i ∉ ch j)) (fun _ t _ => n - (intOf t).toNat)
            case atStart => exact ⟨0, by omega, rfl, hb, rfl, hS', hide (fun h => .root i hlt (by have := unhide HHb; rw [h] at this; exact of_decide_eq_true this.symm)), hide (fun h => ⟨by have := unhide HHb; rw [h] at this; exact of_decide_eq_false this.symm, fun j hj => by omega⟩)⟩
            case round =>
              obtain ⟨k, hk, rfl, hit, rfl, hS3, hyes3, hno3⟩ := hrel
              clear hS' HH HRw ci hgl cm hgm
              cases hit with
              | true =>
                have HS4 := hide ((unhide hS3).set hlt)
                have fz := ((unhide hS3).row i hlt).2
                have cm : wr.cell? ⟨gm, i, none⟩ = some (.bool (M' i)) := ((unhide hS3).row i hlt).1
                have hgm := (unhide hS3).lt
                have HM4 : Hid (∀ j, j < n → upd M' i true j = true → RchI n at_ ch rt j) := hide fun j hj h => by
                  by_cases e : j = i
                  · subst e; exact unhide hyes3 rfl
                  · rw [upd_ne _ _ e] at h; exact unhide hM' j hj h
                have HU4 : Hid (unm (upd M' i true) n < unm M n) := hide (by
                  have h1 := unm_upd (unhide HMi) n hlt
                  cases ag with
                  | true => have := unhide hyes rfl; omega
                  | false => rw [(unhide hno rfl).1] at h1 ⊢; exact h1)
                clear hno3 hyes3 hno hyes
                by_cases hlk : k < n
                · go_wp2
                  go_roundw
                  case rel => exact ⟨i + 1, by omega, by go_num, true, upd M' i true, rfl, HS4, HM4, hide (fun h => by cases h), hide (fun _ => unhide HU4)⟩
                  case measure => simp [intOf]; omega
                · go_wp2
                  go_roundw
                  case rel => exact ⟨i + 1, by omega, by go_num, true, upd M' i true, rfl, HS4, HM4, hide (fun h => by cases h), hide (fun _ => unhide HU4)⟩
                  case measure => simp [intOf]; omega
              | false =>
                by_cases hlk : k < n
                · have cmk : wr.cell? ⟨gm, k, none⟩ = some (.bool (M' k)) := ((unhide hS3).row k hlk).1
                  have hgm := (unhide hS3).lt
                  have HRw := hide ((unhide HRow).fr (unhide hS3).far id)
                  obtain ⟨c0, c1, c2, c3, c4⟩ := lb_cells (unhide HRw) hlk
                  have ci := (lb_cells (unhide HRw) hlt).1
                  have hgl := World.block_lt_of_cell? wr ⟨gl, i * 5, none⟩ ci
                  have hai : ((F i).at_ : Int) = at_ i := by rw [unhide HAt]
                  rw [hai] at ci
                  clear hai
                  cases hMk : M' k with
                  | false =>
                    rw [hMk] at cmk
                    have HN4 : Hid (at_ i ∉ rt ∧ ∀ j, j < k + 1 → M' j = true → at_ i ∉ ch j) := hide ⟨(unhide hno3 rfl).1, fun j hj h => by
                      by_cases e : j = k
                      · subst e; rw [hMk] at h; cases h
                      · exact (unhide hno3 rfl).2 j (by omega) h⟩
                    clear hMk hno3
                    go_wp2
                    go_quiet (fail)
                    go_wp2
                    go_roundw
                    case rel => exact ⟨k + 1, by omega, by go_num, false, rfl, hide ((unhide hS3).quiet (fr_drewN _ _)), hide (fun h => by cases h), hide (fun _ => unhide HN4)⟩
                    case measure => simp [intOf]; omega
                  | true =>
                    rw [hMk] at cmk
                    have HC : Hid (∀ W, Fr (fun _ => False) wr W → Calls Tryd.prog 54 #[.pointer (some ⟨pb, 0, none⟩), .agg #[.int .i64 (F k).at_, .int .i64 (F k).kd, .int .i64 (F k).sz, .int .i64 (F k).ms, .slice (F k).wa (F k).wn (F k).wc]] W fun e w' => KidsP W (ch k) e w') := hide fun W q => unhide HCh W ((unhide hS3).far.trans q) k hlk
                    have HH2 : Hid (∀ (W W2 : World) ak ck, W2.ownsRow W.heap.size 3 1 (.slice ak (ch k).length ck) (ch k).length ((ch k).map (Value.int .i64)) → ∀ W3 : World, Fr (fun _ => False) W2 W3 → Calls Tryd.prog 53 #[.slice ak (ch k).length ck, .int .i64 (at_ i)] W3 fun e w' => e = .returned (.bool (decide (at_ i ∈ ch k))) ∧ W3 = w') := hide fun W W2 ak ck ho W3 q => (hasL_any W3 ak ck (ch k) (at_ i) (unhide HCl k hlk) (kid_cells ho q)).mono fun _ _ h => ⟨h.1, h.2.symm⟩
                    have HY4 : Hid (at_ i ∈ ch k → RchI n at_ ch rt i) := hide fun h => .kid k i (unhide hM' k hlk hMk) hlt h
                    have HN4 : Hid (at_ i ∉ ch k → at_ i ∉ rt ∧ ∀ j, j < k + 1 → M' j = true → at_ i ∉ ch j) := hide fun hk' => ⟨(unhide hno3 rfl).1, fun j hj h => by
                      by_cases e : j = k
                      · subst e; exact hk'
                      · exact (unhide hno3 rfl).2 j (by omega) h⟩
                    have HCe : Hid (∀ W, Fr (fun _ => False) wr W → W.cell? ⟨gl, i * 5, none⟩ = some (.int .i64 (at_ i)) ∧ W.cell? ⟨gm, k, none⟩ = some (.bool true) ∧ W.cell? ⟨gl, k * 5, none⟩ = some (.int .i64 (F k).at_) ∧ W.cell? ⟨gl, k * 5 + 1, none⟩ = some (.int .i64 (F k).kd) ∧ W.cell? ⟨gl, k * 5 + 2, none⟩ = some (.int .i64 (F k).sz) ∧ W.cell? ⟨gl, k * 5 + 3, none⟩ = some (.int .i64 (F k).ms) ∧ W.cell? ⟨gl, k * 5 + 4, none⟩ = some (.slice (F k).wa (F k).wn (F k).wc)) := hide fun W q => ⟨cell_far q hgl ci, cell_far q hgm cmk, cell_far q hgl c0, cell_far q hgl c1, cell_far q hgl c2, cell_far q hgl c3, cell_far q hgl c4⟩
                    have HD : Hid (∀ b, decide (at_ i ∈ ch k) = b ↔ (at_ i ∈ ch k ↔ b = true)) := hide fun b => by cases b <;> simp
                    generalize decide (at_ i ∈ ch k) = hb2 at *
                    clear hMk hno3 hyes3
                    go_wp2
                    go_region_held2 (fun w' => w'.cell? ⟨gl, i * 5, none⟩ = some (.int .i64 (at_ i)) ∧ w'.cell? ⟨gm, k, none⟩ = some (.bool true) ∧ w'.cell? ⟨gl, k * 5, none⟩ = some (.int .i64 (F k).at_) ∧ w'.cell? ⟨gl, k * 5 + 1, none⟩ = some (.int .i64 (F k).kd) ∧ w'.cell? ⟨gl, k * 5 + 2, none⟩ = some (.int .i64 (F k).sz) ∧ w'.cell? ⟨gl, k * 5 + 3, none⟩ = some (.int .i64 (F k).ms) ∧ w'.cell? ⟨gl, k * 5 + 4, none⟩ = some (.slice (F k).wa (F k).wn (F k).wc)) (go_keep) (first | (go_at_call 54; refine (unhide HC _ (by (repeat' (first | exact Fr.refl _ _ | refine Fr.alloc ?_ _ | refine Fr.drew ?_)))).mono ?_; rintro e w2 ⟨ak, ck, rfl, hO2, hF2⟩; have HO2 := hide hO2; have HF2 : Hid (Fr (fun _ => False) wr w2) := hide (Fr.trans (by (repeat' (first | exact Fr.refl _ _ | refine Fr.alloc ?_ _ | refine Fr.drew ?_))) hF2); clear hO2 hF2; obtain ⟨e1, e2, e3, e4, e5, e6, e7⟩ := unhide HCe _ (unhide HF2)) | (go_at_call 53; refine (unhide HH2 _ _ _ _ (unhide HO2) _ (by (repeat' (first | exact Fr.refl _ _ | refine Fr.alloc ?_ _ | refine Fr.drew ?_)))).mono ?_; rintro e w3 ⟨rfl, rfl⟩))
                    go_wp2
                    go_roundw
                    case rel => exact ⟨k + 1, by omega, by go_num, hb2, rfl, hide ((unhide hS3).quiet (unhide HF2)), hide (fun h => unhide HY4 (((unhide HD hb2).1 rfl).2 h)), hide (fun h => unhide HN4 (fun hm => by have := ((unhide HD hb2).1 rfl).1 hm; rw [h] at this; cases this))⟩
                    case measure => simp [intOf]; omega
                · have e : k = n := by omega
                  subst e
                  have HN4 : Hid (ag = false → M' = M ∧ ∀ j, j < i + 1 → shutM k at_ ch rt M j) := hide fun h => by
                    obtain ⟨h1, h2⟩ := unhide hno h
                    refine ⟨h1, fun j hj => ?_⟩
                    by_cases e : j = i
                    · subst e; exact .inr ⟨(unhide hno3 rfl).1, fun k' hk' hm => (unhide hno3 rfl).2 k' hk' (by rw [h1]; exact hm)⟩
                    · exact h2 j (by omega)
                  clear hno hno3 hyes3
                  go_wp2
                  go_roundw
                  case rel => exact ⟨i + 1, by omega, by go_num, ag, M', rfl, hS3, hM', HN4, hyes⟩
                  case measure => simp [intOf]; omega
        · have e : i = n := by omega
          subst e
          clear HHas HCh HRow
          cases ag with
          | true =>
            have HU := unhide hyes rfl
            have HLt : Hid (2 * unm M' i + 1 < gk) := hide (by have := unhide hgk; simp at this; omega)
            go_wp2
            go_roundg (2 * unm M' i + 1)
            case measure => exact unhide HLt
            case rel => exact ⟨true, M', rfl, hide (by simp), hS', hM', hide (fun h => by cases h)⟩
          | false =>
            obtain ⟨h1, h2⟩ := unhide hno rfl
            have HLt : Hid (2 * unm M' i < gk) := hide (by have := unhide hgk; rw [h1]; simp at this; omega)
            have HSh : Hid (∀ j, j < i → shutM i at_ ch rt M' j) := hide (by rw [h1]; exact h2)
            clear h1 h2
            go_wp2
            go_roundg (2 * unm M' i)
            case measure => exact unhide HLt
            case rel => exact ⟨false, M', rfl, hide (by simp), hS', hM', hide (fun _ => unhide HSh)⟩
end Go.Proofs.YtjblmincldaklaaDoor
