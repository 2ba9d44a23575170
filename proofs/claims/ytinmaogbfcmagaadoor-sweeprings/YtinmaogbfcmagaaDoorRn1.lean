/- SweepRings, walked. -/
import Derived.Test.YtinmaogbfcmagaaDoorRn0
import Derived.Test.YtinmaogbfcmagaaDoorAc1
namespace Go.Proofs.YtinmaogbfcmagaaDoor
open Go.RowKit Go.Proofs.YtinmaogbfcmagaaDoor.Hp
structure Rg1 (w0 w : World) (B : HB) (base k : Nat) (v : Value) : Prop where
  at_ : At w B 64 (hrOf (rA k) (fun _ => 0))
  vars : Vars w
  far : Fr (fun _ => False) w0 w
  own : w.ownsRow base 3 1 v k (adL rAt k)
  mem : ∀ j, B.mem j → w0.heap.size ≤ j ∧ 2 ≤ j ∧ j < base
  le : base ≤ w.heap.size
  lo : w0.heap.size ≤ base
theorem Rg1.heap {w0 w w' : World} {B : HB} {base k : Nat} {v : Value} (h : Rg1 w0 w B base k v) (q : Fr B.mem w w') (hV : Vars w') (hA : At w' B 64 (hrOf (rA (k + 1)) (fun _ => 0))) :
    At w' B 64 (hrOf (rA (k + 1)) (fun _ => 0)) ∧ Vars w' ∧ Fr (fun _ => False) w0 w' ∧ w'.ownsRow base 3 1 v k (adL rAt k) ∧ base ≤ w'.heap.size :=
  ⟨hA, hV, h.far.up q (fun j hj => (h.mem j hj).1), own_fr h.own q (fun j hj => (h.mem j hj).2.2), Nat.le_trans h.le q.size⟩
structure Rg2 (w0 w : World) (B : HB) (n pl : Nat) (hd : Int) (k : Nat) (wd : Nat → Int) (g : Nat) : Prop where
  at_ : At w B 64 (hrOf (rA n) wd)
  ws : RgW n pl hd k wd
  vars : Vars w
  far : Fr (fun _ => False) w0 w
  mem : ∀ j, B.mem j → w0.heap.size ≤ j ∧ 2 ≤ j
  row : ∀ j, j < n → w.cell? ⟨g, j, none⟩ = some (.int .i64 (rAt j : Int))
  gl : g < w.heap.size
  gn : ¬ B.mem g
theorem Rg2.quiet {w0 w w' : World} {B : HB} {n pl : Nat} {hd : Int} {k : Nat} {wd : Nat → Int} {g : Nat} (h : Rg2 w0 w B n pl hd k wd g) (q : Fr (fun _ => False) w w') : Rg2 w0 w' B n pl hd k wd g :=
  ⟨h.at_.quiet q, h.ws, h.vars.fr q id id, h.far.trans q, h.mem, fun j hj => cell_far q h.gl (h.row j hj), Nat.lt_of_lt_of_le h.gl q.size, h.gn⟩
theorem Rg2.heap {w0 w w1 w2 : World} {B : HB} {n pl : Nat} {hd : Int} {k : Nat} {wd : Nat → Int} {g : Nat} (h : Rg2 w0 w B n pl hd k wd g) (hp : 1 ≤ pl ∧ pl ≤ 2) (q1 : Fr (fun _ => False) w w1) (q : Fr B.mem w1 w2) (hA : At w2 B 64 (hrOf (rA n) (upd (upd wd (rAt k + 0) hd) (rAt k + pl) (rAt ((k + 1) % n) : Int)))) :
    Rg2 w0 w2 B n pl hd (k + 1) (upd (upd wd (rAt k + 0) hd) (rAt k + pl) (rAt ((k + 1) % n) : Int)) g := by
  have h' := h.quiet q1
  have n0 : ∀ j, j < 2 → ¬ B.mem j := fun j hj hm => by have := (h.mem j hm).2; omega
  exact ⟨hA, h.ws.put hp, h'.vars.fr q (n0 0 (by omega)) (n0 1 (by omega)), h'.far.up q (fun j hj => (h.mem j hj).1), h.mem, fun j hj => (World.cell?_of_block (w := w1) (a := ⟨g, j, none⟩) (q.block g h'.gl h.gn)).trans (h'.row j hj), Nat.lt_of_lt_of_le h'.gl q.size, h.gn⟩
/-- What the last line of the law needs. -/
theorem rg_reached {w0 w : World} {B : HB} {n : Nat} {kd : Int} (hk : kd = 2 ∨ kd = 3 ∨ kd = 4) {wd : Nat → Int} {g f : Nat} (h : Rg2 w0 w B n (rPl kd) (rHd kd) n wd g) (hn : n ≤ 60) (hf : f < n) (x : Nat) (hx : w.cell? ⟨x, 0, none⟩ = some (.int .i64 (rAt f : Int))) :
    Calls Tryd.prog 17 #[.pointer (some ⟨B.p, 0, none⟩), .slice (some ⟨x, 0, none⟩) 1 1] w fun e w' => (∃ ao cp, e = .returned (.slice ao n cp)) ∧ Fr (fun _ => False) w w' := by
  have hgl := World.block_lt_of_cell? w ⟨x, 0, none⟩ hx
  refine (Reached_any w B 64 (rA n) wd (some ⟨x, 0, none⟩) 1 [(rAt f : Int)] h.at_ (r_inv hn) (by simp) (by intro z hz; simp at hz; subst hz; unfold rAt; omega) (fun j hj => ?_)).mono ?_
  · obtain rfl : j = 0 := by simp at hj; omega
    exact ⟨x, 0, rfl, hgl, hx⟩
  · rintro e w' ⟨ys, hy1, hy2, ao, cp, rfl, hO, hF⟩
    have : ys = rL n := sorted_eq _ _ hy1 (rL_sorted n) fun x => by
      rw [hy2 x, r_reach hf hn hk h.ws, rL_mem]
      constructor
      · rintro ⟨j, a, b⟩; exact ⟨j, a, by omega⟩
      · rintro ⟨j, a, b⟩; exact ⟨j, a, by omega⟩
    exact ⟨⟨ao, cp, by rw [this]; simp [rL]⟩, hF⟩
/-- Behind the first collection: nothing is gone. -/
structure Rg3 (w0 w : World) (B : HB) (n : Nat) (A : Nat → Kd) (wd : Nat → Int) (g : Nat) : Prop where
  at_ : At w B 64 (hrOf A wd)
  inv : Inv 64 A
  rm : ∀ y, roomN A y = roomN (rA n) y
  vars : Vars w
  far : Fr (fun _ => False) w0 w
  mem : ∀ j, B.mem j → w0.heap.size ≤ j ∧ 2 ≤ j
  row : ∀ j, j < n → w.cell? ⟨g, j, none⟩ = some (.int .i64 (rAt j : Int))
  gl : g < w.heap.size
theorem Rg3.quiet {w0 w w' : World} {B : HB} {n : Nat} {A : Nat → Kd} {wd : Nat → Int} {g : Nat} (h : Rg3 w0 w B n A wd g) (q : Fr (fun _ => False) w w') : Rg3 w0 w' B n A wd g :=
  ⟨h.at_.quiet q, h.inv, h.rm, h.vars.fr q id id, h.far.trans q, h.mem, fun j hj => cell_far q h.gl (h.row j hj), Nat.lt_of_lt_of_le h.gl q.size⟩
theorem rg_collect {w0 w : World} {B : HB} {n : Nat} {kd : Int} (hk : kd = 2 ∨ kd = 3 ∨ kd = 4) {wd : Nat → Int} {g f : Nat} (h : Rg2 w0 w B n (rPl kd) (rHd kd) n wd g) (hn : n ≤ 60) (hf : f < n) (x : Nat) (hx : w.cell? ⟨x, 0, none⟩ = some (.int .i64 (rAt f : Int))) :
    Calls Tryd.prog 18 #[.pointer (some ⟨B.p, 0, none⟩), .slice (some ⟨x, 0, none⟩) 1 1] w fun e w' => e = .returned (.int .i64 0) ∧ ∃ A, Rg3 w0 w' B n A wd g := by
  have hgl := World.block_lt_of_cell? w ⟨x, 0, none⟩ hx
  have hb := r_blk hn (r_inv hn) (fun _ => rfl)
  refine (Collect_any w B 64 (rA n) wd (some ⟨x, 0, none⟩) 1 [(rAt f : Int)] h.at_ (r_inv hn) h.vars (fun k hk => (h.mem k hk).2) (by rw [hb]; simp [rL]; omega) (by simp) (by intro z hz; simp at hz; subst hz; unfold rAt; omega) (fun j hj => ?_)).mono ?_
  · obtain rfl : j = 0 := by simp at hj; omega
    exact ⟨x, 0, rfl, hgl, hx⟩
  · rintro e w' ⟨rb, A', hrb, rfl, hI, hR, hA, hV, hF⟩
    have hall : ∀ y ∈ rL n, rb y = true := fun y hy => by
      rw [hrb, r_reach hf hn hk h.ws]
      obtain ⟨j, hj, rfl⟩ := rL_mem.1 hy
      exact ⟨j, hj, rfl⟩
    rw [hb, notB_all hall]
    refine ⟨rfl, A', hA, hI, fun y => ?_, hV, h.far.up hF (fun k hk => (h.mem k hk).1), h.mem, fun j hj => (World.cell?_of_block (w := w) (a := ⟨g, j, none⟩) (hF.block g h.gl h.gn)).trans (h.row j hj), Nat.lt_of_lt_of_le h.gl hF.size⟩
    rw [hR y]
    by_cases hy : roomN (rA n) y = 0
    · rw [hy]; split <;> rfl
    · obtain ⟨j, hj, e⟩ := (r_room hn).2 y hy
      rw [if_pos (hall y (rL_mem.2 ⟨j, hj, e⟩))]
theorem rg_collect2 {w0 w : World} {B : HB} {n : Nat} {A : Nat → Kd} {wd : Nat → Int} {g f : Nat} (h : Rg3 w0 w B n A wd g) (hn : n ≤ 60) (hf : f < n) (x : Nat) (hx : w.cell? ⟨x, 0, none⟩ = some (.int .i64 ((rAt f : Int) + 1))) :
    Calls Tryd.prog 18 #[.pointer (some ⟨B.p, 0, none⟩), .slice (some ⟨x, 0, none⟩) 1 1] w fun e w' => e = .returned (.int .i64 (n : Int)) ∧ At w' B 64 (hrOf (emptyA 64) wd) ∧ Fr (fun _ => False) w0 w' := by
  have hgl := World.block_lt_of_cell? w ⟨x, 0, none⟩ hx
  have hb := r_blk hn h.inv h.rm
  refine (Collect_any w B 64 A wd (some ⟨x, 0, none⟩) 1 [(rAt f : Int) + 1] h.at_ h.inv h.vars (fun k hk => (h.mem k hk).2) (by rw [hb]; simp [rL]; omega) (by simp) (by intro z hz; simp at hz; subst hz; unfold rAt; omega) (fun j hj => ?_)).mono ?_
  · obtain rfl : j = 0 := by simp at hj; omega
    exact ⟨x, 0, rfl, hgl, hx⟩
  · rintro e w' ⟨rb, A', hrb, rfl, hI, hR, hA, hV, hF⟩
    have hnone : ∀ y, rb y = false := fun y => by
      cases hb : rb y with
      | false => rfl
      | true => exact absurd ((hrb y).1 hb) (odd_reach h.inv (by unfold rAt; omega) _)
    rw [hb, notB_none (fun y _ => hnone y)]
    have he : A' = emptyA 64 := empty_of hI fun y => by rw [hR y, hnone y]; rfl
    rw [he] at hA
    exact ⟨by simp [rL], hA, h.far.up hF (fun k hk => (h.mem k hk).1)⟩
theorem rings_out (n f kd : Int) (w : World) (hV : Vars w) (h : n < 1 ∨ 60 < n ∨ f < 0 ∨ n ≤ f ∨ kd < 2 ∨ 4 < kd) : Calls Tryd.prog 6 #[.int .i64 n, .int .i64 f, .int .i64 kd] w fun e w' => e = .returned (.bool true) ∧ Below w.heap.size w w' := by
  have HA := hide (anchor_any w hV)
  clear hV
  go_enter Tryd.func6, Tryd.ntmps6
  go_wp2_with fail
  refine (unhide HA).mono ?_
  rintro e w1 ⟨rfl, hF, _⟩
  have HB := hide (hF.below (Nat.le_refl _) (fun k (x : False) => x.elim))
  clear hF
  have hb : (((((decide (n < 1) || decide (60 < n)) || decide (f < 0)) || decide (n ≤ f)) || decide (kd < 2)) || decide (4 < kd)) = true := by
    rcases h with h | h | h | h | h | h <;> simp [h]
  go_wp2
  all_goals first | (go_ret; exact ⟨rfl, unhide HB⟩) | (exfalso; omega)
set_option maxRecDepth 100000 in
set_option maxHeartbeats 1000000 in
theorem rings_2 (n f : Nat) (w : World) (hV : Vars w) (h1 : 1 ≤ n) (hn : n ≤ 60) (hf : f < n) : Calls Tryd.prog 6 #[.int .i64 n, .int .i64 f, .int .i64 2] w fun e w' => e = .returned (.bool true) ∧ Below w.heap.size w w' := by
  have HA := hide (anchor_any w hV)
  have h2s := hV.size
  clear hV
  obtain ⟨i0, hi, hz0, hz1, hz2⟩ := info_parts Tryd.info3
  go_enter Tryd.func6, Tryd.ntmps6
  go_wp2_with fail
  refine (unhide HA).mono ?_
  rintro e w1 ⟨rfl, hF1, hV1⟩
  have HN : Hid (Calls Tryd.prog 23 #[.int .i64 4096] w1 fun e w' => NewP 4096 w1 e w') := hide (New_any 4096 w1 (by decide) (by decide))
  have HX := hide (And.intro hF1 hV1)
  clear hF1 hV1 HA
  go_wp2_with fail
  refine (unhide HN).mono ?_
  rintro e w2 ⟨B, rfl, hlo, hF2, hA2⟩
  obtain ⟨base, hbase⟩ : ∃ base, base = w2.heap.size := ⟨_, rfl⟩
  have HS : Hid (Rg1 w w2 B base 0 (.slice none 0 0)) := hide (by
    obtain ⟨x1, x2⟩ := unhide HX
    have hs := x1.size
    have hs2 := hF2.size
    refine ⟨?_, x2.fr hF2 id id, x1.trans hF2, by have := World.ownsRow_nil w2 base 3 1; exact this, fun j hj => by have := hlo j hj; have := hA2.lt hj; omega, by omega, by omega⟩
    unfold rA
    rw [fill_empty]
    exact hA2)
  clear hlo hF2 hA2 HN HX hbase
  unfold HB.ptr
  go_wp2
  go_loopw [8, 9] (fun v i wr => ∃ k : Nat, k ≤ n ∧ i = .int .i64 k ∧ ∃ ao cp, v = .slice ao k cp ∧ Hid (Rg1 w wr B base k (.slice ao k cp))) (fun _ i _ => n - (intOf i).toNat)
  case atStart => exact ⟨0, by omega, rfl, none, 0, rfl, HS⟩
  case round =>
    obtain ⟨k, hk, rfl, ao, cp, rfl, hS⟩ := hrel
    by_cases hlt : k < n
    · have HC1 : Hid (Calls Tryd.prog 22 #[.pointer (some ⟨B.p, 0, none⟩), .int .i64 4] wr fun e w' => e = .returned (.tuple #[.int .i64 ((rAt k : Nat) : Int), .bool true]) ∧ Fr B.mem wr w' ∧ Vars w' ∧ Inv 64 (rA (k + 1)) ∧ At w' B 64 (hrOf (rA (k + 1)) (clearW (fun _ => 0) (rAt k) (roomOfM 4)))) := hide (Alloc_to B 64 (rA k) (fun _ => 0) 4 wr (unhide hS).at_ (r_inv (by omega)) (unhide hS).vars (fun j hj => ((unhide hS).mem j hj).2.1) (by decide) (by decide) (r_goes (by omega)))
      go_wp2_with fail
      refine (unhide HC1).mono ?_
      rintro e w3 ⟨rfl, hF3, hV3, hI3, hA3⟩
      rw [clear_zero] at hA3
      have HX3 := hide ((unhide hS).heap hF3 hV3 hA3)
      have hb3 := (unhide HX3).2.2.2.2
      clear hF3 hV3 hI3 hA3 HC1
      go_wp2_with (first | (at_builtin; refine wpList_append_own _ rfl _ _ 29 rfl base 3 i0 (.int .i64 0) 1 8 Tryd.underlying29 hi hz0 hz1 hz2 rfl (by decide) (.slice ao k cp) k (adL rAt k) rfl ((unhide HX3).2.2.2.1.alloc _) ⟨w3.heap.size, 0, none⟩ 1 1 [.int .i64 (rAt k : Int)] rfl rfl (cell_one_new _ _ _) (ints_oneCell .i64 [(rAt k : Int)]) (by unfold maxLen; omega) (by omega) (by simp; omega) ?_; intro v' w4 hown4 hgrow4 hnil4; obtain ⟨ao4, cp4, hv4, _⟩ := own_form hown4; subst hv4))
      have HS4 : Hid (Rg1 w w4 B base (k + 1) (.slice ao4 (k + 1) cp4)) := hide (by
        obtain ⟨y1, y2, y3, y4, y5⟩ := unhide HX3
        have hK : Fr (fun j => some j = (Value.slice ao k cp).ownBlock) w3 w4 := ((Fr.refl _ w3).alloc _).trans (Fr.grown hgrow4)
        have hlow : ∀ j, some j = (Value.slice ao k cp).ownBlock → base ≤ j := fun j e => (y4.lt j e.symm).1
        have hm := (unhide hS).mem
        have hbl := (unhide hS).lo
        refine ⟨y1.fr' hK (fun b hb e => by have := hlow b e; have := (hm b hb).2.2; omega), y2.fr hK (fun e => by have := hlow 0 e; omega) (fun e => by have := hlow 1 e; omega), y3.up hK (fun j e => by have := hlow j e; omega), by rw [← adL_succ]; exact hown4, hm, by have := hK.size; omega, hbl⟩)
      clear hown4 hgrow4 hnil4 HX3 hb3
      go_roundw
      case rel => exact ⟨k + 1, by omega, by go_num, ao4, cp4, rfl, HS4⟩
      case measure => simp [intOf]; omega
    · have e : k = n := by omega
      subst e
      obtain ⟨ao', cp', e', hg'⟩ := own_form (unhide hS).own
      cases e'
      obtain ⟨g, hg⟩ := hg' (by omega)
      subst hg
      have HR0 : Hid (Rg2 w wr B k (rPl 2) (rHd 2) 0 (fun _ => 0) g) := hide (by
        have h := unhide hS
        have hl := h.own.lt g rfl
        exact ⟨h.at_, RgW.zero _ _ _, h.vars, h.far, fun j hj => ⟨(h.mem j hj).1, (h.mem j hj).2.1⟩, fun j hj => by rw [h.own.cellAt j (by omega), adL_get rAt hj], hl.2, fun hm => by have := (h.mem g hm).2.2; omega⟩)
      clear hS hg' HS hlt
      have HPl : Hid (rPl 2 = 1 ∧ rHd 2 = 4294967298) := hide (by decide)
      rw [(unhide HPl).1, (unhide HPl).2] at HR0
      go_wp2
      go_loopw [13] (fun i wr => ∃ t : Nat, t ≤ k ∧ i = .int .i64 t ∧ ∃ wd, Hid (Rg2 w wr B k 1 4294967298 t wd g)) (fun i _ => k - (intOf i).toNat)
      case atStart => exact ⟨0, by omega, rfl, _, HR0⟩
      case round =>
        obtain ⟨t, ht, rfl, wd, hR⟩ := hrel
        by_cases hlt : t < k
        · have ct := (unhide hR).row t hlt
          have hgl := (unhide hR).gl
          have hat : ((rAt t : Nat) : Int) < 100000 := by unfold rAt; omega
          have HH : Hid (∀ w', Calls Tryd.prog 9 #[.int .i64 2, .int .i64 2, .int .i64 0] w' fun e w'' => e = .returned (.int .i64 4294967298) ∧ w'' = w') := hide fun w' => Header_any 2 2 0 w'
          have hrm := (r_room hn).1 t hlt
          have HSt1 : Hid (∀ w', Fr (fun _ => False) wr w' → Calls Tryd.prog 24 #[.pointer (some ⟨B.p, 0, none⟩), .int .i64 (rAt t : Int), .int .i64 0, .int .i64 4294967298] w' fun e w'' => e = .returned (.bool true) ∧ Fr B.mem w' w'' ∧ At w'' B 64 (hrOf (rA k) (upd wd (rAt t + 0) 4294967298))) := hide fun w' q => Store_in B 64 (rA k) wd (rAt t) 4 0 4294967298 w' ((unhide hR).at_.quiet q) (r_inv hn) hrm (by decide)
          obtain ⟨x, hx⟩ : ∃ x, x = (t + 1) % k := ⟨_, rfl⟩
          have hxk : x < k := by rw [hx]; exact Nat.mod_lt _ (by omega)
          have htm : ((t : Int) + 1).tmod (k : Int) = (x : Int) := by rw [hx, Int.tmod_eq_emod_of_nonneg (by omega)]; simp
          have HSt2 : Hid (∀ w', At w' B 64 (hrOf (rA k) (upd wd (rAt t + 0) 4294967298)) → Calls Tryd.prog 24 #[.pointer (some ⟨B.p, 0, none⟩), .int .i64 (rAt t : Int), .int .i64 1, .int .i64 (rAt x : Int)] w' fun e w'' => e = .returned (.bool true) ∧ Fr B.mem w' w'' ∧ At w'' B 64 (hrOf (rA k) (upd (upd wd (rAt t + 0) 4294967298) (rAt t + 1) (rAt x : Int)))) := hide fun w' h' => Store_in B 64 (rA k) _ (rAt t) 4 1 (rAt x : Int) w' h' (r_inv hn) hrm (by decide)
          have HEn : Hid (∀ W w3 w4, Fr (fun _ => False) wr W → Fr B.mem W w3 → Fr B.mem w3 w4 → At w4 B 64 (hrOf (rA k) (upd (upd wd (rAt t + 0) 4294967298) (rAt t + 1) (rAt x : Int))) → Rg2 w w4 B k 1 4294967298 (t + 1) (upd (upd wd (rAt t + 0) 4294967298) (rAt t + 1) (rAt x : Int)) g) := hide fun W w3 w4 q1 q2 q3 h4 => by
            rw [hx] at h4 ⊢
            exact (unhide hR).heap (by decide) q1 (q2.trans q3) h4
          have HRw : Hid (∀ W w3, Fr (fun _ => False) wr W → Fr B.mem W w3 → g < w3.heap.size ∧ ∀ j, j < k → w3.cell? ⟨g, j, none⟩ = some (.int .i64 (rAt j : Int))) := hide fun W w3 q1 q2 => by
            have h' := (unhide hR).quiet q1
            exact ⟨Nat.lt_of_lt_of_le h'.gl q2.size, fun j hj => (World.cell?_of_block (w := W) (a := ⟨g, j, none⟩) (q2.block g h'.gl h'.gn)).trans (h'.row j hj)⟩
          have hwix : IntKind.i64.wrap (0 : Int) = 0 := by rw [Go.IntKind.wrap_i64]; rfl
          have hkb : ((k : Int) == 0) = false := by simp; omega
          have hkn : ¬ k = 0 := by omega
          have hw1 : IntKind.i64.wrap ((t : Int) + 1) = (t : Int) + 1 := by rw [Go.IntKind.wrap_i64]; omega
          have hw2 : IntKind.i64.wrap (x : Int) = (x : Int) := by rw [Go.IntKind.wrap_i64]; omega
          have hax : ((rAt x : Nat) : Int) < 100000 := by unfold rAt; omega
          clear hx hrm
          go_wp2
          go_region_law (first | (go_simp; go_at_call 9; refine (unhide HH _).mono ?_; rintro e w' ⟨rfl, rfl⟩) | (go_simp; go_at_call 24; refine (unhide HSt1 _ (by (repeat' (first | exact Fr.refl _ _ | refine Fr.alloc ?_ _ | refine Fr.drew ?_)))).mono ?_; rintro e w3 ⟨rfl, hF3, hA3⟩; have HX3 : Hid (∃ W, Fr (fun _ => False) wr W ∧ Fr B.mem W w3 ∧ At w3 B 64 (hrOf (rA k) (upd wd (rAt t + 0) 4294967298))) := hide ⟨_, (by (repeat' (first | exact Fr.refl _ _ | refine Fr.alloc ?_ _ | refine Fr.drew ?_))), hF3, hA3⟩; clear hF3 hA3))
          all_goals (
            obtain ⟨W, q1, q2, hA3⟩ := unhide HX3
            have hrr := unhide HRw W w3 q1 q2
            have ct3 := hrr.2 t hlt
            have cx3 := hrr.2 x hxk
            have hg3 := hrr.1
            have HQ := hide (And.intro q1 (And.intro q2 hA3))
            clear q1 q2 hA3 hrr HX3
            go_wp2
            go_region_held2 (fun w' => w'.cell? ⟨g, t, none⟩ = some (.int .i64 (rAt t : Int)) ∧ w'.cell? ⟨g, x, none⟩ = some (.int .i64 (rAt x : Int))) (go_keep) (first | (go_at_call 24; refine (unhide HSt2 _ ((unhide HQ).2.2.quiet (by (repeat' (first | exact Fr.refl _ _ | refine Fr.alloc ?_ _ | refine Fr.drew ?_))))).mono ?_; rintro e w4 ⟨rfl, hF4, hA4⟩; have HD4 := hide (unhide HEn W w3 w4 (unhide HQ).1 (unhide HQ).2.1 ((Fr.mono (K := fun _ => False) (by (repeat' (first | exact Fr.refl _ _ | refine Fr.alloc ?_ _ | refine Fr.drew ?_))) fun _ x => x.elim).trans hF4) hA4); have ct4 := (unhide HD4).row t hlt; have cx4 := (unhide HD4).row x hxk; clear hF4 hA4))
            try go_wp2
            go_roundw
            case rel => exact ⟨t + 1, by omega, by go_num, _, HD4⟩
            case measure => simp [intOf]; omega)
        · have e : t = k := by omega
          subst e
          have HRn : Hid (Rg2 w wr B t (rPl 2) (rHd 2) t wd g) := by rw [(unhide HPl).1, (unhide HPl).2]; exact hR
          have cf := (unhide hR).row f hf
          have hgl := (unhide hR).gl
          have haf : ((rAt f : Nat) : Int) < 100000 := by unfold rAt; omega
          clear hR HPl
          go_wp2_with (first | (go_at_call 17; refine (rg_reached (kd := 2) (by decide) ((unhide HRn).quiet ((Fr.refl _ wr).alloc _)) hn hf _ (by simp)).mono ?_; rintro e w5 ⟨⟨ao5, cp5, rfl⟩, hF5⟩; have HR5 := hide (((unhide HRn).quiet ((Fr.refl _ wr).alloc _)).quiet hF5); have cf5 := (unhide HR5).row f hf; clear hF5 HRn) | (go_at_call 18; refine (rg_collect2 (unhide HR6 _ ((Fr.refl _ _).alloc _)) hn hf _ (by simp)).mono ?_; rintro e w7 ⟨rfl, hA7, hF7⟩; have HA7 := hide (And.intro hA7 hF7); clear hA7 hF7) | (go_at_call 18; refine (rg_collect (kd := 2) (by decide) ((unhide HR5).quiet ((Fr.refl _ _).alloc _)) hn hf _ (by simp)).mono ?_; rintro e w6 ⟨rfl, A6, hR6⟩; have HR6 : Hid (∀ W, Fr (fun _ => False) w6 W → Rg3 w W B t A6 wd g) := hide (fun W q => hR6.quiet q); have cf6 := hR6.row f hf; clear hR6 HR5) | (go_at_call 19; refine (Blocks_empty B 64 wd _ (unhide HA7).1).mono ?_; rintro e w8 ⟨rfl, hF8⟩; have HB8 := hide (((unhide HA7).2.trans hF8).below (Nat.le_refl _) (fun k (x : False) => x.elim)); clear hF8))
          go_ret
          exact ⟨rfl, unhide HB8⟩
set_option maxRecDepth 100000 in
set_option maxHeartbeats 1000000 in
theorem rings_3 (n f : Nat) (w : World) (hV : Vars w) (h1 : 1 ≤ n) (hn : n ≤ 60) (hf : f < n) : Calls Tryd.prog 6 #[.int .i64 n, .int .i64 f, .int .i64 3] w fun e w' => e = .returned (.bool true) ∧ Below w.heap.size w w' := by
  have HA := hide (anchor_any w hV)
  have h2s := hV.size
  clear hV
  obtain ⟨i0, hi, hz0, hz1, hz2⟩ := info_parts Tryd.info3
  go_enter Tryd.func6, Tryd.ntmps6
  go_wp2_with fail
  refine (unhide HA).mono ?_
  rintro e w1 ⟨rfl, hF1, hV1⟩
  have HN : Hid (Calls Tryd.prog 23 #[.int .i64 4096] w1 fun e w' => NewP 4096 w1 e w') := hide (New_any 4096 w1 (by decide) (by decide))
  have HX := hide (And.intro hF1 hV1)
  clear hF1 hV1 HA
  go_wp2_with fail
  refine (unhide HN).mono ?_
  rintro e w2 ⟨B, rfl, hlo, hF2, hA2⟩
  obtain ⟨base, hbase⟩ : ∃ base, base = w2.heap.size := ⟨_, rfl⟩
  have HS : Hid (Rg1 w w2 B base 0 (.slice none 0 0)) := hide (by
    obtain ⟨x1, x2⟩ := unhide HX
    have hs := x1.size
    have hs2 := hF2.size
    refine ⟨?_, x2.fr hF2 id id, x1.trans hF2, by have := World.ownsRow_nil w2 base 3 1; exact this, fun j hj => by have := hlo j hj; have := hA2.lt hj; omega, by omega, by omega⟩
    unfold rA
    rw [fill_empty]
    exact hA2)
  clear hlo hF2 hA2 HN HX hbase
  unfold HB.ptr
  go_wp2
  go_loopw [8, 9] (fun v i wr => ∃ k : Nat, k ≤ n ∧ i = .int .i64 k ∧ ∃ ao cp, v = .slice ao k cp ∧ Hid (Rg1 w wr B base k (.slice ao k cp))) (fun _ i _ => n - (intOf i).toNat)
  case atStart => exact ⟨0, by omega, rfl, none, 0, rfl, HS⟩
  case round =>
    obtain ⟨k, hk, rfl, ao, cp, rfl, hS⟩ := hrel
    by_cases hlt : k < n
    · have HC1 : Hid (Calls Tryd.prog 22 #[.pointer (some ⟨B.p, 0, none⟩), .int .i64 4] wr fun e w' => e = .returned (.tuple #[.int .i64 ((rAt k : Nat) : Int), .bool true]) ∧ Fr B.mem wr w' ∧ Vars w' ∧ Inv 64 (rA (k + 1)) ∧ At w' B 64 (hrOf (rA (k + 1)) (clearW (fun _ => 0) (rAt k) (roomOfM 4)))) := hide (Alloc_to B 64 (rA k) (fun _ => 0) 4 wr (unhide hS).at_ (r_inv (by omega)) (unhide hS).vars (fun j hj => ((unhide hS).mem j hj).2.1) (by decide) (by decide) (r_goes (by omega)))
      go_wp2_with fail
      refine (unhide HC1).mono ?_
      rintro e w3 ⟨rfl, hF3, hV3, hI3, hA3⟩
      rw [clear_zero] at hA3
      have HX3 := hide ((unhide hS).heap hF3 hV3 hA3)
      have hb3 := (unhide HX3).2.2.2.2
      clear hF3 hV3 hI3 hA3 HC1
      go_wp2_with (first | (at_builtin; refine wpList_append_own _ rfl _ _ 29 rfl base 3 i0 (.int .i64 0) 1 8 Tryd.underlying29 hi hz0 hz1 hz2 rfl (by decide) (.slice ao k cp) k (adL rAt k) rfl ((unhide HX3).2.2.2.1.alloc _) ⟨w3.heap.size, 0, none⟩ 1 1 [.int .i64 (rAt k : Int)] rfl rfl (cell_one_new _ _ _) (ints_oneCell .i64 [(rAt k : Int)]) (by unfold maxLen; omega) (by omega) (by simp; omega) ?_; intro v' w4 hown4 hgrow4 hnil4; obtain ⟨ao4, cp4, hv4, _⟩ := own_form hown4; subst hv4))
      have HS4 : Hid (Rg1 w w4 B base (k + 1) (.slice ao4 (k + 1) cp4)) := hide (by
        obtain ⟨y1, y2, y3, y4, y5⟩ := unhide HX3
        have hK : Fr (fun j => some j = (Value.slice ao k cp).ownBlock) w3 w4 := ((Fr.refl _ w3).alloc _).trans (Fr.grown hgrow4)
        have hlow : ∀ j, some j = (Value.slice ao k cp).ownBlock → base ≤ j := fun j e => (y4.lt j e.symm).1
        have hm := (unhide hS).mem
        have hbl := (unhide hS).lo
        refine ⟨y1.fr' hK (fun b hb e => by have := hlow b e; have := (hm b hb).2.2; omega), y2.fr hK (fun e => by have := hlow 0 e; omega) (fun e => by have := hlow 1 e; omega), y3.up hK (fun j e => by have := hlow j e; omega), by rw [← adL_succ]; exact hown4, hm, by have := hK.size; omega, hbl⟩)
      clear hown4 hgrow4 hnil4 HX3 hb3
      go_roundw
      case rel => exact ⟨k + 1, by omega, by go_num, ao4, cp4, rfl, HS4⟩
      case measure => simp [intOf]; omega
    · have e : k = n := by omega
      subst e
      obtain ⟨ao', cp', e', hg'⟩ := own_form (unhide hS).own
      cases e'
      obtain ⟨g, hg⟩ := hg' (by omega)
      subst hg
      have HR0 : Hid (Rg2 w wr B k (rPl 3) (rHd 3) 0 (fun _ => 0) g) := hide (by
        have h := unhide hS
        have hl := h.own.lt g rfl
        exact ⟨h.at_, RgW.zero _ _ _, h.vars, h.far, fun j hj => ⟨(h.mem j hj).1, (h.mem j hj).2.1⟩, fun j hj => by rw [h.own.cellAt j (by omega), adL_get rAt hj], hl.2, fun hm => by have := (h.mem g hm).2.2; omega⟩)
      clear hS hg' HS hlt
      have HPl : Hid (rPl 3 = 2 ∧ rHd 3 = 6442483714) := hide (by decide)
      rw [(unhide HPl).1, (unhide HPl).2] at HR0
      go_wp2
      go_loopw [13] (fun i wr => ∃ t : Nat, t ≤ k ∧ i = .int .i64 t ∧ ∃ wd, Hid (Rg2 w wr B k 2 6442483714 t wd g)) (fun i _ => k - (intOf i).toNat)
      case atStart => exact ⟨0, by omega, rfl, _, HR0⟩
      case round =>
        obtain ⟨t, ht, rfl, wd, hR⟩ := hrel
        by_cases hlt : t < k
        · have ct := (unhide hR).row t hlt
          have hgl := (unhide hR).gl
          have hat : ((rAt t : Nat) : Int) < 100000 := by unfold rAt; omega
          have HH : Hid (∀ w', Calls Tryd.prog 9 #[.int .i64 3, .int .i64 2, .int .i64 1] w' fun e w'' => e = .returned (.int .i64 6442483714) ∧ w'' = w') := hide fun w' => Header_any 3 2 1 w'
          have hrm := (r_room hn).1 t hlt
          have HSt1 : Hid (∀ w', Fr (fun _ => False) wr w' → Calls Tryd.prog 24 #[.pointer (some ⟨B.p, 0, none⟩), .int .i64 (rAt t : Int), .int .i64 0, .int .i64 6442483714] w' fun e w'' => e = .returned (.bool true) ∧ Fr B.mem w' w'' ∧ At w'' B 64 (hrOf (rA k) (upd wd (rAt t + 0) 6442483714))) := hide fun w' q => Store_in B 64 (rA k) wd (rAt t) 4 0 6442483714 w' ((unhide hR).at_.quiet q) (r_inv hn) hrm (by decide)
          obtain ⟨x, hx⟩ : ∃ x, x = (t + 1) % k := ⟨_, rfl⟩
          have hxk : x < k := by rw [hx]; exact Nat.mod_lt _ (by omega)
          have htm : ((t : Int) + 1).tmod (k : Int) = (x : Int) := by rw [hx, Int.tmod_eq_emod_of_nonneg (by omega)]; simp
          have HSt2 : Hid (∀ w', At w' B 64 (hrOf (rA k) (upd wd (rAt t + 0) 6442483714)) → Calls Tryd.prog 24 #[.pointer (some ⟨B.p, 0, none⟩), .int .i64 (rAt t : Int), .int .i64 2, .int .i64 (rAt x : Int)] w' fun e w'' => e = .returned (.bool true) ∧ Fr B.mem w' w'' ∧ At w'' B 64 (hrOf (rA k) (upd (upd wd (rAt t + 0) 6442483714) (rAt t + 2) (rAt x : Int)))) := hide fun w' h' => Store_in B 64 (rA k) _ (rAt t) 4 2 (rAt x : Int) w' h' (r_inv hn) hrm (by decide)
          have HEn : Hid (∀ W w3 w4, Fr (fun _ => False) wr W → Fr B.mem W w3 → Fr B.mem w3 w4 → At w4 B 64 (hrOf (rA k) (upd (upd wd (rAt t + 0) 6442483714) (rAt t + 2) (rAt x : Int))) → Rg2 w w4 B k 2 6442483714 (t + 1) (upd (upd wd (rAt t + 0) 6442483714) (rAt t + 2) (rAt x : Int)) g) := hide fun W w3 w4 q1 q2 q3 h4 => by
            rw [hx] at h4 ⊢
            exact (unhide hR).heap (by decide) q1 (q2.trans q3) h4
          have HRw : Hid (∀ W w3, Fr (fun _ => False) wr W → Fr B.mem W w3 → g < w3.heap.size ∧ ∀ j, j < k → w3.cell? ⟨g, j, none⟩ = some (.int .i64 (rAt j : Int))) := hide fun W w3 q1 q2 => by
            have h' := (unhide hR).quiet q1
            exact ⟨Nat.lt_of_lt_of_le h'.gl q2.size, fun j hj => (World.cell?_of_block (w := W) (a := ⟨g, j, none⟩) (q2.block g h'.gl h'.gn)).trans (h'.row j hj)⟩
          have hwix : IntKind.i64.wrap (1 : Int) = 1 := by rw [Go.IntKind.wrap_i64]; rfl
          have hkb : ((k : Int) == 0) = false := by simp; omega
          have hkn : ¬ k = 0 := by omega
          have hw1 : IntKind.i64.wrap ((t : Int) + 1) = (t : Int) + 1 := by rw [Go.IntKind.wrap_i64]; omega
          have hw2 : IntKind.i64.wrap (x : Int) = (x : Int) := by rw [Go.IntKind.wrap_i64]; omega
          have hax : ((rAt x : Nat) : Int) < 100000 := by unfold rAt; omega
          clear hx hrm
          go_wp2
          go_region_law (first | (go_simp; go_at_call 9; refine (unhide HH _).mono ?_; rintro e w' ⟨rfl, rfl⟩) | (go_simp; go_at_call 24; refine (unhide HSt1 _ (by (repeat' (first | exact Fr.refl _ _ | refine Fr.alloc ?_ _ | refine Fr.drew ?_)))).mono ?_; rintro e w3 ⟨rfl, hF3, hA3⟩; have HX3 : Hid (∃ W, Fr (fun _ => False) wr W ∧ Fr B.mem W w3 ∧ At w3 B 64 (hrOf (rA k) (upd wd (rAt t + 0) 6442483714))) := hide ⟨_, (by (repeat' (first | exact Fr.refl _ _ | refine Fr.alloc ?_ _ | refine Fr.drew ?_))), hF3, hA3⟩; clear hF3 hA3))
          all_goals (
            obtain ⟨W, q1, q2, hA3⟩ := unhide HX3
            have hrr := unhide HRw W w3 q1 q2
            have ct3 := hrr.2 t hlt
            have cx3 := hrr.2 x hxk
            have hg3 := hrr.1
            have HQ := hide (And.intro q1 (And.intro q2 hA3))
            clear q1 q2 hA3 hrr HX3
            go_wp2
            go_region_held2 (fun w' => w'.cell? ⟨g, t, none⟩ = some (.int .i64 (rAt t : Int)) ∧ w'.cell? ⟨g, x, none⟩ = some (.int .i64 (rAt x : Int))) (go_keep) (first | (go_at_call 24; refine (unhide HSt2 _ ((unhide HQ).2.2.quiet (by (repeat' (first | exact Fr.refl _ _ | refine Fr.alloc ?_ _ | refine Fr.drew ?_))))).mono ?_; rintro e w4 ⟨rfl, hF4, hA4⟩; have HD4 := hide (unhide HEn W w3 w4 (unhide HQ).1 (unhide HQ).2.1 ((Fr.mono (K := fun _ => False) (by (repeat' (first | exact Fr.refl _ _ | refine Fr.alloc ?_ _ | refine Fr.drew ?_))) fun _ x => x.elim).trans hF4) hA4); have ct4 := (unhide HD4).row t hlt; have cx4 := (unhide HD4).row x hxk; clear hF4 hA4))
            try go_wp2
            go_roundw
            case rel => exact ⟨t + 1, by omega, by go_num, _, HD4⟩
            case measure => simp [intOf]; omega)
        · have e : t = k := by omega
          subst e
          have HRn : Hid (Rg2 w wr B t (rPl 3) (rHd 3) t wd g) := by rw [(unhide HPl).1, (unhide HPl).2]; exact hR
          have cf := (unhide hR).row f hf
          have hgl := (unhide hR).gl
          have haf : ((rAt f : Nat) : Int) < 100000 := by unfold rAt; omega
          clear hR HPl
          go_wp2_with (first | (go_at_call 17; refine (rg_reached (kd := 3) (by decide) ((unhide HRn).quiet ((Fr.refl _ wr).alloc _)) hn hf _ (by simp)).mono ?_; rintro e w5 ⟨⟨ao5, cp5, rfl⟩, hF5⟩; have HR5 := hide (((unhide HRn).quiet ((Fr.refl _ wr).alloc _)).quiet hF5); have cf5 := (unhide HR5).row f hf; clear hF5 HRn) | (go_at_call 18; refine (rg_collect2 (unhide HR6 _ ((Fr.refl _ _).alloc _)) hn hf _ (by simp)).mono ?_; rintro e w7 ⟨rfl, hA7, hF7⟩; have HA7 := hide (And.intro hA7 hF7); clear hA7 hF7) | (go_at_call 18; refine (rg_collect (kd := 3) (by decide) ((unhide HR5).quiet ((Fr.refl _ _).alloc _)) hn hf _ (by simp)).mono ?_; rintro e w6 ⟨rfl, A6, hR6⟩; have HR6 : Hid (∀ W, Fr (fun _ => False) w6 W → Rg3 w W B t A6 wd g) := hide (fun W q => hR6.quiet q); have cf6 := hR6.row f hf; clear hR6 HR5) | (go_at_call 19; refine (Blocks_empty B 64 wd _ (unhide HA7).1).mono ?_; rintro e w8 ⟨rfl, hF8⟩; have HB8 := hide (((unhide HA7).2.trans hF8).below (Nat.le_refl _) (fun k (x : False) => x.elim)); clear hF8))
          go_ret
          exact ⟨rfl, unhide HB8⟩
set_option maxRecDepth 100000 in
set_option maxHeartbeats 1000000 in
theorem rings_4 (n f : Nat) (w : World) (hV : Vars w) (h1 : 1 ≤ n) (hn : n ≤ 60) (hf : f < n) : Calls Tryd.prog 6 #[.int .i64 n, .int .i64 f, .int .i64 4] w fun e w' => e = .returned (.bool true) ∧ Below w.heap.size w w' := by
  have HA := hide (anchor_any w hV)
  have h2s := hV.size
  clear hV
  obtain ⟨i0, hi, hz0, hz1, hz2⟩ := info_parts Tryd.info3
  go_enter Tryd.func6, Tryd.ntmps6
  go_wp2_with fail
  refine (unhide HA).mono ?_
  rintro e w1 ⟨rfl, hF1, hV1⟩
  have HN : Hid (Calls Tryd.prog 23 #[.int .i64 4096] w1 fun e w' => NewP 4096 w1 e w') := hide (New_any 4096 w1 (by decide) (by decide))
  have HX := hide (And.intro hF1 hV1)
  clear hF1 hV1 HA
  go_wp2_with fail
  refine (unhide HN).mono ?_
  rintro e w2 ⟨B, rfl, hlo, hF2, hA2⟩
  obtain ⟨base, hbase⟩ : ∃ base, base = w2.heap.size := ⟨_, rfl⟩
  have HS : Hid (Rg1 w w2 B base 0 (.slice none 0 0)) := hide (by
    obtain ⟨x1, x2⟩ := unhide HX
    have hs := x1.size
    have hs2 := hF2.size
    refine ⟨?_, x2.fr hF2 id id, x1.trans hF2, by have := World.ownsRow_nil w2 base 3 1; exact this, fun j hj => by have := hlo j hj; have := hA2.lt hj; omega, by omega, by omega⟩
    unfold rA
    rw [fill_empty]
    exact hA2)
  clear hlo hF2 hA2 HN HX hbase
  unfold HB.ptr
  go_wp2
  go_loopw [8, 9] (fun v i wr => ∃ k : Nat, k ≤ n ∧ i = .int .i64 k ∧ ∃ ao cp, v = .slice ao k cp ∧ Hid (Rg1 w wr B base k (.slice ao k cp))) (fun _ i _ => n - (intOf i).toNat)
  case atStart => exact ⟨0, by omega, rfl, none, 0, rfl, HS⟩
  case round =>
    obtain ⟨k, hk, rfl, ao, cp, rfl, hS⟩ := hrel
    by_cases hlt : k < n
    · have HC1 : Hid (Calls Tryd.prog 22 #[.pointer (some ⟨B.p, 0, none⟩), .int .i64 4] wr fun e w' => e = .returned (.tuple #[.int .i64 ((rAt k : Nat) : Int), .bool true]) ∧ Fr B.mem wr w' ∧ Vars w' ∧ Inv 64 (rA (k + 1)) ∧ At w' B 64 (hrOf (rA (k + 1)) (clearW (fun _ => 0) (rAt k) (roomOfM 4)))) := hide (Alloc_to B 64 (rA k) (fun _ => 0) 4 wr (unhide hS).at_ (r_inv (by omega)) (unhide hS).vars (fun j hj => ((unhide hS).mem j hj).2.1) (by decide) (by decide) (r_goes (by omega)))
      go_wp2_with fail
      refine (unhide HC1).mono ?_
      rintro e w3 ⟨rfl, hF3, hV3, hI3, hA3⟩
      rw [clear_zero] at hA3
      have HX3 := hide ((unhide hS).heap hF3 hV3 hA3)
      have hb3 := (unhide HX3).2.2.2.2
      clear hF3 hV3 hI3 hA3 HC1
      go_wp2_with (first | (at_builtin; refine wpList_append_own _ rfl _ _ 29 rfl base 3 i0 (.int .i64 0) 1 8 Tryd.underlying29 hi hz0 hz1 hz2 rfl (by decide) (.slice ao k cp) k (adL rAt k) rfl ((unhide HX3).2.2.2.1.alloc _) ⟨w3.heap.size, 0, none⟩ 1 1 [.int .i64 (rAt k : Int)] rfl rfl (cell_one_new _ _ _) (ints_oneCell .i64 [(rAt k : Int)]) (by unfold maxLen; omega) (by omega) (by simp; omega) ?_; intro v' w4 hown4 hgrow4 hnil4; obtain ⟨ao4, cp4, hv4, _⟩ := own_form hown4; subst hv4))
      have HS4 : Hid (Rg1 w w4 B base (k + 1) (.slice ao4 (k + 1) cp4)) := hide (by
        obtain ⟨y1, y2, y3, y4, y5⟩ := unhide HX3
        have hK : Fr (fun j => some j = (Value.slice ao k cp).ownBlock) w3 w4 := ((Fr.refl _ w3).alloc _).trans (Fr.grown hgrow4)
        have hlow : ∀ j, some j = (Value.slice ao k cp).ownBlock → base ≤ j := fun j e => (y4.lt j e.symm).1
        have hm := (unhide hS).mem
        have hbl := (unhide hS).lo
        refine ⟨y1.fr' hK (fun b hb e => by have := hlow b e; have := (hm b hb).2.2; omega), y2.fr hK (fun e => by have := hlow 0 e; omega) (fun e => by have := hlow 1 e; omega), y3.up hK (fun j e => by have := hlow j e; omega), by rw [← adL_succ]; exact hown4, hm, by have := hK.size; omega, hbl⟩)
      clear hown4 hgrow4 hnil4 HX3 hb3
      go_roundw
      case rel => exact ⟨k + 1, by omega, by go_num, ao4, cp4, rfl, HS4⟩
      case measure => simp [intOf]; omega
    · have e : k = n := by omega
      subst e
      obtain ⟨ao', cp', e', hg'⟩ := own_form (unhide hS).own
      cases e'
      obtain ⟨g, hg⟩ := hg' (by omega)
      subst hg
      have HR0 : Hid (Rg2 w wr B k (rPl 4) (rHd 4) 0 (fun _ => 0) g) := hide (by
        have h := unhide hS
        have hl := h.own.lt g rfl
        exact ⟨h.at_, RgW.zero _ _ _, h.vars, h.far, fun j hj => ⟨(h.mem j hj).1, (h.mem j hj).2.1⟩, fun j hj => by rw [h.own.cellAt j (by omega), adL_get rAt hj], hl.2, fun hm => by have := (h.mem g hm).2.2; omega⟩)
      clear hS hg' HS hlt
      have HPl : Hid (rPl 4 = 1 ∧ rHd 4 = 8589967362) := hide (by decide)
      rw [(unhide HPl).1, (unhide HPl).2] at HR0
      go_wp2
      go_loopw [13] (fun i wr => ∃ t : Nat, t ≤ k ∧ i = .int .i64 t ∧ ∃ wd, Hid (Rg2 w wr B k 1 8589967362 t wd g)) (fun i _ => k - (intOf i).toNat)
      case atStart => exact ⟨0, by omega, rfl, _, HR0⟩
      case round =>
        obtain ⟨t, ht, rfl, wd, hR⟩ := hrel
        by_cases hlt : t < k
        · have ct := (unhide hR).row t hlt
          have hgl := (unhide hR).gl
          have hat : ((rAt t : Nat) : Int) < 100000 := by unfold rAt; omega
          have HH : Hid (∀ w', Calls Tryd.prog 9 #[.int .i64 4, .int .i64 2, .int .i64 1] w' fun e w'' => e = .returned (.int .i64 8589967362) ∧ w'' = w') := hide fun w' => Header_any 4 2 1 w'
          have hrm := (r_room hn).1 t hlt
          have HSt1 : Hid (∀ w', Fr (fun _ => False) wr w' → Calls Tryd.prog 24 #[.pointer (some ⟨B.p, 0, none⟩), .int .i64 (rAt t : Int), .int .i64 0, .int .i64 8589967362] w' fun e w'' => e = .returned (.bool true) ∧ Fr B.mem w' w'' ∧ At w'' B 64 (hrOf (rA k) (upd wd (rAt t + 0) 8589967362))) := hide fun w' q => Store_in B 64 (rA k) wd (rAt t) 4 0 8589967362 w' ((unhide hR).at_.quiet q) (r_inv hn) hrm (by decide)
          obtain ⟨x, hx⟩ : ∃ x, x = (t + 1) % k := ⟨_, rfl⟩
          have hxk : x < k := by rw [hx]; exact Nat.mod_lt _ (by omega)
          have htm : ((t : Int) + 1).tmod (k : Int) = (x : Int) := by rw [hx, Int.tmod_eq_emod_of_nonneg (by omega)]; simp
          have HSt2 : Hid (∀ w', At w' B 64 (hrOf (rA k) (upd wd (rAt t + 0) 8589967362)) → Calls Tryd.prog 24 #[.pointer (some ⟨B.p, 0, none⟩), .int .i64 (rAt t : Int), .int .i64 1, .int .i64 (rAt x : Int)] w' fun e w'' => e = .returned (.bool true) ∧ Fr B.mem w' w'' ∧ At w'' B 64 (hrOf (rA k) (upd (upd wd (rAt t + 0) 8589967362) (rAt t + 1) (rAt x : Int)))) := hide fun w' h' => Store_in B 64 (rA k) _ (rAt t) 4 1 (rAt x : Int) w' h' (r_inv hn) hrm (by decide)
          have HEn : Hid (∀ W w3 w4, Fr (fun _ => False) wr W → Fr B.mem W w3 → Fr B.mem w3 w4 → At w4 B 64 (hrOf (rA k) (upd (upd wd (rAt t + 0) 8589967362) (rAt t + 1) (rAt x : Int))) → Rg2 w w4 B k 1 8589967362 (t + 1) (upd (upd wd (rAt t + 0) 8589967362) (rAt t + 1) (rAt x : Int)) g) := hide fun W w3 w4 q1 q2 q3 h4 => by
            rw [hx] at h4 ⊢
            exact (unhide hR).heap (by decide) q1 (q2.trans q3) h4
          have HRw : Hid (∀ W w3, Fr (fun _ => False) wr W → Fr B.mem W w3 → g < w3.heap.size ∧ ∀ j, j < k → w3.cell? ⟨g, j, none⟩ = some (.int .i64 (rAt j : Int))) := hide fun W w3 q1 q2 => by
            have h' := (unhide hR).quiet q1
            exact ⟨Nat.lt_of_lt_of_le h'.gl q2.size, fun j hj => (World.cell?_of_block (w := W) (a := ⟨g, j, none⟩) (q2.block g h'.gl h'.gn)).trans (h'.row j hj)⟩
          have hwix : IntKind.i64.wrap (2 : Int) = 2 := by rw [Go.IntKind.wrap_i64]; rfl
          have hkb : ((k : Int) == 0) = false := by simp; omega
          have hkn : ¬ k = 0 := by omega
          have hw1 : IntKind.i64.wrap ((t : Int) + 1) = (t : Int) + 1 := by rw [Go.IntKind.wrap_i64]; omega
          have hw2 : IntKind.i64.wrap (x : Int) = (x : Int) := by rw [Go.IntKind.wrap_i64]; omega
          have hax : ((rAt x : Nat) : Int) < 100000 := by unfold rAt; omega
          clear hx hrm
          go_wp2
          go_region_law (first | (go_simp; go_at_call 9; refine (unhide HH _).mono ?_; rintro e w' ⟨rfl, rfl⟩) | (go_simp; go_at_call 24; refine (unhide HSt1 _ (by (repeat' (first | exact Fr.refl _ _ | refine Fr.alloc ?_ _ | refine Fr.drew ?_)))).mono ?_; rintro e w3 ⟨rfl, hF3, hA3⟩; have HX3 : Hid (∃ W, Fr (fun _ => False) wr W ∧ Fr B.mem W w3 ∧ At w3 B 64 (hrOf (rA k) (upd wd (rAt t + 0) 8589967362))) := hide ⟨_, (by (repeat' (first | exact Fr.refl _ _ | refine Fr.alloc ?_ _ | refine Fr.drew ?_))), hF3, hA3⟩; clear hF3 hA3))
          all_goals (
            obtain ⟨W, q1, q2, hA3⟩ := unhide HX3
            have hrr := unhide HRw W w3 q1 q2
            have ct3 := hrr.2 t hlt
            have cx3 := hrr.2 x hxk
            have hg3 := hrr.1
            have HQ := hide (And.intro q1 (And.intro q2 hA3))
            clear q1 q2 hA3 hrr HX3
            go_wp2
            go_region_held2 (fun w' => w'.cell? ⟨g, t, none⟩ = some (.int .i64 (rAt t : Int)) ∧ w'.cell? ⟨g, x, none⟩ = some (.int .i64 (rAt x : Int))) (go_keep) (first | (go_at_call 24; refine (unhide HSt2 _ ((unhide HQ).2.2.quiet (by (repeat' (first | exact Fr.refl _ _ | refine Fr.alloc ?_ _ | refine Fr.drew ?_))))).mono ?_; rintro e w4 ⟨rfl, hF4, hA4⟩; have HD4 := hide (unhide HEn W w3 w4 (unhide HQ).1 (unhide HQ).2.1 ((Fr.mono (K := fun _ => False) (by (repeat' (first | exact Fr.refl _ _ | refine Fr.alloc ?_ _ | refine Fr.drew ?_))) fun _ x => x.elim).trans hF4) hA4); have ct4 := (unhide HD4).row t hlt; have cx4 := (unhide HD4).row x hxk; clear hF4 hA4))
            try go_wp2
            go_roundw
            case rel => exact ⟨t + 1, by omega, by go_num, _, HD4⟩
            case measure => simp [intOf]; omega)
        · have e : t = k := by omega
          subst e
          have HRn : Hid (Rg2 w wr B t (rPl 4) (rHd 4) t wd g) := by rw [(unhide HPl).1, (unhide HPl).2]; exact hR
          have cf := (unhide hR).row f hf
          have hgl := (unhide hR).gl
          have haf : ((rAt f : Nat) : Int) < 100000 := by unfold rAt; omega
          clear hR HPl
          go_wp2_with (first | (go_at_call 17; refine (rg_reached (kd := 4) (by decide) ((unhide HRn).quiet ((Fr.refl _ wr).alloc _)) hn hf _ (by simp)).mono ?_; rintro e w5 ⟨⟨ao5, cp5, rfl⟩, hF5⟩; have HR5 := hide (((unhide HRn).quiet ((Fr.refl _ wr).alloc _)).quiet hF5); have cf5 := (unhide HR5).row f hf; clear hF5 HRn) | (go_at_call 18; refine (rg_collect2 (unhide HR6 _ ((Fr.refl _ _).alloc _)) hn hf _ (by simp)).mono ?_; rintro e w7 ⟨rfl, hA7, hF7⟩; have HA7 := hide (And.intro hA7 hF7); clear hA7 hF7) | (go_at_call 18; refine (rg_collect (kd := 4) (by decide) ((unhide HR5).quiet ((Fr.refl _ _).alloc _)) hn hf _ (by simp)).mono ?_; rintro e w6 ⟨rfl, A6, hR6⟩; have HR6 : Hid (∀ W, Fr (fun _ => False) w6 W → Rg3 w W B t A6 wd g) := hide (fun W q => hR6.quiet q); have cf6 := hR6.row f hf; clear hR6 HR5) | (go_at_call 19; refine (Blocks_empty B 64 wd _ (unhide HA7).1).mono ?_; rintro e w8 ⟨rfl, hF8⟩; have HB8 := hide (((unhide HA7).2.trans hF8).below (Nat.le_refl _) (fun k (x : False) => x.elim)); clear hF8))
          go_ret
          exact ⟨rfl, unhide HB8⟩
theorem rings_w (n f kd : Int) (w : World) (hV : Vars w) (_h0 : (Lit.int .i64 n).wf = true) (_h1 : (Lit.int .i64 f).wf = true) (_h2 : (Lit.int .i64 kd).wf = true) : Calls Tryd.prog 6 #[.int .i64 n, .int .i64 f, .int .i64 kd] w fun e w' => e = .returned (.bool true) ∧ Below w.heap.size w w' := by
  by_cases h : n < 1 ∨ 60 < n ∨ f < 0 ∨ n ≤ f ∨ kd < 2 ∨ 4 < kd
  · exact rings_out n f kd w hV h
  · obtain ⟨N, rfl⟩ := Int.eq_ofNat_of_zero_le (show 0 ≤ n by omega)
    obtain ⟨F, rfl⟩ := Int.eq_ofNat_of_zero_le (show 0 ≤ f by omega)
    rcases (show kd = 2 ∨ kd = 3 ∨ kd = 4 by omega) with rfl | rfl | rfl
    · exact rings_2 N F w hV (by omega) (by omega) (by omega)
    · exact rings_3 N F w hV (by omega) (by omega) (by omega)
    · exact rings_4 N F w hV (by omega) (by omega) (by omega)
end Go.Proofs.YtinmaogbfcmagaaDoor
