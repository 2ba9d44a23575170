/- Nw Nw2 Fl An Re1 Re2 Bl Wd1, in one text. -/
import Derived.Test.YtjblmincldaklaaDoorMc
import Derived.Test.YtjblmincldaklaaDoorMb
namespace Go.Proofs.YtjblmincldaklaaDoor
open Go.RowKit Go.Proofs.YtjblmincldaklaaDoor.Hp
theorem Tryd.info3 : (Tryd.prog.info? 3).map (fun i => (i.zero, i.size, i.bytes)) = some (some (.int .i64 0), 1, 8) := by kernel_rfl
theorem Tryd.info90 : (Tryd.prog.info? 90).map (fun i => (i.zero, i.size, i.bytes)) = some (some (.agg #[.int .i64 0, .int .u32 0]), 2, 16) := by kernel_rfl
theorem Tryd.info92 : (Tryd.prog.info? 92).map (fun i => (i.zero, i.size, i.bytes)) = some (some (.int .u64 0), 1, 8) := by kernel_rfl
theorem made_at (z : Array Value) (n i : Nat) (h : i < n) : (madeCells z n)[i]? = some (z[i % z.size]!) := by
  unfold madeCells
  rw [Array.getElem?_map, Array.getElem?_range, if_pos h]
  rfl
theorem make34 (W : World) (k : Nat) (hk : k ≤ 2000000) : (Instr.makeSlice 31 (.int .i64 (k : Int)) (.int .i64 (k : Int))).run Tryd.prog W = .ok (.slice (some ⟨W.heap.size, 0, none⟩) k k) (W.alloc (.cells (madeCells #[.int .i64 0] k) 3)) := by
  obtain ⟨i0, hi, hz0, hz1, hz2⟩ := info_parts Tryd.info3
  have := run_make (P := Tryd.prog) W 31 3 i0 _ Tryd.underlying31 hi hz0 .i64 .i64 (k : Int) (k : Int) (by omega) (Int.le_refl _) (by rw [hz2]; omega) (by omega)
  rw [this, hz1]
  simp [Value.cells]
theorem make48 (W : World) (k : Nat) (hk : k ≤ 2000000) : (Instr.makeSlice 71 (.int .i64 (k : Int)) (.int .i64 (k : Int))).run Tryd.prog W = .ok (.slice (some ⟨W.heap.size, 0, none⟩) k k) (W.alloc (.cells (madeCells #[.int .i64 0, .int .u32 0] (k * 2)) 90)) := by
  obtain ⟨i0, hi, hz0, hz1, hz2⟩ := info_parts Tryd.info90
  have := run_make (P := Tryd.prog) W 71 90 i0 _ Tryd.underlying71 hi hz0 .i64 .i64 (k : Int) (k : Int) (by omega) (Int.le_refl _) (by rw [hz2]; omega) (by omega)
  rw [this, hz1]
  simp [Value.cells]
theorem make50 (W : World) (k : Nat) (hk : k ≤ 2000000) : (Instr.makeSlice 73 (.int .i64 (k : Int)) (.int .i64 (k : Int))).run Tryd.prog W = .ok (.slice (some ⟨W.heap.size, 0, none⟩) k k) (W.alloc (.cells (madeCells #[.int .u64 0] k) 92)) := by
  obtain ⟨i0, hi, hz0, hz1, hz2⟩ := info_parts Tryd.info92
  have := run_make (P := Tryd.prog) W 73 92 i0 _ Tryd.underlying73 hi hz0 .i64 .i64 (k : Int) (k : Int) (by omega) (Int.le_refl _) (by rw [hz2]; omega) (by omega)
  rw [this, hz1]
  simp [Value.cells]
theorem Row.made (w : World) (z : Array Value) (k e : Nat) : Row (w.alloc (.cells (madeCells z k) e)) w.heap.size k (fun i => z[i % z.size]!) := by
  intro i hi
  exact ⟨by rw [World.cell?_alloc_at _ _ _ _ rfl, made_at _ _ _ hi], World.frozen?_alloc_at _ _ _ _ rfl⟩
theorem set_none : (fun i => Value.int .u64 ((wordN (fun j => (fun _ : Nat => false) (64 * i + j)) 64 : Nat) : Int)) = fun _ => Value.int .u64 0 := by
  funext i
  rw [wordN_zero.2 (fun _ _ => rfl)]; rfl
def NewSetP (m : Nat) (w : World) (e : Ending) (w' : World) : Prop := ∃ g, e = .returned (.slice (some ⟨g, 0, none⟩) m m) ∧ g = w.heap.size ∧ w'.heap.size = w.heap.size + 1 ∧ SetAt w' g m (fun _ => false) ∧ Fr (fun _ => False) w w'
set_option maxHeartbeats 1000000 in
theorem newSet_any (n : Nat) (w : World) (hn : n ≤ 16384) : Calls Tryd.prog 36 #[.int .i64 n] w fun e w' => NewSetP (setM n) w e w' := by
  have hq : ((n : Int) + 63) / 64 = (setM n : Int) := by unfold setM; omega
  have hm := setM_le hn
  have hmk := make50 w (setM n) (by omega)
  have HP : Hid (NewSetP (setM n) w (.returned (.slice (some ⟨w.heap.size, 0, none⟩) (setM n) (setM n))) (w.alloc (.cells (madeCells #[.int .u64 0] (setM n)) 92))) := by
    refine hide ⟨_, rfl, rfl, by simp, ?_, (Fr.refl _ w).alloc _⟩
    unfold SetAt
    rw [set_none]
    exact (Row.made w #[.int .u64 0] (setM n) 92).ext fun i _ => by simp [Nat.mod_one]
  generalize setM n = m at *
  generalize madeCells #[.int .u64 0] m = Z at *
  go_enter Tryd.func36, Tryd.ntmps36
  go_wp2
  go_ret
  exact unhide HP
end Go.Proofs.YtjblmincldaklaaDoor
namespace Go.Proofs.YtjblmincldaklaaDoor
open Go.RowKit Go.Proofs.YtjblmincldaklaaDoor.Hp
def newCell (n bw bs bf c : Nat) (bo : Nat → Nat) (i : Nat) : Value :=
  if i = 0 then .slice (some ⟨bw, 0, none⟩) (64 * n) (64 * n) else if i = 1 then .slice (some ⟨bs, 0, none⟩) n n else if i = 2 then .slice (some ⟨bf, 0, none⟩) (setM n) (setM n) else if i < 3 + c then .slice (some ⟨bo (i - 3), 0, none⟩) (setM n) (setM n) else .slice none 0 0
/-- A heap that is being made: c of its six sets are there. -/
structure NewAt (w0 w : World) (n p bw bs bf c : Nat) (bo : Nat → Nat) : Prop where
  st : Row w p 9 (newCell n bw bs bf c bo)
  wo : Row w bw (64 * n) (fun _ => .int .i64 0)
  sp : Row w bs (2 * n) (spanCell (fun _ => 0) (fun _ => 0))
  fr : SetAt w bf (setM n) (fun _ => false)
  op : ∀ d, d < c → SetAt w (bo d) (setM n) (fun _ => false)
  lo : w0.heap.size ≤ p ∧ w0.heap.size ≤ bw ∧ w0.heap.size ≤ bs ∧ w0.heap.size ≤ bf ∧ ∀ d, d < c → w0.heap.size ≤ bo d
  ne : p ≠ bw ∧ p ≠ bs ∧ p ≠ bf ∧ bw ≠ bs ∧ bw ≠ bf ∧ bs ≠ bf
  no : ∀ d, d < c → bo d ≠ p ∧ bo d ≠ bw ∧ bo d ≠ bs ∧ bo d ≠ bf
  oo : ∀ d e, d < c → e < c → d ≠ e → bo d ≠ bo e
  far : Fr (fun _ => False) w0 w
theorem NewAt.quiet {w0 w w' : World} {n p bw bs bf c : Nat} {bo : Nat → Nat} (h : NewAt w0 w n p bw bs bf c bo) (k : Fr (fun _ => False) w w') : NewAt w0 w' n p bw bs bf c bo :=
  ⟨h.st.fr k id, h.wo.fr k id, h.sp.fr k id, h.fr.fr k id, fun d hd => Row.fr (h.op d hd) k id, h.lo, h.ne, h.no, h.oo, h.far.trans k⟩
theorem NewAt.step {w0 w w1 : World} {n p bw bs bf c g : Nat} {bo : Nat → Nat} (h : NewAt w0 w n p bw bs bf c bo) (hn : 2 ≤ n) (hc : c < 6) (hg : g = w.heap.size) (k : Fr (fun _ => False) w w1) (hs : SetAt w1 g (setM n) (fun _ => false)) :
    NewAt w0 (w1.setCell ⟨p, 3 + c, none⟩ (.slice (some ⟨g, 0, none⟩) (setM n) (setM n))) n p bw bs bf (c + 1) (upd bo c g) := by
  have h1 := h.quiet k
  obtain ⟨n1, n2, n3, n4, n5, n6⟩ := h.ne
  obtain ⟨l1, l2, l3, l4, l5⟩ := h.lo
  have z1 := h.st.lt (by omega)
  have z2 := h.wo.lt (by omega)
  have z3 := h.sp.lt (by omega)
  have z4 := h.fr.lt (setM_pos hn)
  have z5 : ∀ d, d < c → bo d < w.heap.size := fun d hd => Row.lt (h.op d hd) (setM_pos hn)
  have hK : Fr (· = p) w1 (w1.setCell ⟨p, 3 + c, none⟩ (.slice (some ⟨g, 0, none⟩) (setM n) (setM n))) := (Fr.refl (· = p) w1).setCell (p := ⟨p, 3 + c, none⟩) rfl _
  have hsz := h.far.size
  refine ⟨(h1.st.set (3 + c) _ (by omega)).ext fun i hi => ?_, h1.wo.fr hK (Ne.symm n1), h1.sp.fr hK (Ne.symm n2), h1.fr.fr hK (Ne.symm n3), fun d hd => ?_, ⟨l1, l2, l3, l4, fun d hd => ?_⟩, h.ne, fun d hd => ?_, fun d e hd he hde => ?_, ?_⟩
  · unfold newCell
    by_cases e : i = 3 + c
    · subst e
      rw [upd_same, if_neg (by omega), if_neg (by omega), if_neg (by omega), if_pos (by omega), show 3 + c - 3 = c by omega, upd_same]
    · rw [upd_ne _ _ e]
      by_cases e0 : i = 0
      · rw [if_pos e0, if_pos e0]
      · rw [if_neg e0, if_neg e0]
        by_cases e1 : i = 1
        · rw [if_pos e1, if_pos e1]
        · rw [if_neg e1, if_neg e1]
          by_cases e2 : i = 2
          · rw [if_pos e2, if_pos e2]
          · rw [if_neg e2, if_neg e2]
            by_cases e3 : i < 3 + c
            · rw [if_pos e3, if_pos (by omega), upd_ne _ _ (by omega)]
            · rw [if_neg e3, if_neg (by omega)]
  · by_cases e : d = c
    · subst e; rw [upd_same]; exact Row.fr hs hK (by omega)
    · rw [upd_ne _ _ e]; exact Row.fr (h1.op d (by omega)) hK (h.no d (by omega)).1
  · by_cases e : d = c
    · subst e; rw [upd_same]; omega
    · rw [upd_ne _ _ e]; exact l5 d (by omega)
  · by_cases e : d = c
    · subst e; rw [upd_same]; omega
    · rw [upd_ne _ _ e]; exact h.no d (by omega)
  · by_cases e1 : d = c
    · subst e1
      rw [upd_same, upd_ne _ _ (Ne.symm hde)]
      have := z5 e (by omega)
      omega
    · rw [upd_ne _ _ e1]
      by_cases e2 : e = c
      · subst e2
        rw [upd_same]
        have := z5 d (by omega)
        omega
      · rw [upd_ne _ _ e2]; exact h.oo d e (by omega) (by omega) hde
  · refine ⟨(h1.far).os, h1.far.tape, h1.far.output, ?_, fun j hj _ => ?_⟩
    · exact Nat.le_trans h1.far.size (by simp [World.setCell])
    · rw [Below.heap_setCell _ _ _ _ (by show j ≠ p; omega)]
      exact h1.far.block j hj id
/-- An empty heap's spans. -/
def emptyA (n : Nat) : Nat → Kd := fun s => if 1 ≤ s ∧ s < n then .free else .tail
theorem emptyA_inv (n : Nat) : Inv n (emptyA n) := by
  refine ⟨rfl, fun s hs => ?_, fun s c u h => ?_, fun s k h => ?_, fun s h1 h2 h => ?_⟩
  · unfold emptyA; rw [if_neg (by omega)]
  · unfold emptyA at h; split at h <;> cases h
  · unfold emptyA at h; split at h <;> cases h
  · unfold emptyA at h; rw [if_pos ⟨h1, h2⟩] at h; cases h
def zeroR (s : Nat) : HR := ⟨fun _ => 0, fun _ => 0, cutF (fun _ => false) 1 s true, fun _ _ => false, fun _ => 0⟩
theorem NewAt.at {w0 w : World} {n p bw bs bf : Nat} {bo : Nat → Nat} (h : NewAt w0 w n p bw bs bf 6 bo) (hn : 2 ≤ n) (hn2 : n ≤ 16384) : At w ⟨p, bw, bs, bf, bo⟩ n (zeroR 1) := by
  obtain ⟨n1, n2, n3, n4, n5, n6⟩ := h.ne
  refine ⟨⟨n1, n2, n3, n4, n5, n6, h.no, h.oo⟩, hn, hn2, h.st.ext fun i hi => ?_, h.wo, h.sp, ?_, h.op⟩
  · unfold newCell HB.cell
    by_cases e0 : i = 0
    · rw [if_pos e0, if_pos e0]
    · rw [if_neg e0, if_neg e0]
      by_cases e1 : i = 1
      · rw [if_pos e1, if_pos e1]
      · rw [if_neg e1, if_neg e1]
        by_cases e2 : i = 2
        · rw [if_pos e2, if_pos e2]
        · rw [if_neg e2, if_neg e2, if_pos (by omega)]
  · show SetAt w bf (setM n) (cutF (fun _ => false) 1 1 true)
    rw [cutF_none]; exact h.fr
theorem NewAt.start {w0 w : World} {n p bw bs bf : Nat} (h1 : Row w p 9 (newCell n bw bs bf 0 (fun _ => 0))) (h2 : Row w bw (64 * n) (fun _ => .int .i64 0)) (h3 : Row w bs (n * 2) (fun i => (#[.int .i64 0, .int .u32 0] : Array Value)[i % (#[.int .i64 0, .int .u32 0] : Array Value).size]!)) (h4 : SetAt w bf (setM n) (fun _ => false))
    (l : w0.heap.size ≤ p ∧ w0.heap.size ≤ bw ∧ w0.heap.size ≤ bs ∧ w0.heap.size ≤ bf) (ne : p ≠ bw ∧ p ≠ bs ∧ p ≠ bf ∧ bw ≠ bs ∧ bw ≠ bf ∧ bs ≠ bf) (f : Fr (fun _ => False) w0 w) : NewAt w0 w n p bw bs bf 0 (fun _ => 0) := by
  refine ⟨h1, h2, ?_, h4, fun d hd => by omega, ⟨l.1, l.2.1, l.2.2.1, l.2.2.2, fun d hd => by omega⟩, ne, fun d hd => by omega, fun d e hd => by omega, f⟩
  rw [Nat.mul_comm]
  refine h3.ext fun i hi => ?_
  unfold spanCell
  rcases Nat.mod_two_eq_zero_or_one i with e | e
  · rw [if_pos e]; simp [e]
  · rw [if_neg (by omega)]; simp [e]
theorem Row.re {w : World} {b b' m : Nat} {f : Nat → Value} (h : Row w b m f) (e : b' = b) : Row w b' m f := e ▸ h
theorem SetAt.re {w : World} {b b' m : Nat} {f : Nat → Bool} (h : SetAt w b m f) (e : b' = b) : SetAt w b' m f := e ▸ h
theorem Row.lit9 (w : World) (n bw bs bf e : Nat) : Row (w.alloc (.cells #[.slice (some ⟨bw, 0, none⟩) (64 * n) (64 * n), .slice (some ⟨bs, 0, none⟩) n n, .slice (some ⟨bf, 0, none⟩) (setM n) (setM n), .slice none 0 0, .slice none 0 0, .slice none 0 0, .slice none 0 0, .slice none 0 0, .slice none 0 0] e)) w.heap.size 9 (newCell n bw bs bf 0 (fun _ => 0)) := by
  intro i hi
  refine ⟨?_, World.frozen?_alloc_at _ _ _ _ rfl⟩
  rw [World.cell?_alloc_at _ _ _ _ rfl]
  rcases (show i = 0 ∨ i = 1 ∨ i = 2 ∨ i = 3 ∨ i = 4 ∨ i = 5 ∨ i = 6 ∨ i = 7 ∨ i = 8 by omega) with rfl | rfl | rfl | rfl | rfl | rfl | rfl | rfl | rfl <;> rfl
theorem Fr.up {K : Nat → Prop} {w0 w w' : World} (h : Fr (fun _ => False) w0 w) (k : Fr K w w') (hk : ∀ b, K b → w0.heap.size ≤ b) : Fr (fun _ => False) w0 w' :=
  ⟨k.os.trans h.os, k.tape.trans h.tape, k.output.trans h.output, Nat.le_trans h.size k.size, fun i hi _ => (k.block i (Nat.lt_of_lt_of_le hi h.size) (fun x => by have := hk i x; omega)).trans (h.block i hi id)⟩
theorem zeroR_done {w : World} {B : HB} {n : Nat} (h : At w B n (zeroR n)) : At w B n (hrOf (emptyA n) (fun _ => 0)) := by
  refine h.congr (fun t _ => ?_) (fun t _ => ?_) (fun t => ?_) (fun d hd t => ?_) (fun _ _ => rfl)
  · show 0 = rmK (emptyA n t)
    unfold emptyA; split <;> rfl
  · show 0 = usK (emptyA n t)
    unfold emptyA; split <;> rfl
  · show cutF (fun _ => false) 1 n true t = frK (emptyA n t)
    unfold emptyA cutF; split <;> rfl
  · show false = opK d (emptyA n t)
    unfold emptyA; split <;> rfl
def NewP (x : Nat) (w : World) (e : Ending) (w' : World) : Prop := ∃ B : HB, e = .returned B.ptr ∧ (∀ k, B.mem k → w.heap.size ≤ k) ∧ Fr (fun _ => False) w w' ∧ At w' B (x / 64) (hrOf (emptyA (x / 64)) (fun _ => 0))
set_option maxHeartbeats 4000000 in
theorem New_any (x : Nat) (w : World) (h1 : 128 ≤ x) (h2 : x ≤ 1048576) : Calls Tryd.prog 20 #[.int .i64 x] w fun e w' => NewP x w e w' := by
  have hq : (x : Int) / 64 = ((x / 64 : Nat) : Int) := by omega
  have hn2 : 2 ≤ x / 64 := by omega
  have hn3 : x / 64 ≤ 16384 := by omega
  unfold NewP
  generalize x / 64 = n at *
  have hwr : IntKind.i64.wrap ((n : Int) * 64) = (n : Int) * 64 := by rw [Go.IntKind.wrap_i64]; omega
  have m34 : ∀ W, (Instr.makeSlice 31 (.int .i64 ((n : Int) * 64)) (.int .i64 ((n : Int) * 64))).run Tryd.prog W = .ok (.slice (some ⟨W.heap.size, 0, none⟩) (64 * n) (64 * n)) (W.alloc (.cells (madeCells #[.int .i64 0] (64 * n)) 3)) := fun W => by
    have := make34 W (64 * n) (by omega)
    rw [show ((64 * n : Nat) : Int) = (n : Int) * 64 by omega] at this
    exact this
  have m48 := fun W => make48 W n (by omega)
  have HS := hide (fun W => newSet_any n W hn3)
  have R34 := hide (fun W => Row.made W #[.int .i64 0] (64 * n) 3)
  have R48 := hide (fun W => Row.made W #[.int .i64 0, .int .u32 0] (n * 2) 90)
  generalize madeCells #[.int .i64 0] (64 * n) = Z1 at *
  generalize madeCells #[.int .i64 0, .int .u32 0] (n * 2) = Z2 at *
  go_enter Tryd.func20, Tryd.ntmps20
  go_wp2
  go_region_law (first | (go_simp; go_at_call 36; refine (unhide HS _).mono ?_; rintro e w1 ⟨g, rfl, hg, hgz, hset, hfr⟩))
  all_goals (generalize hW : World.alloc _ (Obj.cells _ 77) = W)
  all_goals first
    | (have hN : NewAt w W n (w.heap.size + 1 + 1 + 1) (w.heap.size) (w.heap.size + 1) (w.heap.size + 1 + 1) 0 (fun _ => 0) := by
        rw [← hW]
        refine NewAt.start (Row.re (Row.lit9 _ _ _ _ _ _) (by (first | rfl | (simp; done) | (simp [hgz]; done) | (simp at hg ⊢; omega) | (simp at hgz ⊢; omega) | (simp at hgz hg ⊢; omega)))) (Row.re (((Row.fr (K := fun _ => False) (unhide R34 _)) (by (repeat (first | exact Fr.refl _ _ | refine Fr.alloc ?_ _ | refine Fr.trans ?_ hfr | refine Fr.drew ?_))) id).ext fun i _ => by simp [Nat.mod_one]) (by (first | rfl | (simp; done) | (simp [hgz]; done) | (simp at hg ⊢; omega) | (simp at hgz ⊢; omega) | (simp at hgz hg ⊢; omega)))) (Row.re ((Row.fr (K := fun _ => False) (unhide R48 _)) (by (repeat (first | exact Fr.refl _ _ | refine Fr.alloc ?_ _ | refine Fr.trans ?_ hfr | refine Fr.drew ?_))) id) (by (first | rfl | (simp; done) | (simp [hgz]; done) | (simp at hg ⊢; omega) | (simp at hgz ⊢; omega) | (simp at hgz hg ⊢; omega)))) (SetAt.re (Row.fr (K := fun _ => False) hset (by (repeat (first | exact Fr.refl _ _ | refine Fr.alloc ?_ _ | refine Fr.trans ?_ hfr | refine Fr.drew ?_))) id) (by (first | rfl | (simp; done) | (simp [hgz]; done) | (simp at hg ⊢; omega) | (simp at hgz ⊢; omega) | (simp at hgz hg ⊢; omega)))) (by omega) (by omega) (by (repeat (first | exact Fr.refl _ _ | refine Fr.alloc ?_ _ | refine Fr.trans ?_ hfr | refine Fr.drew ?_))))
    | (have hN : NewAt w W n (w.heap.size + 1 + 1 + 1) (w.heap.size) (w.heap.size + 1 + 1) (w.heap.size + 1) 0 (fun _ => 0) := by
        rw [← hW]
        refine NewAt.start (Row.re (Row.lit9 _ _ _ _ _ _) (by (first | rfl | (simp; done) | (simp [hgz]; done) | (simp at hg ⊢; omega) | (simp at hgz ⊢; omega) | (simp at hgz hg ⊢; omega)))) (Row.re (((Row.fr (K := fun _ => False) (unhide R34 _)) (by (repeat (first | exact Fr.refl _ _ | refine Fr.alloc ?_ _ | refine Fr.trans ?_ hfr | refine Fr.drew ?_))) id).ext fun i _ => by simp [Nat.mod_one]) (by (first | rfl | (simp; done) | (simp [hgz]; done) | (simp at hg ⊢; omega) | (simp at hgz ⊢; omega) | (simp at hgz hg ⊢; omega)))) (Row.re ((Row.fr (K := fun _ => False) (unhide R48 _)) (by (repeat (first | exact Fr.refl _ _ | refine Fr.alloc ?_ _ | refine Fr.trans ?_ hfr | refine Fr.drew ?_))) id) (by (first | rfl | (simp; done) | (simp [hgz]; done) | (simp at hg ⊢; omega) | (simp at hgz ⊢; omega) | (simp at hgz hg ⊢; omega)))) (SetAt.re (Row.fr (K := fun _ => False) hset (by (repeat (first | exact Fr.refl _ _ | refine Fr.alloc ?_ _ | refine Fr.trans ?_ hfr | refine Fr.drew ?_))) id) (by (first | rfl | (simp; done) | (simp [hgz]; done) | (simp at hg ⊢; omega) | (simp at hgz ⊢; omega) | (simp at hgz hg ⊢; omega)))) (by omega) (by omega) (by (repeat (first | exact Fr.refl _ _ | refine Fr.alloc ?_ _ | refine Fr.trans ?_ hfr | refine Fr.drew ?_))))
    | (have hN : NewAt w W n (w.heap.size + 1 + 1 + 1) (w.heap.size + 1) (w.heap.size) (w.heap.size + 1 + 1) 0 (fun _ => 0) := by
        rw [← hW]
        refine NewAt.start (Row.re (Row.lit9 _ _ _ _ _ _) (by (first | rfl | (simp; done) | (simp [hgz]; done) | (simp at hg ⊢; omega) | (simp at hgz ⊢; omega) | (simp at hgz hg ⊢; omega)))) (Row.re (((Row.fr (K := fun _ => False) (unhide R34 _)) (by (repeat (first | exact Fr.refl _ _ | refine Fr.alloc ?_ _ | refine Fr.trans ?_ hfr | refine Fr.drew ?_))) id).ext fun i _ => by simp [Nat.mod_one]) (by (first | rfl | (simp; done) | (simp [hgz]; done) | (simp at hg ⊢; omega) | (simp at hgz ⊢; omega) | (simp at hgz hg ⊢; omega)))) (Row.re ((Row.fr (K := fun _ => False) (unhide R48 _)) (by (repeat (first | exact Fr.refl _ _ | refine Fr.alloc ?_ _ | refine Fr.trans ?_ hfr | refine Fr.drew ?_))) id) (by (first | rfl | (simp; done) | (simp [hgz]; done) | (simp at hg ⊢; omega) | (simp at hgz ⊢; omega) | (simp at hgz hg ⊢; omega)))) (SetAt.re (Row.fr (K := fun _ => False) hset (by (repeat (first | exact Fr.refl _ _ | refine Fr.alloc ?_ _ | refine Fr.trans ?_ hfr | refine Fr.drew ?_))) id) (by (first | rfl | (simp; done) | (simp [hgz]; done) | (simp at hg ⊢; omega) | (simp at hgz ⊢; omega) | (simp at hgz hg ⊢; omega)))) (by omega) (by omega) (by (repeat (first | exact Fr.refl _ _ | refine Fr.alloc ?_ _ | refine Fr.trans ?_ hfr | refine Fr.drew ?_))))
    | (have hN : NewAt w W n (w.heap.size + 1 + 1 + 1) (w.heap.size + 1) (w.heap.size + 1 + 1) (w.heap.size) 0 (fun _ => 0) := by
        rw [← hW]
        refine NewAt.start (Row.re (Row.lit9 _ _ _ _ _ _) (by (first | rfl | (simp; done) | (simp [hgz]; done) | (simp at hg ⊢; omega) | (simp at hgz ⊢; omega) | (simp at hgz hg ⊢; omega)))) (Row.re (((Row.fr (K := fun _ => False) (unhide R34 _)) (by (repeat (first | exact Fr.refl _ _ | refine Fr.alloc ?_ _ | refine Fr.trans ?_ hfr | refine Fr.drew ?_))) id).ext fun i _ => by simp [Nat.mod_one]) (by (first | rfl | (simp; done) | (simp [hgz]; done) | (simp at hg ⊢; omega) | (simp at hgz ⊢; omega) | (simp at hgz hg ⊢; omega)))) (Row.re ((Row.fr (K := fun _ => False) (unhide R48 _)) (by (repeat (first | exact Fr.refl _ _ | refine Fr.alloc ?_ _ | refine Fr.trans ?_ hfr | refine Fr.drew ?_))) id) (by (first | rfl | (simp; done) | (simp [hgz]; done) | (simp at hg ⊢; omega) | (simp at hgz ⊢; omega) | (simp at hgz hg ⊢; omega)))) (SetAt.re (Row.fr (K := fun _ => False) hset (by (repeat (first | exact Fr.refl _ _ | refine Fr.alloc ?_ _ | refine Fr.trans ?_ hfr | refine Fr.drew ?_))) id) (by (first | rfl | (simp; done) | (simp [hgz]; done) | (simp at hg ⊢; omega) | (simp at hgz ⊢; omega) | (simp at hgz hg ⊢; omega)))) (by omega) (by omega) (by (repeat (first | exact Fr.refl _ _ | refine Fr.alloc ?_ _ | refine Fr.trans ?_ hfr | refine Fr.drew ?_))))
    | (have hN : NewAt w W n (w.heap.size + 1 + 1 + 1) (w.heap.size + 1 + 1) (w.heap.size) (w.heap.size + 1) 0 (fun _ => 0) := by
        rw [← hW]
        refine NewAt.start (Row.re (Row.lit9 _ _ _ _ _ _) (by (first | rfl | (simp; done) | (simp [hgz]; done) | (simp at hg ⊢; omega) | (simp at hgz ⊢; omega) | (simp at hgz hg ⊢; omega)))) (Row.re (((Row.fr (K := fun _ => False) (unhide R34 _)) (by (repeat (first | exact Fr.refl _ _ | refine Fr.alloc ?_ _ | refine Fr.trans ?_ hfr | refine Fr.drew ?_))) id).ext fun i _ => by simp [Nat.mod_one]) (by (first | rfl | (simp; done) | (simp [hgz]; done) | (simp at hg ⊢; omega) | (simp at hgz ⊢; omega) | (simp at hgz hg ⊢; omega)))) (Row.re ((Row.fr (K := fun _ => False) (unhide R48 _)) (by (repeat (first | exact Fr.refl _ _ | refine Fr.alloc ?_ _ | refine Fr.trans ?_ hfr | refine Fr.drew ?_))) id) (by (first | rfl | (simp; done) | (simp [hgz]; done) | (simp at hg ⊢; omega) | (simp at hgz ⊢; omega) | (simp at hgz hg ⊢; omega)))) (SetAt.re (Row.fr (K := fun _ => False) hset (by (repeat (first | exact Fr.refl _ _ | refine Fr.alloc ?_ _ | refine Fr.trans ?_ hfr | refine Fr.drew ?_))) id) (by (first | rfl | (simp; done) | (simp [hgz]; done) | (simp at hg ⊢; omega) | (simp at hgz ⊢; omega) | (simp at hgz hg ⊢; omega)))) (by omega) (by omega) (by (repeat (first | exact Fr.refl _ _ | refine Fr.alloc ?_ _ | refine Fr.trans ?_ hfr | refine Fr.drew ?_))))
    | (have hN : NewAt w W n (w.heap.size + 1 + 1 + 1) (w.heap.size + 1 + 1) (w.heap.size + 1) (w.heap.size) 0 (fun _ => 0) := by
        rw [← hW]
        refine NewAt.start (Row.re (Row.lit9 _ _ _ _ _ _) (by (first | rfl | (simp; done) | (simp [hgz]; done) | (simp at hg ⊢; omega) | (simp at hgz ⊢; omega) | (simp at hgz hg ⊢; omega)))) (Row.re (((Row.fr (K := fun _ => False) (unhide R34 _)) (by (repeat (first | exact Fr.refl _ _ | refine Fr.alloc ?_ _ | refine Fr.trans ?_ hfr | refine Fr.drew ?_))) id).ext fun i _ => by simp [Nat.mod_one]) (by (first | rfl | (simp; done) | (simp [hgz]; done) | (simp at hg ⊢; omega) | (simp at hgz ⊢; omega) | (simp at hgz hg ⊢; omega)))) (Row.re ((Row.fr (K := fun _ => False) (unhide R48 _)) (by (repeat (first | exact Fr.refl _ _ | refine Fr.alloc ?_ _ | refine Fr.trans ?_ hfr | refine Fr.drew ?_))) id) (by (first | rfl | (simp; done) | (simp [hgz]; done) | (simp at hg ⊢; omega) | (simp at hgz ⊢; omega) | (simp at hgz hg ⊢; omega)))) (SetAt.re (Row.fr (K := fun _ => False) hset (by (repeat (first | exact Fr.refl _ _ | refine Fr.alloc ?_ _ | refine Fr.trans ?_ hfr | refine Fr.drew ?_))) id) (by (first | rfl | (simp; done) | (simp [hgz]; done) | (simp at hg ⊢; omega) | (simp at hgz ⊢; omega) | (simp at hgz hg ⊢; omega)))) (by omega) (by omega) (by (repeat (first | exact Fr.refl _ _ | refine Fr.alloc ?_ _ | refine Fr.trans ?_ hfr | refine Fr.drew ?_))))
  all_goals clear hW hset hg hgz hfr
  all_goals (have hX : ∃ bw bs bf, NewAt w W n (w.heap.size + 1 + 1 + 1) bw bs bf 0 (fun _ => 0) := ⟨_, _, _, hN⟩)
  all_goals clear hN m34 m48 R34 R48
  all_goals (obtain ⟨bw, bs, bf, hN⟩ := hX)
  all_goals (have HN := hide hN; clear hN)
  all_goals
    go_wp2
    go_loopw [24] (fun i wr => ∃ c : Nat, c ≤ 6 ∧ i = .int .i64 c ∧ ∃ bo, Hid (NewAt w wr n (w.heap.size + 1 + 1 + 1) bw bs bf c bo)) (fun i _ => 6 - (intOf i).toNat)
    case atStart => exact ⟨0, by omega, rfl, _, HN⟩
    case round =>
      obtain ⟨c, hc, rfl, bo, hL⟩ := hrel
      by_cases hlt : c < 6
      · go_wp2
        go_region_law (first | (go_simp; go_at_call 36; refine (unhide HS _).mono ?_; rintro e w1 ⟨g, rfl, hg, hgz, hset, hfr⟩; have hL1 := ((unhide hL).quiet (Fr.drew (Fr.refl _ _))).quiet hfr; have cc := (hL1.st (3 + c) (by omega)).1; have ff := (hL1.st (3 + c) (by omega)).2; clear hL1))
        all_goals (try go_wp2)
        all_goals go_roundw
        case rel => exact ⟨c + 1, by omega, by go_num, _, hide ((unhide hL).step hn2 hlt rfl ((Fr.drew (Fr.refl _ _)).trans hfr) (SetAt.re hset hg.symm))⟩
        case measure => simp [intOf]; omega
      · have e6 : c = 6 := by omega
        subst e6
        have hA := (unhide hL).at hn2 hn3
        have hlo := (unhide hL).lo
        have HF := hide (unhide hL).far
        have HA := hide hA
        have HLo : Hid (∀ k, HB.mem ⟨w.heap.size + 1 + 1 + 1, bw, bs, bf, bo⟩ k → w.heap.size ≤ k) := by
          refine hide fun k hk => ?_
          obtain ⟨l1, l2, l3, l4, l5⟩ := hlo
          rcases hk with rfl | rfl | rfl | rfl | ⟨d, hd, rfl⟩
          · exact l1
          · exact l2
          · exact l3
          · exact l4
          · exact l5 d hd
        clear hA hlo hL
        go_wp2
        go_loopw [6] (fun i wr => ∃ s : Nat, 1 ≤ s ∧ s ≤ n ∧ i = .int .i64 s ∧ Hid (At wr ⟨w.heap.size + 1 + 1 + 1, bw, bs, bf, bo⟩ n (zeroR s)) ∧ Hid (Fr (fun _ => False) w wr)) (fun i _ => n - (intOf i).toNat)
        case atStart => exact ⟨1, by omega, by omega, rfl, HA, HF⟩
        case round =>
          obtain ⟨s, hs1, hs2, rfl, hA, hF⟩ := hrel
          by_cases hlt : s < n
          · have c2 := (unhide hA).c2
            have HC := hide (add_any bf (setM n) s _ wr (setM_le hn3) (setM_lt hlt) (unhide hA).fr)
            go_wp2_with (first | (go_at_call 37; refine (unhide HC).mono ?_; rintro e w' ⟨rfl, hs', hw'⟩))
            go_roundw
            case rel =>
              refine ⟨_, _, _, _, _, _, _, _, _, _, _, _, ?_, rfl⟩
              refine ⟨s + 1, by omega, by omega, by go_num, hide ?_, hide ((unhide hF).up hw' (fun b hb => by rw [hb]; exact unhide HLo _ (.inr (.inr (.inr (.inl rfl))))))⟩
              have := (unhide hA).setF hw' hs'
              unfold zeroR at this ⊢
              simp only at this
              rw [cutF_step _ _ _ _ hs1] at this
              exact this
            case measure => simp [intOf]; omega
          · have e : s = n := by omega
            subst e
            go_wp2
            go_ret
            exact ⟨⟨w.heap.size + 1 + 1 + 1, bw, bs, bf, bo⟩, rfl, unhide HLo, unhide hF, zeroR_done (unhide hA)⟩
end Go.Proofs.YtjblmincldaklaaDoor
namespace Go.Proofs.YtjblmincldaklaaDoor
open Go.RowKit Go.Proofs.YtjblmincldaklaaDoor.Hp
theorem opK_of {A : Nat → Kd} {s c u : Nat} (e : A s = .cls c u) (hn : u ≠ fullC c) : opK c (A s) = true := by rw [e]; simp [opK, hn]
theorem Goes.det {n : Nat} {A A1 A2 : Nat → Kd} {m a b : Nat} (g : Goes n A m a A1) (h : Goes n A m b A2) : a = b ∧ A1 = A2 := by
  cases g with
  | op s u hm hs e hn hl =>
    cases h with
    | op s' u' hm' hs' e' hn' hl' =>
      have : s = s' := by
        rcases Nat.lt_trichotomy s s' with h | h | h
        · have := hl' s h; rw [opK_of e hn] at this; cases this
        · exact h
        · have := hl s' h; rw [opK_of e' hn'] at this; cases this
      subst this
      rw [e] at e'; cases e'
      exact ⟨rfl, rfl⟩
    | free s' hm' hs' e' hl' hn' => have := hn' s; rw [opK_of e hn] at this; cases this
    | row f k hm' hk hf e' hl' => omega
  | free s hm hs e hl hn =>
    cases h with
    | op s' u' hm' hs' e' hn' hl' => have := hn s'; rw [opK_of e' hn'] at this; cases this
    | free s' hm' hs' e' hl' hn' =>
      have : s = s' := by
        rcases Nat.lt_trichotomy s s' with h | h | h
        · exact absurd e (hl' s h)
        · exact h
        · exact absurd e' (hl s' h)
      subst this
      exact ⟨rfl, rfl⟩
    | row f k hm' hk hf e' hl' => omega
  | row f k hm hk hf e hl =>
    cases h with
    | op s' u' hm' hs' e' hn' hl' => omega
    | free s' hm' hs' e' hl' hn' => omega
    | row f' k' hm' hk' hf' e' hl' =>
      have hkk : k = k' := by omega
      subst hkk
      have : f = f' := by
        rcases Nat.lt_trichotomy f f' with h | h | h
        · obtain ⟨t, a, b, c⟩ := hl' f h; exact absurd (e t a b) c
        · exact h
        · obtain ⟨t, a, b, c⟩ := hl f' h; exact absurd (e' t a b) c
      subst this
      exact ⟨rfl, rfl⟩
theorem Goes.not {n : Nat} {A A1 : Nat → Kd} {m a : Nat} (g : Goes n A m a A1) : ¬ NoPlace n A m := by
  intro h
  cases g with
  | op s u hm hs e hn hl =>
    rcases h with ⟨_, h1, _⟩ | ⟨h1, _⟩
    · have := h1 s; rw [opK_of e hn] at this; cases this
    · omega
  | free s hm hs e hl hn =>
    rcases h with ⟨_, _, h2⟩ | ⟨h1, _⟩
    · exact h2 s e
    · omega
  | row f k hm hk hf e hl =>
    rcases h with ⟨h1, _⟩ | ⟨_, h2⟩
    · omega
    · subst hk
      obtain ⟨t, a, b, c⟩ := h2 f hf
      exact c (e t a b)
/-- How many of the q places of span s are taken when the first k are. -/
def takenQ (q k s : Nat) : Nat := min (k - q * (s - 1)) q
theorem tq_low {q d e s : Nat} (h : 1 ≤ s) (hs : s ≤ d) : takenQ q (q * d + e) s = q := by
  unfold takenQ
  have h2 : q * s ≤ q * d := Nat.mul_le_mul_left q hs
  have h3 : q * (s - 1) + q = q * s := by rw [← Nat.mul_succ]; congr 1; omega
  omega
theorem tq_at {q d e : Nat} (he : e < q) : takenQ q (q * d + e) (d + 1) = e := by
  unfold takenQ
  rw [Nat.add_sub_cancel]
  omega
theorem tq_past {q d e s : Nat} (he : e ≤ q) (hs : d + 1 < s) : takenQ q (q * d + e) s = 0 := by
  unfold takenQ
  have h2 : q * (d + 1) ≤ q * (s - 1) := Nat.mul_le_mul_left q (by omega)
  rw [Nat.mul_succ] at h2
  omega
theorem tq_next {q d e s : Nat} (he : e < q) (h : 1 ≤ s) : takenQ q (q * d + e + 1) s = if s = d + 1 then e + 1 else takenQ q (q * d + e) s := by
  by_cases e1 : s = d + 1
  · rw [if_pos e1]
    subst e1
    unfold takenQ
    rw [Nat.add_sub_cancel]
    omega
  · rw [if_neg e1]
    rcases Nat.lt_or_gt_of_ne e1 with h1 | h1
    · rw [tq_low h (by omega), Nat.add_assoc, tq_low h (by omega)]
    · rw [tq_past (by omega) h1, Nat.add_assoc, tq_past (by omega) h1]
def fillA (n c k : Nat) : Nat → Kd := fun s => if 1 ≤ s ∧ s < n then (if takenQ (2 ^ (5 - c)) k s = 0 then .free else .cls c (2 ^ takenQ (2 ^ (5 - c)) k s - 1)) else .tail
theorem low_ones {j : Nat} (hj : j < 32) : lowP (2 ^ j - 1) = j := by
  have hp : 2 ^ j ≤ 2 ^ 31 := Nat.pow_le_pow_right (by decide) (by omega)
  have h := lowP_spec (u := 2 ^ j - 1) (by omega)
  rcases Nat.lt_trichotomy (lowP (2 ^ j - 1)) j with h1 | h1 | h1
  · have := h.1
    rw [Nat.testBit_two_pow_sub_one, decide_eq_true h1] at this; cases this
  · exact h1
  · have := h.2.1 j h1
    rw [Nat.testBit_two_pow_sub_one, decide_eq_false (by omega)] at this; cases this
theorem ones_or (j : Nat) : (2 ^ j - 1) ||| 2 ^ j = 2 ^ (j + 1) - 1 := by
  apply Nat.eq_of_testBit_eq
  intro i
  rw [Nat.testBit_or, Nat.testBit_two_pow_sub_one, Nat.testBit_two_pow_sub_one, Nat.testBit_two_pow]
  by_cases h1 : i < j
  · simp [h1]; omega
  · by_cases h2 : j = i
    · subst h2; simp
    · simp [h1, h2]; omega
/-- The next block of the class goes to the next place. -/
theorem fill_goes {n m k : Nat} (hm : m ≤ 64) (hk : k < 2 ^ (5 - clOf m) * (n - 1)) : Goes n (fillA n (clOf m) k) m (64 + k * 2 ^ (clOf m + 1)) (fillA n (clOf m) (k + 1)) := by
  have hc := clOf_lt m
  have hq : 0 < 2 ^ (5 - clOf m) := Nat.pow_pos (by decide)
  have h64 : 2 ^ (5 - clOf m) * 2 ^ (clOf m + 1) = 64 := by rcases c6 hc with h | h | h | h | h | h <;> rw [h]
  obtain ⟨d, e, rfl, he⟩ : ∃ d e, k = 2 ^ (5 - clOf m) * d + e ∧ e < 2 ^ (5 - clOf m) := ⟨_, _, (Nat.div_add_mod k _).symm, Nat.mod_lt k hq⟩
  have hsn : d + 1 < n := by
    have h1 : 2 ^ (5 - clOf m) * d < 2 ^ (5 - clOf m) * (n - 1) := by omega
    have := Nat.lt_of_mul_lt_mul_left h1
    omega
  have hq32 := places_le hc
  have hlow : ∀ t, 1 ≤ t → t < d + 1 → fillA n (clOf m) (2 ^ (5 - clOf m) * d + e) t = .cls (clOf m) (fullC (clOf m)) := by
    intro t h1 h2
    unfold fillA
    rw [if_pos ⟨h1, by omega⟩, tq_low h1 (by omega), if_neg (by omega)]
    rfl
  have hat : fillA n (clOf m) (2 ^ (5 - clOf m) * d + e) (d + 1) = if e = 0 then .free else .cls (clOf m) (2 ^ e - 1) := by
    unfold fillA
    rw [if_pos ⟨by omega, hsn⟩, tq_at he]
  have hnext : fillA n (clOf m) (2 ^ (5 - clOf m) * d + e + 1) = upd (fillA n (clOf m) (2 ^ (5 - clOf m) * d + e)) (d + 1) (.cls (clOf m) (2 ^ (e + 1) - 1)) := by
    funext t
    by_cases e1 : t = d + 1
    · rw [e1, upd_same]
      unfold fillA
      rw [if_pos ⟨by omega, hsn⟩, tq_next he (by omega), if_pos rfl, if_neg (by omega)]
    · rw [upd_ne _ _ e1]
      unfold fillA
      by_cases h1 : 1 ≤ t ∧ t < n
      · rw [if_pos h1, if_pos h1, tq_next he h1.1, if_neg e1]
      · rw [if_neg h1, if_neg h1]
  have hadr : 64 + (2 ^ (5 - clOf m) * d + e) * 2 ^ (clOf m + 1) = (d + 1) * 64 + e * 2 ^ (clOf m + 1) := by
    rw [Nat.add_mul, Nat.mul_right_comm, h64]
    omega
  have hzero : fillA n (clOf m) (2 ^ (5 - clOf m) * d + e) 0 = .tail := by unfold fillA; rw [if_neg (by omega)]
  by_cases hz : e = 0
  · rw [if_pos hz] at hat
    rw [hadr, hnext]
    subst hz
    rw [show (d + 1) * 64 + 0 * 2 ^ (clOf m + 1) = (d + 1) * 64 by rw [Nat.zero_mul, Nat.add_zero]]
    refine Goes.free _ hm hsn hat (fun t ht => ?_) (fun t => ?_)
    · by_cases h0 : t = 0
      · subst h0; rw [hzero]; simp
      · rw [hlow t (by omega) ht]; simp
    · by_cases h0 : t = 0
      · subst h0; rw [hzero]; rfl
      · by_cases h1 : t < d + 1
        · rw [hlow t (by omega) h1]; simp [opK]
        · by_cases h2 : t = d + 1
          · rw [h2, hat]; rfl
          · unfold fillA
            rw [tq_past (by omega) (by omega), if_pos rfl]
            split <;> rfl
  · rw [if_neg hz] at hat
    rw [hadr, hnext]
    have hl := low_ones (j := e) (by omega)
    have hne : 2 ^ e - 1 ≠ fullC (clOf m) := by
      unfold fullC
      have h1 : 2 ^ e < 2 ^ 2 ^ (5 - clOf m) := Nat.pow_lt_pow_right (by decide) he
      have h2 : 0 < 2 ^ e := Nat.pow_pos (by decide)
      omega
    have := Goes.op (n := n) (A := fillA n (clOf m) (2 ^ (5 - clOf m) * d + e)) (m := m) _ _ hm hsn hat hne (fun t ht => by
      by_cases h0 : t = 0
      · subst h0; rw [hzero]; rfl
      · rw [hlow t (by omega) ht]; simp [opK])
    rw [hl, ones_or] at this
    exact this
/-- Behind the n-th block a span is free as long as there are more spans than blocks. -/
theorem fill_free {n c k s : Nat} (hs : k < s) (hn : s < n) : fillA n c k s = .free := by
  unfold fillA
  have : takenQ (2 ^ (5 - c)) k s = 0 := by
    unfold takenQ
    have hq : 1 ≤ 2 ^ (5 - c) := Nat.pow_pos (by decide)
    have : 1 * (s - 1) ≤ 2 ^ (5 - c) * (s - 1) := Nat.mul_le_mul_right _ hq
    omega
  rw [if_pos ⟨by omega, hn⟩, if_pos this]
end Go.Proofs.YtjblmincldaklaaDoor
namespace Go.Proofs.YtjblmincldaklaaDoor
open Go.RowKit Go.Proofs.YtjblmincldaklaaDoor.Hp
set_option maxHeartbeats 1000000 in
theorem New_none (x : Int) (w : World) (h : x < 128) : Calls Tryd.prog 20 #[.int .i64 x] w fun e w' => e = .returned (.pointer none) ∧ w' = w := by
  go_enter Tryd.func20, Tryd.ntmps20
  go_wp2
  go_ret
  exact ⟨rfl, rfl⟩
theorem Vars.size {w : World} (h : Vars w) : 2 ≤ w.heap.size := World.block_lt_of_cell? w ⟨1, 0, none⟩ (h.t64 0 (by decide))
/-- An allocation whose place is known. -/
theorem Alloc_to (B : HB) (n : Nat) (A : Nat → Kd) (wd : Nat → Int) (m : Nat) (w : World) (h : At w B n (hrOf A wd)) (hI : Inv n A) (hV : Vars w) (h0 : ∀ k, B.mem k → 2 ≤ k) (hm : 1 ≤ m) (hm2 : m ≤ 16448) {a : Nat} {A' : Nat → Kd} (g : Goes n A m a A') :
    Calls Tryd.prog 27 #[B.ptr, .int .i64 m] w fun e w' => e = .returned (.tuple #[.int .i64 (a : Int), .bool true]) ∧ Fr B.mem w w' ∧ Vars w' ∧ Inv n A' ∧ At w' B n (hrOf A' (clearW wd a (roomOfM m))) := by
  have h00 : ¬ B.mem 0 := fun x => by have := h0 0 x; omega
  have h01 : ¬ B.mem 1 := fun x => by have := h0 1 x; omega
  refine (Alloc_any B n A wd (m : Int) w h hI hV h00 h01).mono ?_
  rintro e w' ⟨hF, ⟨a', A1, _, _, g', rfl, hA⟩ | ⟨hn, rfl, hA⟩⟩
  · obtain ⟨rfl, rfl⟩ := g.det g'
    exact ⟨rfl, hF, hV.fr hF h00 h01, g.inv hI hm2, hA⟩
  · rcases hn with hn | hn | hn
    · omega
    · omega
    · exact absurd hn g.not
theorem Alloc_no (B : HB) (n : Nat) (A : Nat → Kd) (wd : Nat → Int) (m : Nat) (w : World) (h : At w B n (hrOf A wd)) (hI : Inv n A) (hV : Vars w) (h0 : ∀ k, B.mem k → 2 ≤ k) (g : NoPlace n A m) :
    Calls Tryd.prog 27 #[B.ptr, .int .i64 m] w fun e w' => e = .returned (.tuple #[.int .i64 0, .bool false]) ∧ Fr B.mem w w' ∧ Vars w' ∧ At w' B n (hrOf A wd) := by
  have h00 : ¬ B.mem 0 := fun x => by have := h0 0 x; omega
  have h01 : ¬ B.mem 1 := fun x => by have := h0 1 x; omega
  refine (Alloc_any B n A wd (m : Int) w h hI hV h00 h01).mono ?_
  rintro e w' ⟨hF, ⟨a', A1, _, _, g', rfl, hA⟩ | ⟨hn, rfl, hA⟩⟩
  · exact absurd g g'.not
  · exact ⟨rfl, hF, hV.fr hF h00 h01, hA⟩
theorem Free_to (B : HB) (n : Nat) (A : Nat → Kd) (wd : Nat → Int) (x : Nat) (w : World) (h : At w B n (hrOf A wd)) (hI : Inv n A) (hV : Vars w) (h0 : ∀ k, B.mem k → 2 ≤ k) (hx : roomN A x ≠ 0) :
    Calls Tryd.prog 47 #[B.ptr, .int .i64 x] w fun e w' => e = .returned (.bool true) ∧ Fr B.mem w w' ∧ Vars w' ∧ Inv n (freeA A x) ∧ At w' B n (hrOf (freeA A x) wd) := by
  have h00 : ¬ B.mem 0 := fun x => by have := h0 0 x; omega
  have h01 : ¬ B.mem 1 := fun x => by have := h0 1 x; omega
  have hr : roomI A (x : Int) = roomN A x := by unfold roomI; rw [if_pos (by omega)]; rfl
  refine (Free_any B n A wd (x : Int) w h hI).mono ?_
  rintro e w' ⟨rfl, hF, hA⟩
  refine ⟨ret_bool (by rw [hr]; simp [hx]), hF, hV.fr hF h00 h01, hI.freed hx, ?_⟩
  unfold freeI at hA
  rw [hr, if_neg hx] at hA
  exact hA
end Go.Proofs.YtjblmincldaklaaDoor
namespace Go.Proofs.YtjblmincldaklaaDoor
open Go.RowKit Go.Proofs.YtjblmincldaklaaDoor.Hp
theorem fill_empty (n c : Nat) : fillA n c 0 = emptyA n := by
  funext s
  unfold fillA emptyA
  split
  · rw [if_pos (by simp [takenQ])]
  · rfl
theorem fill_inv {n m : Nat} (hm : m ≤ 64) : ∀ k, k ≤ 2 ^ (5 - clOf m) * (n - 1) → Inv n (fillA n (clOf m) k)
  | 0, _ => by rw [fill_empty]; exact emptyA_inv n
  | k + 1, hk => (fill_goes (n := n) hm (by omega)).inv (fill_inv hm k (by omega)) (by omega)
theorem fill_rooms {n m : Nat} (hm : m ≤ 64) : ∀ k, k ≤ 2 ^ (5 - clOf m) * (n - 1) → (∀ j, j < k → roomN (fillA n (clOf m) k) (64 + j * 2 ^ (clOf m + 1)) = 2 ^ (clOf m + 1)) ∧ ∀ x, roomN (fillA n (clOf m) k) x ≠ 0 → ∃ j, j < k ∧ x = 64 + j * 2 ^ (clOf m + 1)
  | 0, _ => by
    refine ⟨fun j hj => by omega, fun x hx => absurd ?_ hx⟩
    rw [fill_empty]
    unfold roomN emptyA
    split <;> rfl
  | k + 1, hk => by
    obtain ⟨h1, h2⟩ := fill_rooms (n := n) hm k (by omega)
    have hr := (room_goes (fill_inv (n := n) hm k (by omega)) (fill_goes (n := n) hm (by omega : k < 2 ^ (5 - clOf m) * (n - 1)))).2
    have hR : roomOfM m = 2 ^ (clOf m + 1) := by unfold roomOfM; rw [if_pos hm]
    rw [hR] at hr
    have hp : 0 < 2 ^ (clOf m + 1) := Nat.pow_pos (by decide)
    refine ⟨fun j hj => ?_, fun x hx => ?_⟩
    · rw [hr]
      by_cases e : j = k
      · subst e; rw [if_pos rfl]
      · rw [if_neg, h1 j (by omega)]
        intro h
        have := Nat.eq_of_mul_eq_mul_right hp (by omega : j * 2 ^ (clOf m + 1) = k * 2 ^ (clOf m + 1))
        exact e this
    · rw [hr] at hx
      by_cases e : x = 64 + k * 2 ^ (clOf m + 1)
      · exact ⟨k, by omega, e⟩
      · rw [if_neg e] at hx
        obtain ⟨j, hj, e⟩ := h2 x hx
        exact ⟨j, by omega, e⟩
/-- Where no block is, every span is free. -/
theorem all_free {n : Nat} {A : Nat → Kd} (h : Inv n A) (hz : ∀ x, roomN A x = 0) : ∀ t, 1 ≤ t → t < n → A t = .free := by
  have hh : ∀ s k, A s ≠ .head k := fun s k e => by
    have h1 := hz (s * 64)
    have h2 := (h.head s k e).1
    unfold roomN at h1
    rw [show s * 64 / 64 = s by omega, show s * 64 % 64 = 0 by omega, e] at h1
    simp [roomK] at h1
    omega
  intro t h1 h2
  cases e : A t with
  | free => rfl
  | tail =>
    obtain ⟨x, k, e1, _⟩ := h.tail t h1 h2 e
    exact absurd e1 (hh x k)
  | head k => exact absurd e (hh t k)
  | cls c u =>
    obtain ⟨hc, hu, hu2⟩ := h.cls t c u e
    obtain ⟨j, hj⟩ := Nat.exists_testBit_of_ne_zero (Nat.pos_iff_ne_zero.1 hu)
    have hjq : j < 2 ^ (5 - c) := by
      apply Nat.lt_of_not_le
      intro hle
      have h0 : 0 < 2 ^ 2 ^ (5 - c) := Nat.pow_pos (by decide)
      have : u < 2 ^ j := Nat.lt_of_lt_of_le (show u < 2 ^ 2 ^ (5 - c) by unfold fullC at hu2; omega) (Nat.pow_le_pow_right (by decide) hle)
      rw [Nat.testBit_lt_two_pow this] at hj; cases hj
    have hp : 0 < 2 ^ (c + 1) := Nat.pow_pos (by decide)
    have ho : j * 2 ^ (c + 1) < 64 := by
      rcases c6 hc with rfl | rfl | rfl | rfl | rfl | rfl <;> simp at hjq ⊢ <;> omega
    have h3 := hz (t * 64 + j * 2 ^ (c + 1))
    unfold roomN at h3
    rw [show (t * 64 + j * 2 ^ (c + 1)) / 64 = t by omega, show (t * 64 + j * 2 ^ (c + 1)) % 64 = j * 2 ^ (c + 1) by omega, e] at h3
    simp only [roomK] at h3
    rw [Nat.mul_mod_left, Nat.mul_div_cancel _ hp, hj, if_pos ⟨rfl, rfl⟩] at h3
    omega
theorem free_stays {A : Nat → Kd} {x t : Nat} (h : A t = .free) : freeA A x t = .free := by
  cases e : A (x / 64) with
  | free => unfold freeA; rw [e]; exact h
  | tail => unfold freeA; rw [e]; exact h
  | cls c u =>
    rw [freeA_cls e]
    split
    · unfold upd; split <;> first | rfl | exact h
    · rw [upd_ne _ _ (fun e1 => by subst e1; rw [e] at h; cases h)]; exact h
  | head k =>
    rw [freeA_head e]
    dsimp only
    split <;> first | rfl | exact h
/-- Of the first n places those of gone are free again. -/
structure Reu (n r : Nat) (ad : Nat → Nat) (gone : Nat → Bool) (A : Nat → Kd) : Prop where
  inv : Inv 256 A
  at_ : ∀ j, j < n → roomN A (ad j) = if gone j then 0 else r
  only : ∀ x, roomN A x ≠ 0 → ∃ j, j < n ∧ x = ad j
  sp : A 201 = .free
theorem Reu.step {n r : Nat} {ad : Nat → Nat} {gone : Nat → Bool} {A : Nat → Kd} (h : Reu n r ad gone A) (hinj : ∀ i j, ad i = ad j → i = j) {k : Nat} (hk : k < n) (hr : 0 < r) (hg : gone k = false) : roomN A (ad k) ≠ 0 ∧ Reu n r ad (upd gone k true) (freeA A (ad k)) := by
  have hz : roomN A (ad k) ≠ 0 := by rw [h.at_ k hk, hg]; simp; omega
  have hrf := room_freed h.inv hz
  refine ⟨hz, h.inv.freed hz, fun j hj => ?_, fun x hx => ?_, free_stays h.sp⟩
  · rw [hrf]
    by_cases e : j = k
    · subst e; rw [if_pos rfl, upd_same]; rfl
    · rw [if_neg (fun e1 => e (hinj _ _ e1)), upd_ne _ _ e]; exact h.at_ j hj
  · rw [hrf] at hx
    by_cases e : x = ad k
    · exact ⟨k, hk, e⟩
    · rw [if_neg e] at hx; exact h.only x hx
/-- A place is always found; if all is gone, it is the first one. -/
theorem Reu.place {n r : Nat} {ad : Nat → Nat} {gone : Nat → Bool} {A : Nat → Kd} (h : Reu n r ad gone A) {m : Nat} (hm : m ≤ 64) : ¬ NoPlace 256 A m := by
  rintro (⟨_, _, h2⟩ | ⟨h1, _⟩)
  · exact h2 201 h.sp
  · omega
theorem Reu.all {n r : Nat} {ad : Nat → Nat} {gone : Nat → Bool} {A A' : Nat → Kd} (h : Reu n r ad gone A) (hg : ∀ j, j < n → gone j = true) {m a : Nat} (hm : m ≤ 64) (g : Goes 256 A m a A') : a = 64 := by
  have hz : ∀ x, roomN A x = 0 := fun x => by
    by_cases hx : roomN A x = 0
    · exact hx
    · obtain ⟨j, hj, e⟩ := h.only x hx
      rw [e, h.at_ j hj, hg j hj] at hx
      exact absurd rfl hx
  have hf := all_free h.inv hz
  cases g with
  | op s u hm hs e hn hl =>
    by_cases h0 : s = 0
    · subst h0; rw [h.inv.zero] at e; cases e
    · rw [hf s (by omega) hs] at e; cases e
  | free s hm hs e hl hn =>
    by_cases h1 : s = 1
    · rw [h1]
    · have : s ≠ 0 := by rintro rfl; rw [h.inv.zero] at e; cases e
      exact absurd (hf 1 (by omega) (by omega)) (hl 1 (by omega))
  | row f k hm hk hf e hl => omega
theorem Reu.last {n r : Nat} {ad : Nat → Nat} {gone : Nat → Bool} {A A' : Nat → Kd} (h : Reu n r ad gone A) {m a l : Nat} (g : Goes 256 A m a A') (hl : l < n) (hg : gone l = true) : a = ad l ∨ roomN A' (ad l) = 0 := by
  by_cases e : ad l = a
  · exact .inl e.symm
  · right
    rw [(room_goes h.inv g).2, if_neg e, h.at_ l hl, hg]; rfl
theorem Reu.start {m n : Nat} {ad : Nat → Nat} (hm : m ≤ 64) (hn : n ≤ 200) (had : ∀ j, ad j = 64 + j * 2 ^ (clOf m + 1)) : Reu n (2 ^ (clOf m + 1)) ad (fun _ => false) (fillA 256 (clOf m) n) := by
  have hq : 1 ≤ 2 ^ (5 - clOf m) := Nat.pow_pos (by decide)
  have hk : n ≤ 2 ^ (5 - clOf m) * (256 - 1) := by
    have : 1 * (256 - 1) ≤ 2 ^ (5 - clOf m) * (256 - 1) := Nat.mul_le_mul_right _ hq
    omega
  obtain ⟨h1, h2⟩ := fill_rooms (n := 256) hm n hk
  refine ⟨fill_inv hm n hk, fun j hj => by rw [had, h1 j hj]; rfl, fun x hx => ?_, fill_free (by omega) (by omega)⟩
  obtain ⟨j, hj, e⟩ := h2 x hx
  exact ⟨j, hj, by rw [had]; exact e⟩
end Go.Proofs.YtjblmincldaklaaDoor
namespace Go.Proofs.YtjblmincldaklaaDoor
open Go.RowKit Go.Proofs.YtjblmincldaklaaDoor.Hp
theorem own_blk {w w' : World} {base e size n : Nat} {v : Value} {xs : List Value} (h : w.ownsRow base e size v n xs) (hb : ∀ g, v.ownBlock = some g → w'.heap[g]? = w.heap[g]?) : w'.ownsRow base e size v n xs := by
  refine ⟨h.1, ?_⟩
  rcases h.2 with h2 | ⟨g, cap, cur, rfl, h3, h4, h5⟩
  · exact .inl h2
  · exact .inr ⟨g, cap, cur, rfl, h3, (hb g rfl).trans h4, h5⟩
theorem own_fr {w w' : World} {K : Nat → Prop} {base e size n : Nat} {v : Value} {xs : List Value} (h : w.ownsRow base e size v n xs) (k : Fr K w w') (hb : ∀ j, K j → j < base) : w'.ownsRow base e size v n xs :=
  own_blk h fun g hg => k.block g (h.lt g hg).2 fun x => by have := hb g x; have := (h.lt g hg).1; omega
theorem own_form {w : World} {base e size n : Nat} {v : Value} {xs : List Value} (h : w.ownsRow base e size v n xs) : ∃ ao cp, v = .slice ao n cp ∧ (0 < n → ∃ g, ao = some ⟨g, 0, none⟩) := by
  rcases h.2 with ⟨h2, h3⟩ | ⟨g, cap, cur, h2, _⟩
  · exact ⟨none, 0, by rw [h2, h3], fun hn => by omega⟩
  · exact ⟨_, cap, h2, fun _ => ⟨g, rfl⟩⟩
theorem Fr.grown {w w' : World} {row : Option Nat} (h : w.grownBy w' row) : Fr (fun k => some k = row) w w' := ⟨h.os, h.tape, h.output, h.size, fun k hk hn => h.block k hk hn⟩
def adL (ad : Nat → Nat) (k : Nat) : List Value := (List.range k).map fun j => .int .i64 (ad j)
theorem adL_len (ad : Nat → Nat) (k : Nat) : (adL ad k).length = k := by simp [adL]
theorem adL_succ (ad : Nat → Nat) (k : Nat) : adL ad k ++ [.int .i64 (ad k)] = adL ad (k + 1) := by simp [adL, List.range_succ]
theorem adL_get (ad : Nat → Nat) {j k : Nat} (h : j < k) : (adL ad k)[j]? = some (.int .i64 (ad j)) := by simp [adL, h]
/-- Addresses in a slice of the law's own, beside the heap. -/
structure L1 (w0 w : World) (B : HB) (base n : Nat) (ad : Nat → Nat) (A : Nat → Kd) (k : Nat) (v : Value) : Prop where
  own : w.ownsRow base 3 1 v k (adL ad k)
  hp : ∃ wd, At w B n (hrOf A wd)
  far : Fr (fun _ => False) w0 w
  vars : Vars w
  le : base ≤ w.heap.size
theorem L1.heap {w0 w w' : World} {B : HB} {base n k : Nat} {ad : Nat → Nat} {A A' : Nat → Kd} {v : Value} (h : L1 w0 w B base n ad A k v) (hB : ∀ j, B.mem j → w0.heap.size ≤ j ∧ j < base) (hF : Fr B.mem w w') (hV : Vars w') {wd : Nat → Int} (hA : At w' B n (hrOf A' wd)) : L1 w0 w' B base n ad A' k v :=
  ⟨own_fr h.own hF (fun j hj => (hB j hj).2), ⟨wd, hA⟩, h.far.up hF (fun j hj => (hB j hj).1), hV, Nat.le_trans h.le hF.size⟩
theorem L1.push {w0 w w1 : World} {B : HB} {base n k : Nat} {ad : Nat → Nat} {A : Nat → Kd} {v v' : Value} (h : L1 w0 w B base n ad A k v) (hB : ∀ j, B.mem j → w0.heap.size ≤ j ∧ j < base) (h2 : 2 ≤ w0.heap.size) (hb : w0.heap.size ≤ base) (o : Obj)
    (ho : w1.ownsRow base 3 1 v' (k + 1) (adL ad k ++ [.int .i64 (ad k)])) (hg : (w.alloc o).grownBy w1 v.ownBlock) : L1 w0 w1 B base n ad A (k + 1) v' := by
  have hlt : ∀ g, v.ownBlock = some g → base ≤ g := fun g hg => (h.own.lt g hg).1
  have hF : Fr (fun j => some j = v.ownBlock) w w1 := ((Fr.refl _ w).alloc o).trans (Fr.grown hg)
  have hn : ∀ j, j < base → ¬ (some j = v.ownBlock) := fun j hj e => by have := hlt j e.symm; omega
  obtain ⟨wd, hA⟩ := h.hp
  refine ⟨by rw [← adL_succ]; exact ho, ⟨wd, hA.fr' hF fun b hb' => hn b (hB b hb').2⟩, h.far.up hF (fun j hj => Nat.le_trans hb (hlt j hj.symm)), h.vars.fr hF (hn 0 (by omega)) (hn 1 (by omega)), Nat.le_trans h.le hF.size⟩
theorem L1.cell {w0 w : World} {B : HB} {base n k g cp : Nat} {ad : Nat → Nat} {A : Nat → Kd} (h : L1 w0 w B base n ad A k (.slice (some ⟨g, 0, none⟩) k cp)) {j : Nat} (hj : j < k) : w.cell? ⟨g, j, none⟩ = some (.int .i64 (ad j)) := by
  rw [h.own.cellAt j (by omega), adL_get ad hj]
theorem L1.quiet {w0 w w' : World} {B : HB} {base n k : Nat} {ad : Nat → Nat} {A : Nat → Kd} {v : Value} (h : L1 w0 w B base n ad A k v) (hF : Fr (fun _ => False) w w') : L1 w0 w' B base n ad A k v := by
  obtain ⟨wd, hA⟩ := h.hp
  exact ⟨own_fr h.own hF (fun j hj => hj.elim), ⟨wd, hA.quiet hF⟩, h.far.trans hF, h.vars.fr hF id id, Nat.le_trans h.le hF.size⟩
theorem L1.beside {w0 w w' : World} {B : HB} {base n k gb : Nat} {ad : Nat → Nat} {A : Nat → Kd} {v : Value} (h : L1 w0 w B base n ad A k v) (hB : ∀ j, B.mem j → w0.heap.size ≤ j ∧ j < base) (h2 : 2 ≤ w0.heap.size) (hb : w0.heap.size ≤ base) (hg : base ≤ gb) (hn : v.ownBlock ≠ some gb) (hF : Fr (· = gb) w w') : L1 w0 w' B base n ad A k v := by
  obtain ⟨wd, hA⟩ := h.hp
  exact ⟨own_blk h.own (fun g hgv => hF.block g (h.own.lt g hgv).2 (fun e => hn (by rw [hgv, e]))), ⟨wd, hA.fr' hF fun b hb' e => by have := (hB b hb').2; omega⟩, h.far.up hF (fun j hj => by omega), h.vars.fr hF (by omega) (by omega), Nat.le_trans h.le hF.size⟩
theorem Alloc_some (B : HB) (n : Nat) (A : Nat → Kd) (wd : Nat → Int) (m : Nat) (w : World) (h : At w B n (hrOf A wd)) (hI : Inv n A) (hV : Vars w) (h0 : ∀ k, B.mem k → 2 ≤ k) (hm : 1 ≤ m) (hm2 : m ≤ 16448) (hn : ¬ NoPlace n A m) :
    Calls Tryd.prog 27 #[B.ptr, .int .i64 m] w fun e w' => ∃ a A', Goes n A m a A' ∧ e = .returned (.tuple #[.int .i64 ((a : Nat) : Int), .bool true]) ∧ Fr B.mem w w' ∧ Vars w' ∧ Inv n A' ∧ At w' B n (hrOf A' (clearW wd a (roomOfM m))) := by
  have h00 : ¬ B.mem 0 := fun x => by have := h0 0 x; omega
  have h01 : ¬ B.mem 1 := fun x => by have := h0 1 x; omega
  refine (Alloc_any B n A wd (m : Int) w h hI hV h00 h01).mono ?_
  rintro e w' ⟨hF, ⟨a', A1, _, _, g', rfl, hA⟩ | ⟨hn', rfl, hA⟩⟩
  · exact ⟨a', A1, g', rfl, hF, hV.fr hF h00 h01, g'.inv hI hm2, hA⟩
  · rcases hn' with hn' | hn' | hn'
    · omega
    · omega
    · exact absurd hn' hn
end Go.Proofs.YtjblmincldaklaaDoor
namespace Go.Proofs.YtjblmincldaklaaDoor
open Go.RowKit Go.Proofs.YtjblmincldaklaaDoor.Hp
set_option maxHeartbeats 1000000 in
theorem Spans_any (B : HB) (n : Nat) (R : HR) (w : World) (h : At w B n R) : Calls Tryd.prog 34 #[B.ptr] w fun e w' => e = .returned (.int .i64 (cntN R.fr (64 * setM n))) ∧ w' = w := by
  have c2 := h.c2
  have HC := hide (count_any B.bf (setM n) R.fr w (setM_le h.hi) h.fr)
  clear h
  unfold HB.ptr
  go_enter Tryd.func34, Tryd.ntmps34
  go_wp2_with (first | (go_at_call 50; refine (unhide HC).mono ?_; rintro e w' ⟨rfl, rfl⟩))
  go_ret
  exact ⟨rfl, rfl⟩
theorem cnt_empty (n : Nat) (hn : 1 ≤ n) : ∀ k, cntN (fun s => frK (emptyA n s)) k = min k n - 1
  | 0 => by simp [cntN]
  | k + 1 => by
    rw [cntN, cnt_empty n hn k]
    unfold emptyA
    by_cases h : 1 ≤ k ∧ k < n
    · rw [if_pos h]; simp [frK]; omega
    · rw [if_neg h]; simp [frK]; omega
/-- Where no block is, the heap is the empty one. -/
theorem empty_of {n : Nat} {A : Nat → Kd} (h : Inv n A) (hz : ∀ x, roomN A x = 0) : A = emptyA n := by
  funext t
  unfold emptyA
  by_cases h1 : 1 ≤ t ∧ t < n
  · rw [if_pos h1]; exact all_free h hz t h1.1 h1.2
  · rw [if_neg h1]
    by_cases h0 : t = 0
    · rw [h0]; exact h.zero
    · exact h.past t (by omega)
theorem Spans_empty (B : HB) (n : Nat) (wd : Nat → Int) (w : World) (h : At w B n (hrOf (emptyA n) wd)) : Calls Tryd.prog 34 #[B.ptr] w fun e w' => e = .returned (.int .i64 ((n - 1 : Nat) : Int)) ∧ w' = w := by
  have hl := h.lo
  refine (Spans_any B n _ w h).mono ?_
  rintro e w' ⟨rfl, rfl⟩
  have : cntN (hrOf (emptyA n) wd).fr (64 * setM n) = n - 1 := by
    show cntN (fun s => frK (emptyA n s)) (64 * setM n) = n - 1
    rw [cnt_empty n (by omega)]
    have : n ≤ 64 * setM n := by unfold setM; omega
    omega
  rw [this]
  exact ⟨rfl, rfl⟩
set_option maxHeartbeats 1000000 in
theorem Blocks_empty (B : HB) (n : Nat) (wd : Nat → Int) (w : World) (h : At w B n (hrOf (emptyA n) wd)) : Calls Tryd.prog 33 #[B.ptr] w fun e w' => e = .returned (.slice none 0 0) ∧ Fr (fun _ => False) w w' := by
  have c1 := h.c1
  have hh := h.hi
  have hus : Hid (∀ s, s < n → w.cell? ⟨B.bs, s * 2, none⟩ = some (.int .i64 0) ∧ w.cell? ⟨B.bs, s * 2 + 1, none⟩ = some (.int .u32 0)) := hide fun s hs => by
    have e1 : (hrOf (emptyA n) wd).rm s = 0 := by show rmK (emptyA n s) = 0; unfold emptyA; split <;> rfl
    have e2 : (hrOf (emptyA n) wd).us s = 0 := by show usK (emptyA n s) = 0; unfold emptyA; split <;> rfl
    have a := h.cr s hs
    have b := h.cu s hs
    rw [e1] at a
    rw [e2] at b
    exact ⟨a, b⟩
  have HL : Hid (B.bs < w.heap.size) := hide h.lts.2.2.1
  clear h
  unfold HB.ptr
  go_enter Tryd.func33, Tryd.ntmps33
  go_wp2
  go_loopw [3, 12] (fun v i wr => ∃ s : Nat, s ≤ n ∧ i = .int .i64 s ∧ v = .slice none 0 0 ∧ Fr (fun _ => False) w wr) (fun _ i _ => n - (intOf i).toNat)
  case atStart => exact ⟨0, by omega, rfl, rfl, Fr.refl _ _⟩
  case round =>
    obtain ⟨s, hs, rfl, rfl, hF⟩ := hrel
    by_cases hlt : s < n
    · have cr : wr.cell? ⟨B.bs, s * 2, none⟩ = some (.int .i64 0) := (World.cell?_of_block (w := w) (a := ⟨B.bs, s * 2, none⟩) (hF.block B.bs (unhide HL) id)).trans (unhide hus s hlt).1
      have cu : wr.cell? ⟨B.bs, s * 2 + 1, none⟩ = some (.int .u32 0) := (World.cell?_of_block (w := w) (a := ⟨B.bs, s * 2 + 1, none⟩) (hF.block B.bs (unhide HL) id)).trans (unhide hus s hlt).2
      have HF := hide hF
      clear hF
      go_wp2
      refine wp_loop_rounds 1 ?_
      rw [rounds_succ]
      go_wp2
      go_roundw
      case rel => exact ⟨s + 1, by omega, by go_num, rfl, (unhide HF).alloc _⟩
      case measure => simp [intOf]; omega
    · have HF := hide hF
      clear hF
      go_wp2
      go_ret
      exact ⟨rfl, unhide HF⟩
end Go.Proofs.YtjblmincldaklaaDoor
namespace Go.Proofs.YtjblmincldaklaaDoor
open Go.RowKit Go.Proofs.YtjblmincldaklaaDoor.Hp
/-- The blocks are those at the first k addresses, but for those of gone. -/
structure Bk (N k : Nat) (ad : Nat → Nat) (gone : Nat → Bool) (A : Nat → Kd) : Prop where
  inv : Inv N A
  live : ∀ j, j < k → gone j = false → roomN A (ad j) ≠ 0
  dead : ∀ j, j < k → gone j = true → roomN A (ad j) = 0
  only : ∀ x, roomN A x ≠ 0 → ∃ j, j < k ∧ x = ad j
  inj : ∀ i j, i < k → j < k → ad i = ad j → i = j
theorem Bk.empty (N : Nat) (ad : Nat → Nat) : Bk N 0 ad (fun _ => false) (emptyA N) :=
  ⟨emptyA_inv N, fun j hj => by omega, fun j hj => by omega, fun x hx => absurd (by unfold roomN emptyA; split <;> rfl) hx, fun i j hi => by omega⟩
theorem Bk.push {N k m a : Nat} {ad : Nat → Nat} {A A' : Nat → Kd} (h : Bk N k ad (fun _ => false) A) (hm : m ≤ 16448) (g : Goes N A m a A') : Bk N (k + 1) (upd ad k a) (fun _ => false) A' := by
  obtain ⟨h0, hr⟩ := room_goes h.inv g
  have hp := roomOfM_pos m
  have hne : ∀ j, j < k → ad j ≠ a := fun j hj e => by
    have := h.live j hj rfl
    rw [e] at this
    exact this h0
  refine ⟨g.inv h.inv hm, fun j hj _ => ?_, fun j _ hg => (by cases hg), fun x hx => ?_, fun i j hi hj e => ?_⟩
  · rw [hr]
    by_cases e : j = k
    · rw [e, upd_same, if_pos rfl]; omega
    · rw [upd_ne _ _ e, if_neg (hne j (by omega))]; exact h.live j (by omega) rfl
  · rw [hr] at hx
    by_cases e : x = a
    · exact ⟨k, by omega, by rw [upd_same]; exact e⟩
    · rw [if_neg e] at hx
      obtain ⟨j, hj, e⟩ := h.only x hx
      exact ⟨j, by omega, by rw [upd_ne _ _ (by omega)]; exact e⟩
  · by_cases e1 : i = k
    · by_cases e2 : j = k
      · omega
      · rw [e1, upd_same, upd_ne _ _ e2] at e
        exact absurd e.symm (hne j (by omega))
    · by_cases e2 : j = k
      · rw [e2, upd_same, upd_ne _ _ e1] at e
        exact absurd e (hne i (by omega))
      · rw [upd_ne _ _ e1, upd_ne _ _ e2] at e
        exact h.inj i j (by omega) (by omega) e
theorem Bk.step {N k x : Nat} {ad : Nat → Nat} {gone : Nat → Bool} {A : Nat → Kd} (h : Bk N k ad gone A) (hx : x < k) (hg : gone x = false) : roomN A (ad x) ≠ 0 ∧ Bk N k ad (upd gone x true) (freeA A (ad x)) := by
  have hz := h.live x hx hg
  have hrf := room_freed h.inv hz
  refine ⟨hz, h.inv.freed hz, fun j hj hgj => ?_, fun j hj hgj => ?_, fun y hy => ?_, h.inj⟩
  · by_cases e : j = x
    · rw [e, upd_same] at hgj; cases hgj
    · rw [upd_ne _ _ e] at hgj
      rw [hrf, if_neg (fun e1 => e (h.inj _ _ hj hx e1))]; exact h.live j hj hgj
  · rw [hrf]
    by_cases e : j = x
    · rw [if_pos (by rw [e])]
    · rw [upd_ne _ _ e] at hgj
      rw [if_neg (fun e1 => e (h.inj _ _ hj hx e1))]; exact h.dead j hj hgj
  · rw [hrf] at hy
    by_cases e : y = ad x
    · exact ⟨x, hx, e⟩
    · rw [if_neg e] at hy; exact h.only y hy
theorem Bk.done {N k : Nat} {ad : Nat → Nat} {gone : Nat → Bool} {A : Nat → Kd} (h : Bk N k ad gone A) (hg : ∀ j, j < k → gone j = true) : A = emptyA N := by
  refine empty_of h.inv fun x => ?_
  by_cases hx : roomN A x = 0
  · exact hx
  · obtain ⟨j, hj, e⟩ := h.only x hx
    rw [e] at hx
    exact absurd (h.dead j hj (hg j hj)) hx
theorem Bk.goneAs {N k : Nat} {ad : Nat → Nat} {gone gone' : Nat → Bool} {A : Nat → Kd} (h : Bk N k ad gone A) (e : ∀ j, j < k → gone' j = gone j) : Bk N k ad gone' A :=
  ⟨h.inv, fun j hj hg => h.live j hj (by rw [← e j hj]; exact hg), fun j hj hg => h.dead j hj (by rw [← e j hj]; exact hg), h.only, h.inj⟩
theorem L1.re {w0 w : World} {B : HB} {base n k : Nat} {ad ad' : Nat → Nat} {A : Nat → Kd} {v : Value} (h : L1 w0 w B base n ad A k v) (e : ∀ j, j < k → ad' j = ad j) : L1 w0 w B base n ad' A k v := by
  refine ⟨?_, h.hp, h.far, h.vars, h.le⟩
  have : adL ad' k = adL ad k := by
    unfold adL
    apply List.map_congr_left
    intro j hj
    rw [e j (List.mem_range.1 hj)]
  rw [this]; exact h.own
theorem inB_of {n : Nat} {A : Nat → Kd} {wd : Nat → Int} (hI : Inv n A) {x r q : Nat} (hr : roomN A x = r) (hq : q < r) : inB n (hrOf A wd) (x : Int) (q : Int) = true := by
  unfold inB
  rw [roomR_I wd hI, roomI, if_pos (by omega)]
  simp only [Int.toNat_natCast, hr]
  simp; omega
theorem Load_in (B : HB) (n : Nat) (A : Nat → Kd) (wd : Nat → Int) (x r q : Nat) (w : World) (h : At w B n (hrOf A wd)) (hI : Inv n A) (hr : roomN A x = r) (hq : q < r) :
    Calls Tryd.prog 30 #[B.ptr, .int .i64 x, .int .i64 q] w fun e w' => e = .returned (.tuple #[.int .i64 (wd (x + q)), .bool true]) ∧ Fr (fun _ => False) w w' := by
  refine (Load_any B n (hrOf A wd) x q w h (fine_of wd hI) (fits_of wd hI)).mono ?_
  rintro e w' ⟨rfl, hF⟩
  rw [loadV_pos (inB_of hI hr hq)]
  exact ⟨rfl, hF⟩
theorem Store_in (B : HB) (n : Nat) (A : Nat → Kd) (wd : Nat → Int) (x r q : Nat) (v : Int) (w : World) (h : At w B n (hrOf A wd)) (hI : Inv n A) (hr : roomN A x = r) (hq : q < r) :
    Calls Tryd.prog 28 #[B.ptr, .int .i64 x, .int .i64 q, .int .i64 v] w fun e w' => e = .returned (.bool true) ∧ Fr B.mem w w' ∧ At w' B n (hrOf A (upd wd (x + q) v)) := by
  refine (Store_any B n (hrOf A wd) x q v w h (fine_of wd hI) (fits_of wd hI)).mono ?_
  rintro e w' ⟨rfl, hF, hA⟩
  rw [storeH_pos v (inB_of hI hr hq)] at hA
  exact ⟨ret_bool (inB_of hI hr hq), hF, hA⟩
theorem Room_in (B : HB) (n : Nat) (A : Nat → Kd) (wd : Nat → Int) (x : Nat) (w : World) (h : At w B n (hrOf A wd)) (hI : Inv n A) :
    Calls Tryd.prog 44 #[B.ptr, .int .i64 x] w fun e w' => e = .returned (.int .i64 (roomN A x)) ∧ Fr (fun _ => False) w w' := by
  refine (Room_any B n (hrOf A wd) x w h (fine_of wd hI)).mono ?_
  rintro e w' ⟨rfl, hF⟩
  rw [roomR_I wd hI, roomI, if_pos (by omega)]
  exact ⟨rfl, hF⟩
/-- An allocation of whatever size: a block, or none. -/
theorem Alloc_or (B : HB) (n : Nat) (A : Nat → Kd) (wd : Nat → Int) (m : Int) (w : World) (h : At w B n (hrOf A wd)) (hI : Inv n A) (hV : Vars w) (h0 : ∀ k, B.mem k → 2 ≤ k) :
    Calls Tryd.prog 27 #[B.ptr, .int .i64 m] w fun e w' => Fr B.mem w w' ∧ Vars w' ∧ ((∃ (a : Nat) (A' : Nat → Kd), 1 ≤ m ∧ m ≤ 16448 ∧ Goes n A m.toNat a A' ∧ Inv n A' ∧ e = .returned (.tuple #[.int .i64 (a : Int), .bool true]) ∧ At w' B n (hrOf A' (clearW wd a (roomOfM m.toNat)))) ∨ (e = .returned (.tuple #[.int .i64 0, .bool false]) ∧ At w' B n (hrOf A wd))) := by
  have h00 : ¬ B.mem 0 := fun x => by have := h0 0 x; omega
  have h01 : ¬ B.mem 1 := fun x => by have := h0 1 x; omega
  refine (Alloc_any B n A wd m w h hI hV h00 h01).mono ?_
  rintro e w' ⟨hF, ⟨a', A1, h1, h2, g', rfl, hA⟩ | ⟨hn, rfl, hA⟩⟩
  · exact ⟨hF, hV.fr hF h00 h01, .inl ⟨a', A1, h1, h2, g', g'.inv hI (by omega), rfl, hA⟩⟩
  · exact ⟨hF, hV.fr hF h00 h01, .inr ⟨rfl, hA⟩⟩
theorem room_new {n : Nat} {A A' : Nat → Kd} {m a : Nat} (hI : Inv n A) (g : Goes n A m a A') : roomN A' a = roomOfM m := by
  rw [(room_goes hI g).2, if_pos rfl]
theorem L1.grow {w0 w w1 : World} {B : HB} {base n k : Nat} {ad : Nat → Nat} {A : Nat → Kd} {v : Value} (h : L1 w0 w B base n ad A k v) (hB : ∀ j, B.mem j → w0.heap.size ≤ j ∧ j < base) (o : Obj) (hg : (w.alloc o).grownBy w1 v.ownBlock) {R : HR} (hA : At w B n R) : At w1 B n R := by
  have hlt : ∀ g, v.ownBlock = some g → base ≤ g := fun g hg => (h.own.lt g hg).1
  have hF : Fr (fun j => some j = v.ownBlock) w w1 := ((Fr.refl _ w).alloc o).trans (Fr.grown hg)
  exact hA.fr' hF fun b hb' e => by have := hlt b e.symm; have := (hB b hb').2; omega
theorem L1.fresh {w0 w : World} {B : HB} {base n k : Nat} {ad ad' : Nat → Nat} {A : Nat → Kd} {v : Value} (h : L1 w0 w B base n ad A k v) : L1 w0 w B base n ad' A 0 (.slice none 0 0) :=
  ⟨by have := World.ownsRow_nil w base 3 1; exact this, h.hp, h.far, h.vars, h.le⟩
end Go.Proofs.YtjblmincldaklaaDoor
