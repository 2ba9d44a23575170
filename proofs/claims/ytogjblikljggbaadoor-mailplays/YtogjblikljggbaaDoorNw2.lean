/- New, walked. -/
import Derived.Test.YtogjblikljggbaaDoorNw
namespace Go.Proofs.YtogjblikljggbaaDoor
open Go.RowKit Go.Proofs.YtogjblikljggbaaDoor.Hp
def newCell (n bw bs bf c : Nat) (bo : Nat → Nat) (i : Nat) : Value :=
  if i = 0 then .slice (some ⟨bw, 0, none⟩) (64 * n) (64 * n) else if i = 1 then .slice (some ⟨bs, 0, none⟩) n n else if i = 2 then .slice (some ⟨bf, 0, none⟩) (setM n) (setM n) else if i < 3 + c then .slice (some ⟨bo (i - 3), 0, none⟩) (setM n) (setM n) else .slice none 0 0
/-- A heap that is being made: c of its six sets are there. -/
structure NewAt (w0 w : World) (n p bw bs bf c : Nat) (bo : Nat → Nat) : Prop where
  st : Row w p 9 (newCell n bw bs bf c bo)
  wo : Row w bw (64 * n) (fun _ => .int .i64 0)
  sp : Row w bs (2 * n) (spanCell (fun _ => 0) (fun _ => 0))
  fr : SetAt w bf (setM n) (fun _ => false)
  op : ∀ d, d < c → SetAt w (bo d) (setM n) (fun _ => false)
  lo : w0.heap.size ≤ p ∧ w0.heap.size ≤ bw ∧ w0.heap.size ≤ bs ∧ w0.heap.size ≤ bf ∧ ∀ d, d < c → w0.heap.size ≤ bo d
  ne : p ≠ bw ∧ p ≠ bs ∧ p ≠ bf ∧ bw ≠ bs ∧ bw ≠ bf ∧ bs ≠ bf
  no : ∀ d, d < c → bo d ≠ p ∧ bo d ≠ bw ∧ bo d ≠ bs ∧ bo d ≠ bf
  oo : ∀ d e, d < c → e < c → d ≠ e → bo d ≠ bo e
  far : Fr (fun _ => False) w0 w
theorem NewAt.quiet {w0 w w' : World} {n p bw bs bf c : Nat} {bo : Nat → Nat} (h : NewAt w0 w n p bw bs bf c bo) (k : Fr (fun _ => False) w w') : NewAt w0 w' n p bw bs bf c bo :=
  ⟨h.st.fr k id, h.wo.fr k id, h.sp.fr k id, h.fr.fr k id, fun d hd => Row.fr (h.op d hd) k id, h.lo, h.ne, h.no, h.oo, h.far.trans k⟩
theorem NewAt.step {w0 w w1 : World} {n p bw bs bf c g : Nat} {bo : Nat → Nat} (h : NewAt w0 w n p bw bs bf c bo) (hn : 2 ≤ n) (hc : c < 6) (hg : g = w.heap.size) (k : Fr (fun _ => False) w w1) (hs : SetAt w1 g (setM n) (fun _ => false)) :
    NewAt w0 (w1.setCell ⟨p, 3 + c, none⟩ (.slice (some ⟨g, 0, none⟩) (setM n) (setM n))) n p bw bs bf (c + 1) (upd bo c g) := by
  have h1 := h.quiet k
  obtain ⟨n1, n2, n3, n4, n5, n6⟩ := h.ne
  obtain ⟨l1, l2, l3, l4, l5⟩ := h.lo
  have z1 := h.st.lt (by omega)
  have z2 := h.wo.lt (by omega)
  have z3 := h.sp.lt (by omega)
  have z4 := h.fr.lt (setM_pos hn)
  have z5 : ∀ d, d < c → bo d < w.heap.size := fun d hd => Row.lt (h.op d hd) (setM_pos hn)
  have hK : Fr (· = p) w1 (w1.setCell ⟨p, 3 + c, none⟩ (.slice (some ⟨g, 0, none⟩) (setM n) (setM n))) := (Fr.refl (· = p) w1).setCell (p := ⟨p, 3 + c, none⟩) rfl _
  have hsz := h.far.size
  refine ⟨(h1.st.set (3 + c) _ (by omega)).ext fun i hi => ?_, h1.wo.fr hK (Ne.symm n1), h1.sp.fr hK (Ne.symm n2), h1.fr.fr hK (Ne.symm n3), fun d hd => ?_, ⟨l1, l2, l3, l4, fun d hd => ?_⟩, h.ne, fun d hd => ?_, fun d e hd he hde => ?_, ?_⟩
  · unfold newCell
    by_cases e : i = 3 + c
    · subst e
      rw [upd_same, if_neg (by omega), if_neg (by omega), if_neg (by omega), if_pos (by omega), show 3 + c - 3 = c by omega, upd_same]
    · rw [upd_ne _ _ e]
      by_cases e0 : i = 0
      · rw [if_pos e0, if_pos e0]
      · rw [if_neg e0, if_neg e0]
        by_cases e1 : i = 1
        · rw [if_pos e1, if_pos e1]
        · rw [if_neg e1, if_neg e1]
          by_cases e2 : i = 2
          · rw [if_pos e2, if_pos e2]
          · rw [if_neg e2, if_neg e2]
            by_cases e3 : i < 3 + c
            · rw [if_pos e3, if_pos (by omega), upd_ne _ _ (by omega)]
            · rw [if_neg e3, if_neg (by omega)]
  · by_cases e : d = c
    · subst e; rw [upd_same]; exact Row.fr hs hK (by omega)
    · rw [upd_ne _ _ e]; exact Row.fr (h1.op d (by omega)) hK (h.no d (by omega)).1
  · by_cases e : d = c
    · subst e; rw [upd_same]; omega
    · rw [upd_ne _ _ e]; exact l5 d (by omega)
  · by_cases e : d = c
    · subst e; rw [upd_same]; omega
    · rw [upd_ne _ _ e]; exact h.no d (by omega)
  · by_cases e1 : d = c
    · subst e1
      rw [upd_same, upd_ne _ _ (Ne.symm hde)]
      have := z5 e (by omega)
      omega
    · rw [upd_ne _ _ e1]
      by_cases e2 : e = c
      · subst e2
        rw [upd_same]
        have := z5 d (by omega)
        omega
      · rw [upd_ne _ _ e2]; exact h.oo d e (by omega) (by omega) hde
  · refine ⟨(h1.far).os, h1.far.tape, h1.far.output, ?_, fun j hj _ => ?_⟩
    · exact Nat.le_trans h1.far.size (by simp [World.setCell])
    · rw [Below.heap_setCell _ _ _ _ (by show j ≠ p; omega)]
      exact h1.far.block j hj id
/-- An empty heap's spans. -/
def emptyA (n : Nat) : Nat → Kd := fun s => if 1 ≤ s ∧ s < n then .free else .tail
theorem emptyA_inv (n : Nat) : Inv n (emptyA n) := by
  refine ⟨rfl, fun s hs => ?_, fun s c u h => ?_, fun s k h => ?_, fun s h1 h2 h => ?_⟩
  · unfold emptyA; rw [if_neg (by omega)]
  · unfold emptyA at h; split at h <;> cases h
  · unfold emptyA at h; split at h <;> cases h
  · unfold emptyA at h; rw [if_pos ⟨h1, h2⟩] at h; cases h
def zeroR (s : Nat) : HR := ⟨fun _ => 0, fun _ => 0, cutF (fun _ => false) 1 s true, fun _ _ => false, fun _ => 0⟩
theorem NewAt.at {w0 w : World} {n p bw bs bf : Nat} {bo : Nat → Nat} (h : NewAt w0 w n p bw bs bf 6 bo) (hn : 2 ≤ n) (hn2 : n ≤ 16384) : At w ⟨p, bw, bs, bf, bo⟩ n (zeroR 1) := by
  obtain ⟨n1, n2, n3, n4, n5, n6⟩ := h.ne
  refine ⟨⟨n1, n2, n3, n4, n5, n6, h.no, h.oo⟩, hn, hn2, h.st.ext fun i hi => ?_, h.wo, h.sp, ?_, h.op⟩
  · unfold newCell HB.cell
    by_cases e0 : i = 0
    · rw [if_pos e0, if_pos e0]
    · rw [if_neg e0, if_neg e0]
      by_cases e1 : i = 1
      · rw [if_pos e1, if_pos e1]
      · rw [if_neg e1, if_neg e1]
        by_cases e2 : i = 2
        · rw [if_pos e2, if_pos e2]
        · rw [if_neg e2, if_neg e2, if_pos (by omega)]
  · show SetAt w bf (setM n) (cutF (fun _ => false) 1 1 true)
    rw [cutF_none]; exact h.fr
theorem NewAt.start {w0 w : World} {n p bw bs bf : Nat} (h1 : Row w p 9 (newCell n bw bs bf 0 (fun _ => 0))) (h2 : Row w bw (64 * n) (fun _ => .int .i64 0)) (h3 : Row w bs (n * 2) (fun i => (#[.int .i64 0, .int .u32 0] : Array Value)[i % (#[.int .i64 0, .int .u32 0] : Array Value).size]!)) (h4 : SetAt w bf (setM n) (fun _ => false))
    (l : w0.heap.size ≤ p ∧ w0.heap.size ≤ bw ∧ w0.heap.size ≤ bs ∧ w0.heap.size ≤ bf) (ne : p ≠ bw ∧ p ≠ bs ∧ p ≠ bf ∧ bw ≠ bs ∧ bw ≠ bf ∧ bs ≠ bf) (f : Fr (fun _ => False) w0 w) : NewAt w0 w n p bw bs bf 0 (fun _ => 0) := by
  refine ⟨h1, h2, ?_, h4, fun d hd => by omega, ⟨l.1, l.2.1, l.2.2.1, l.2.2.2, fun d hd => by omega⟩, ne, fun d hd => by omega, fun d e hd => by omega, f⟩
  rw [Nat.mul_comm]
  refine h3.ext fun i hi => ?_
  unfold spanCell
  rcases Nat.mod_two_eq_zero_or_one i with e | e
  · rw [if_pos e]; simp [e]
  · rw [if_neg (by omega)]; simp [e]
theorem Row.re {w : World} {b b' m : Nat} {f : Nat → Value} (h : Row w b m f) (e : b' = b) : Row w b' m f := e ▸ h
theorem SetAt.re {w : World} {b b' m : Nat} {f : Nat → Bool} (h : SetAt w b m f) (e : b' = b) : SetAt w b' m f := e ▸ h
theorem Row.lit9 (w : World) (n bw bs bf e : Nat) : Row (w.alloc (.cells #[.slice (some ⟨bw, 0, none⟩) (64 * n) (64 * n), .slice (some ⟨bs, 0, none⟩) n n, .slice (some ⟨bf, 0, none⟩) (setM n) (setM n), .slice none 0 0, .slice none 0 0, .slice none 0 0, .slice none 0 0, .slice none 0 0, .slice none 0 0] e)) w.heap.size 9 (newCell n bw bs bf 0 (fun _ => 0)) := by
  intro i hi
  refine ⟨?_, World.frozen?_alloc_at _ _ _ _ rfl⟩
  rw [World.cell?_alloc_at _ _ _ _ rfl]
  rcases (show i = 0 ∨ i = 1 ∨ i = 2 ∨ i = 3 ∨ i = 4 ∨ i = 5 ∨ i = 6 ∨ i = 7 ∨ i = 8 by omega) with rfl | rfl | rfl | rfl | rfl | rfl | rfl | rfl | rfl <;> rfl
theorem Fr.up {K : Nat → Prop} {w0 w w' : World} (h : Fr (fun _ => False) w0 w) (k : Fr K w w') (hk : ∀ b, K b → w0.heap.size ≤ b) : Fr (fun _ => False) w0 w' :=
  ⟨k.os.trans h.os, k.tape.trans h.tape, k.output.trans h.output, Nat.le_trans h.size k.size, fun i hi _ => (k.block i (Nat.lt_of_lt_of_le hi h.size) (fun x => by have := hk i x; omega)).trans (h.block i hi id)⟩
theorem zeroR_done {w : World} {B : HB} {n : Nat} (h : At w B n (zeroR n)) : At w B n (hrOf (emptyA n) (fun _ => 0)) := by
  refine h.congr (fun t _ => ?_) (fun t _ => ?_) (fun t => ?_) (fun d hd t => ?_) (fun _ _ => rfl)
  · show 0 = rmK (emptyA n t)
    unfold emptyA; split <;> rfl
  · show 0 = usK (emptyA n t)
    unfold emptyA; split <;> rfl
  · show cutF (fun _ => false) 1 n true t = frK (emptyA n t)
    unfold emptyA cutF; split <;> rfl
  · show false = opK d (emptyA n t)
    unfold emptyA; split <;> rfl
def NewP (x : Nat) (w : World) (e : Ending) (w' : World) : Prop := ∃ B : HB, e = .returned B.ptr ∧ (∀ k, B.mem k → w.heap.size ≤ k) ∧ Fr (fun _ => False) w w' ∧ At w' B (x / 64) (hrOf (emptyA (x / 64)) (fun _ => 0))
set_option maxHeartbeats 4000000 in
theorem New_any (x : Nat) (w : World) (h1 : 128 ≤ x) (h2 : x ≤ 1048576) : Calls Tryd.prog 23 #[.int .i64 x] w fun e w' => NewP x w e w' := by
  have hq : (x : Int) / 64 = ((x / 64 : Nat) : Int) := by omega
  have hn2 : 2 ≤ x / 64 := by omega
  have hn3 : x / 64 ≤ 16384 := by omega
  unfold NewP
  generalize x / 64 = n at *
  have hwr : IntKind.i64.wrap ((n : Int) * 64) = (n : Int) * 64 := by rw [Go.IntKind.wrap_i64]; omega
  have m34 : ∀ W, (Instr.makeSlice 28 (.int .i64 ((n : Int) * 64)) (.int .i64 ((n : Int) * 64))).run Tryd.prog W = .ok (.slice (some ⟨W.heap.size, 0, none⟩) (64 * n) (64 * n)) (W.alloc (.cells (madeCells #[.int .i64 0] (64 * n)) 3)) := fun W => by
    have := make34 W (64 * n) (by omega)
    rw [show ((64 * n : Nat) : Int) = (n : Int) * 64 by omega] at this
    exact this
  have m48 := fun W => make48 W n (by omega)
  have HS := hide (fun W => newSet_any n W hn3)
  have R34 := hide (fun W => Row.made W #[.int .i64 0] (64 * n) 3)
  have R48 := hide (fun W => Row.made W #[.int .i64 0, .int .u32 0] (n * 2) 80)
  generalize madeCells #[.int .i64 0] (64 * n) = Z1 at *
  generalize madeCells #[.int .i64 0, .int .u32 0] (n * 2) = Z2 at *
  go_enter Tryd.func23, Tryd.ntmps23
  go_wp2
  go_region_law (first | (go_simp; go_at_call 37; refine (unhide HS _).mono ?_; rintro e w1 ⟨g, rfl, hg, hgz, hset, hfr⟩))
  all_goals (generalize hW : World.alloc _ (Obj.cells _ 71) = W)
  all_goals first
    | (have hN : NewAt w W n (w.heap.size + 1 + 1 + 1) (w.heap.size) (w.heap.size + 1) (w.heap.size + 1 + 1) 0 (fun _ => 0) := by
        rw [← hW]
        refine NewAt.start (Row.re (Row.lit9 _ _ _ _ _ _) (by (first | rfl | (simp; done) | (simp [hgz]; done) | (simp at hg ⊢; omega) | (simp at hgz ⊢; omega) | (simp at hgz hg ⊢; omega)))) (Row.re (((Row.fr (K := fun _ => False) (unhide R34 _)) (by (repeat (first | exact Fr.refl _ _ | refine Fr.alloc ?_ _ | refine Fr.trans ?_ hfr | refine Fr.drew ?_))) id).ext fun i _ => by simp [Nat.mod_one]) (by (first | rfl | (simp; done) | (simp [hgz]; done) | (simp at hg ⊢; omega) | (simp at hgz ⊢; omega) | (simp at hgz hg ⊢; omega)))) (Row.re ((Row.fr (K := fun _ => False) (unhide R48 _)) (by (repeat (first | exact Fr.refl _ _ | refine Fr.alloc ?_ _ | refine Fr.trans ?_ hfr | refine Fr.drew ?_))) id) (by (first | rfl | (simp; done) | (simp [hgz]; done) | (simp at hg ⊢; omega) | (simp at hgz ⊢; omega) | (simp at hgz hg ⊢; omega)))) (SetAt.re (Row.fr (K := fun _ => False) hset (by (repeat (first | exact Fr.refl _ _ | refine Fr.alloc ?_ _ | refine Fr.trans ?_ hfr | refine Fr.drew ?_))) id) (by (first | rfl | (simp; done) | (simp [hgz]; done) | (simp at hg ⊢; omega) | (simp at hgz ⊢; omega) | (simp at hgz hg ⊢; omega)))) (by omega) (by omega) (by (repeat (first | exact Fr.refl _ _ | refine Fr.alloc ?_ _ | refine Fr.trans ?_ hfr | refine Fr.drew ?_))))
    | (have hN : NewAt w W n (w.heap.size + 1 + 1 + 1) (w.heap.size) (w.heap.size + 1 + 1) (w.heap.size + 1) 0 (fun _ => 0) := by
        rw [← hW]
        refine NewAt.start (Row.re (Row.lit9 _ _ _ _ _ _) (by (first | rfl | (simp; done) | (simp [hgz]; done) | (simp at hg ⊢; omega) | (simp at hgz ⊢; omega) | (simp at hgz hg ⊢; omega)))) (Row.re (((Row.fr (K := fun _ => False) (unhide R34 _)) (by (repeat (first | exact Fr.refl _ _ | refine Fr.alloc ?_ _ | refine Fr.trans ?_ hfr | refine Fr.drew ?_))) id).ext fun i _ => by simp [Nat.mod_one]) (by (first | rfl | (simp; done) | (simp [hgz]; done) | (simp at hg ⊢; omega) | (simp at hgz ⊢; omega) | (simp at hgz hg ⊢; omega)))) (Row.re ((Row.fr (K := fun _ => False) (unhide R48 _)) (by (repeat (first | exact Fr.refl _ _ | refine Fr.alloc ?_ _ | refine Fr.trans ?_ hfr | refine Fr.drew ?_))) id) (by (first | rfl | (simp; done) | (simp [hgz]; done) | (simp at hg ⊢; omega) | (simp at hgz ⊢; omega) | (simp at hgz hg ⊢; omega)))) (SetAt.re (Row.fr (K := fun _ => False) hset (by (repeat (first | exact Fr.refl _ _ | refine Fr.alloc ?_ _ | refine Fr.trans ?_ hfr | refine Fr.drew ?_))) id) (by (first | rfl | (simp; done) | (simp [hgz]; done) | (simp at hg ⊢; omega) | (simp at hgz ⊢; omega) | (simp at hgz hg ⊢; omega)))) (by omega) (by omega) (by (repeat (first | exact Fr.refl _ _ | refine Fr.alloc ?_ _ | refine Fr.trans ?_ hfr | refine Fr.drew ?_))))
    | (have hN : NewAt w W n (w.heap.size + 1 + 1 + 1) (w.heap.size + 1) (w.heap.size) (w.heap.size + 1 + 1) 0 (fun _ => 0) := by
        rw [← hW]
        refine NewAt.start (Row.re (Row.lit9 _ _ _ _ _ _) (by (first | rfl | (simp; done) | (simp [hgz]; done) | (simp at hg ⊢; omega) | (simp at hgz ⊢; omega) | (simp at hgz hg ⊢; omega)))) (Row.re (((Row.fr (K := fun _ => False) (unhide R34 _)) (by (repeat (first | exact Fr.refl _ _ | refine Fr.alloc ?_ _ | refine Fr.trans ?_ hfr | refine Fr.drew ?_))) id).ext fun i _ => by simp [Nat.mod_one]) (by (first | rfl | (simp; done) | (simp [hgz]; done) | (simp at hg ⊢; omega) | (simp at hgz ⊢; omega) | (simp at hgz hg ⊢; omega)))) (Row.re ((Row.fr (K := fun _ => False) (unhide R48 _)) (by (repeat (first | exact Fr.refl _ _ | refine Fr.alloc ?_ _ | refine Fr.trans ?_ hfr | refine Fr.drew ?_))) id) (by (first | rfl | (simp; done) | (simp [hgz]; done) | (simp at hg ⊢; omega) | (simp at hgz ⊢; omega) | (simp at hgz hg ⊢; omega)))) (SetAt.re (Row.fr (K := fun _ => False) hset (by (repeat (first | exact Fr.refl _ _ | refine Fr.alloc ?_ _ | refine Fr.trans ?_ hfr | refine Fr.drew ?_))) id) (by (first | rfl | (simp; done) | (simp [hgz]; done) | (simp at hg ⊢; omega) | (simp at hgz ⊢; omega) | (simp at hgz hg ⊢; omega)))) (by omega) (by omega) (by (repeat (first | exact Fr.refl _ _ | refine Fr.alloc ?_ _ | refine Fr.trans ?_ hfr | refine Fr.drew ?_))))
    | (have hN : NewAt w W n (w.heap.size + 1 + 1 + 1) (w.heap.size + 1) (w.heap.size + 1 + 1) (w.heap.size) 0 (fun _ => 0) := by
        rw [← hW]
        refine NewAt.start (Row.re (Row.lit9 _ _ _ _ _ _) (by (first | rfl | (simp; done) | (simp [hgz]; done) | (simp at hg ⊢; omega) | (simp at hgz ⊢; omega) | (simp at hgz hg ⊢; omega)))) (Row.re (((Row.fr (K := fun _ => False) (unhide R34 _)) (by (repeat (first | exact Fr.refl _ _ | refine Fr.alloc ?_ _ | refine Fr.trans ?_ hfr | refine Fr.drew ?_))) id).ext fun i _ => by simp [Nat.mod_one]) (by (first | rfl | (simp; done) | (simp [hgz]; done) | (simp at hg ⊢; omega) | (simp at hgz ⊢; omega) | (simp at hgz hg ⊢; omega)))) (Row.re ((Row.fr (K := fun _ => False) (unhide R48 _)) (by (repeat (first | exact Fr.refl _ _ | refine Fr.alloc ?_ _ | refine Fr.trans ?_ hfr | refine Fr.drew ?_))) id) (by (first | rfl | (simp; done) | (simp [hgz]; done) | (simp at hg ⊢; omega) | (simp at hgz ⊢; omega) | (simp at hgz hg ⊢; omega)))) (SetAt.re (Row.fr (K := fun _ => False) hset (by (repeat (first | exact Fr.refl _ _ | refine Fr.alloc ?_ _ | refine Fr.trans ?_ hfr | refine Fr.drew ?_))) id) (by (first | rfl | (simp; done) | (simp [hgz]; done) | (simp at hg ⊢; omega) | (simp at hgz ⊢; omega) | (simp at hgz hg ⊢; omega)))) (by omega) (by omega) (by (repeat (first | exact Fr.refl _ _ | refine Fr.alloc ?_ _ | refine Fr.trans ?_ hfr | refine Fr.drew ?_))))
    | (have hN : NewAt w W n (w.heap.size + 1 + 1 + 1) (w.heap.size + 1 + 1) (w.heap.size) (w.heap.size + 1) 0 (fun _ => 0) := by
        rw [← hW]
        refine NewAt.start (Row.re (Row.lit9 _ _ _ _ _ _) (by (first | rfl | (simp; done) | (simp [hgz]; done) | (simp at hg ⊢; omega) | (simp at hgz ⊢; omega) | (simp at hgz hg ⊢; omega)))) (Row.re (((Row.fr (K := fun _ => False) (unhide R34 _)) (by (repeat (first | exact Fr.refl _ _ | refine Fr.alloc ?_ _ | refine Fr.trans ?_ hfr | refine Fr.drew ?_))) id).ext fun i _ => by simp [Nat.mod_one]) (by (first | rfl | (simp; done) | (simp [hgz]; done) | (simp at hg ⊢; omega) | (simp at hgz ⊢; omega) | (simp at hgz hg ⊢; omega)))) (Row.re ((Row.fr (K := fun _ => False) (unhide R48 _)) (by (repeat (first | exact Fr.refl _ _ | refine Fr.alloc ?_ _ | refine Fr.trans ?_ hfr | refine Fr.drew ?_))) id) (by (first | rfl | (simp; done) | (simp [hgz]; done) | (simp at hg ⊢; omega) | (simp at hgz ⊢; omega) | (simp at hgz hg ⊢; omega)))) (SetAt.re (Row.fr (K := fun _ => False) hset (by (repeat (first | exact Fr.refl _ _ | refine Fr.alloc ?_ _ | refine Fr.trans ?_ hfr | refine Fr.drew ?_))) id) (by (first | rfl | (simp; done) | (simp [hgz]; done) | (simp at hg ⊢; omega) | (simp at hgz ⊢; omega) | (simp at hgz hg ⊢; omega)))) (by omega) (by omega) (by (repeat (first | exact Fr.refl _ _ | refine Fr.alloc ?_ _ | refine Fr.trans ?_ hfr | refine Fr.drew ?_))))
    | (have hN : NewAt w W n (w.heap.size + 1 + 1 + 1) (w.heap.size + 1 + 1) (w.heap.size + 1) (w.heap.size) 0 (fun _ => 0) := by
        rw [← hW]
        refine NewAt.start (Row.re (Row.lit9 _ _ _ _ _ _) (by (first | rfl | (simp; done) | (simp [hgz]; done) | (simp at hg ⊢; omega) | (simp at hgz ⊢; omega) | (simp at hgz hg ⊢; omega)))) (Row.re (((Row.fr (K := fun _ => False) (unhide R34 _)) (by (repeat (first | exact Fr.refl _ _ | refine Fr.alloc ?_ _ | refine Fr.trans ?_ hfr | refine Fr.drew ?_))) id).ext fun i _ => by simp [Nat.mod_one]) (by (first | rfl | (simp; done) | (simp [hgz]; done) | (simp at hg ⊢; omega) | (simp at hgz ⊢; omega) | (simp at hgz hg ⊢; omega)))) (Row.re ((Row.fr (K := fun _ => False) (unhide R48 _)) (by (repeat (first | exact Fr.refl _ _ | refine Fr.alloc ?_ _ | refine Fr.trans ?_ hfr | refine Fr.drew ?_))) id) (by (first | rfl | (simp; done) | (simp [hgz]; done) | (simp at hg ⊢; omega) | (simp at hgz ⊢; omega) | (simp at hgz hg ⊢; omega)))) (SetAt.re (Row.fr (K := fun _ => False) hset (by (repeat (first | exact Fr.refl _ _ | refine Fr.alloc ?_ _ | refine Fr.trans ?_ hfr | refine Fr.drew ?_))) id) (by (first | rfl | (simp; done) | (simp [hgz]; done) | (simp at hg ⊢; omega) | (simp at hgz ⊢; omega) | (simp at hgz hg ⊢; omega)))) (by omega) (by omega) (by (repeat (first | exact Fr.refl _ _ | refine Fr.alloc ?_ _ | refine Fr.trans ?_ hfr | refine Fr.drew ?_))))
  all_goals clear hW hset hg hgz hfr
  all_goals (have hX : ∃ bw bs bf, NewAt w W n (w.heap.size + 1 + 1 + 1) bw bs bf 0 (fun _ => 0) := ⟨_, _, _, hN⟩)
  all_goals clear hN m34 m48 R34 R48
  all_goals (obtain ⟨bw, bs, bf, hN⟩ := hX)
  all_goals (have HN := hide hN; clear hN)
  all_goals
    go_wp2
    go_loopw [24] (fun i wr => ∃ c : Nat, c ≤ 6 ∧ i = .int .i64 c ∧ ∃ bo, Hid (NewAt w wr n (w.heap.size + 1 + 1 + 1) bw bs bf c bo)) (fun i _ => 6 - (intOf i).toNat)
    case atStart => exact ⟨0, by omega, rfl, _, HN⟩
    case round =>
      obtain ⟨c, hc, rfl, bo, hL⟩ := hrel
      by_cases hlt : c < 6
      · go_wp2
        go_region_law (first | (go_simp; go_at_call 37; refine (unhide HS _).mono ?_; rintro e w1 ⟨g, rfl, hg, hgz, hset, hfr⟩; have hL1 := ((unhide hL).quiet (Fr.drew (Fr.refl _ _))).quiet hfr; have cc := (hL1.st (3 + c) (by omega)).1; have ff := (hL1.st (3 + c) (by omega)).2; clear hL1))
        all_goals (try go_wp2)
        all_goals go_roundw
        case rel => exact ⟨c + 1, by omega, by go_num, _, hide ((unhide hL).step hn2 hlt rfl ((Fr.drew (Fr.refl _ _)).trans hfr) (SetAt.re hset hg.symm))⟩
        case measure => simp [intOf]; omega
      · have e6 : c = 6 := by omega
        subst e6
        have hA := (unhide hL).at hn2 hn3
        have hlo := (unhide hL).lo
        have HF := hide (unhide hL).far
        have HA := hide hA
        have HLo : Hid (∀ k, HB.mem ⟨w.heap.size + 1 + 1 + 1, bw, bs, bf, bo⟩ k → w.heap.size ≤ k) := by
          refine hide fun k hk => ?_
          obtain ⟨l1, l2, l3, l4, l5⟩ := hlo
          rcases hk with rfl | rfl | rfl | rfl | ⟨d, hd, rfl⟩
          · exact l1
          · exact l2
          · exact l3
          · exact l4
          · exact l5 d hd
        clear hA hlo hL
        go_wp2
        go_loopw [6] (fun i wr => ∃ s : Nat, 1 ≤ s ∧ s ≤ n ∧ i = .int .i64 s ∧ Hid (At wr ⟨w.heap.size + 1 + 1 + 1, bw, bs, bf, bo⟩ n (zeroR s)) ∧ Hid (Fr (fun _ => False) w wr)) (fun i _ => n - (intOf i).toNat)
        case atStart => exact ⟨1, by omega, by omega, rfl, HA, HF⟩
        case round =>
          obtain ⟨s, hs1, hs2, rfl, hA, hF⟩ := hrel
          by_cases hlt : s < n
          · have c2 := (unhide hA).c2
            have HC := hide (add_any bf (setM n) s _ wr (setM_le hn3) (setM_lt hlt) (unhide hA).fr)
            go_wp2_with (first | (go_at_call 38; refine (unhide HC).mono ?_; rintro e w' ⟨rfl, hs', hw'⟩))
            go_roundw
            case rel =>
              refine ⟨_, _, _, _, _, _, _, _, _, _, _, _, ?_, rfl⟩
              refine ⟨s + 1, by omega, by omega, by go_num, hide ?_, hide ((unhide hF).up hw' (fun b hb => by rw [hb]; exact unhide HLo _ (.inr (.inr (.inr (.inl rfl))))))⟩
              have := (unhide hA).setF hw' hs'
              unfold zeroR at this ⊢
              simp only at this
              rw [cutF_step _ _ _ _ hs1] at this
              exact this
            case measure => simp [intOf]; omega
          · have e : s = n := by omega
            subst e
            go_wp2
            go_ret
            exact ⟨⟨w.heap.size + 1 + 1 + 1, bw, bs, bf, bo⟩, rfl, unhide HLo, unhide hF, zeroR_done (unhide hA)⟩
end Go.Proofs.YtogjblikljggbaaDoor
