/- The heap in memory. -/
import Derived.Test.YtogjblikljggbaaDoorSp
namespace Go.Proofs.YtogjblikljggbaaDoor
open Go.RowKit Go.Proofs.YtogjblikljggbaaDoor.Hp
/-- The blocks of a heap: its struct, its words, its spans, the set of free spans, the sets of open ones. -/
structure HB where
  p : Nat
  bw : Nat
  bs : Nat
  bf : Nat
  bo : Nat → Nat
def HB.mem (B : HB) (k : Nat) : Prop := k = B.p ∨ k = B.bw ∨ k = B.bs ∨ k = B.bf ∨ ∃ c, c < 6 ∧ k = B.bo c
structure HB.Ok (B : HB) : Prop where
  pw : B.p ≠ B.bw
  ps : B.p ≠ B.bs
  pf : B.p ≠ B.bf
  ws : B.bw ≠ B.bs
  wf : B.bw ≠ B.bf
  sf : B.bs ≠ B.bf
  op : ∀ c, c < 6 → B.bo c ≠ B.p ∧ B.bo c ≠ B.bw ∧ B.bo c ≠ B.bs ∧ B.bo c ≠ B.bf
  oo : ∀ c d, c < 6 → d < 6 → c ≠ d → B.bo c ≠ B.bo d
/-- What they hold. -/
structure HR where
  rm : Nat → Nat
  us : Nat → Nat
  fr : Nat → Bool
  op : Nat → Nat → Bool
  wd : Nat → Int
def setM (n : Nat) : Nat := (n + 63) / 64
def HB.cell (B : HB) (n : Nat) (i : Nat) : Value :=
  if i = 0 then .slice (some ⟨B.bw, 0, none⟩) (64 * n) (64 * n) else if i = 1 then .slice (some ⟨B.bs, 0, none⟩) n n else if i = 2 then .slice (some ⟨B.bf, 0, none⟩) (setM n) (setM n) else .slice (some ⟨B.bo (i - 3), 0, none⟩) (setM n) (setM n)
def spanCell (rm us : Nat → Nat) (i : Nat) : Value := if i % 2 = 0 then .int .i64 (rm (i / 2)) else .int .u32 (us (i / 2))
structure At (w : World) (B : HB) (n : Nat) (R : HR) : Prop where
  ok : B.Ok
  lo : 2 ≤ n
  hi : n ≤ 16384
  st : Row w B.p 9 (B.cell n)
  wo : Row w B.bw (64 * n) (fun i => .int .i64 (R.wd i))
  sp : Row w B.bs (2 * n) (spanCell R.rm R.us)
  fr : SetAt w B.bf (setM n) R.fr
  op : ∀ c, c < 6 → SetAt w (B.bo c) (setM n) (R.op c)
section
variable {w w' : World} {B : HB} {n : Nat} {R : HR}
theorem setM_le (h : n ≤ 16384) : setM n ≤ 1000 := by unfold setM; omega
theorem setM_lt {s : Nat} (h : s < n) : s < 64 * setM n := by unfold setM; omega
theorem setM_pos (h : 2 ≤ n) : 0 < setM n := by unfold setM; omega
theorem At.c0 (h : At w B n R) : w.cell? ⟨B.p, 0, none⟩ = some (.slice (some ⟨B.bw, 0, none⟩) (64 * n) (64 * n)) := (h.st 0 (by omega)).1
theorem At.c1 (h : At w B n R) : w.cell? ⟨B.p, 1, none⟩ = some (.slice (some ⟨B.bs, 0, none⟩) n n) := (h.st 1 (by omega)).1
theorem At.c2 (h : At w B n R) : w.cell? ⟨B.p, 2, none⟩ = some (.slice (some ⟨B.bf, 0, none⟩) (setM n) (setM n)) := (h.st 2 (by omega)).1
theorem At.c3 (h : At w B n R) (c : Nat) (hc : c < 6) : w.cell? ⟨B.p, 3 + c, none⟩ = some (.slice (some ⟨B.bo c, 0, none⟩) (setM n) (setM n)) := by
  rw [(h.st (3 + c) (by omega)).1, HB.cell, if_neg (by omega), if_neg (by omega), if_neg (by omega), show 3 + c - 3 = c by omega]
theorem At.cr (h : At w B n R) (s : Nat) (hs : s < n) : w.cell? ⟨B.bs, s * 2, none⟩ = some (.int .i64 (R.rm s)) := by
  rw [(h.sp (s * 2) (by omega)).1, spanCell, if_pos (by omega), show s * 2 / 2 = s by omega]
theorem At.cu (h : At w B n R) (s : Nat) (hs : s < n) : w.cell? ⟨B.bs, s * 2 + 1, none⟩ = some (.int .u32 (R.us s)) := by
  rw [(h.sp (s * 2 + 1) (by omega)).1, spanCell, if_neg (by omega), show (s * 2 + 1) / 2 = s by omega]
theorem At.fz (h : At w B n R) (i : Nat) (hi : i < 2 * n) : w.frozen? ⟨B.bs, i, none⟩ = false := (h.sp i hi).2
theorem At.cw (h : At w B n R) (i : Nat) (hi : i < 64 * n) : w.cell? ⟨B.bw, i, none⟩ = some (.int .i64 (R.wd i)) := (h.wo i hi).1
theorem At.fw (h : At w B n R) (i : Nat) (hi : i < 64 * n) : w.frozen? ⟨B.bw, i, none⟩ = false := (h.wo i hi).2
theorem At.lts (h : At w B n R) : B.p < w.heap.size ∧ B.bw < w.heap.size ∧ B.bs < w.heap.size ∧ B.bf < w.heap.size ∧ ∀ c, c < 6 → B.bo c < w.heap.size := by
  have := h.lo
  exact ⟨h.st.lt (by omega), h.wo.lt (by omega), h.sp.lt (by omega), h.fr.lt (setM_pos h.lo), fun c hc => (h.op c hc).lt (setM_pos h.lo)⟩
theorem At.lt (h : At w B n R) {k : Nat} (hk : B.mem k) : k < w.heap.size := by
  obtain ⟨h1, h2, h3, h4, h5⟩ := h.lts
  rcases hk with rfl | rfl | rfl | rfl | ⟨c, hc, rfl⟩
  · exact h1
  · exact h2
  · exact h3
  · exact h4
  · exact h5 c hc
/-- Behind what leaves the heap's blocks alone. -/
theorem At.fr' {K : Nat → Prop} (h : At w B n R) (k : Fr K w w') (hk : ∀ b, B.mem b → ¬ K b) : At w' B n R :=
  ⟨h.ok, h.lo, h.hi, h.st.fr k (hk _ (.inl rfl)), h.wo.fr k (hk _ (.inr (.inl rfl))), h.sp.fr k (hk _ (.inr (.inr (.inl rfl)))), h.fr.fr k (hk _ (.inr (.inr (.inr (.inl rfl))))), fun c hc => Row.fr (h.op c hc) k (hk _ (.inr (.inr (.inr (.inr ⟨c, hc, rfl⟩)))))⟩
theorem At.quiet (h : At w B n R) (k : Fr (fun _ => False) w w') : At w' B n R := h.fr' k fun _ _ x => x
/-- Behind a turn of the set of the free spans. -/
theorem At.setF {S : Nat → Bool} (h : At w B n R) (k : Fr (· = B.bf) w w') (hs : SetAt w' B.bf (setM n) S) : At w' B n { R with fr := S } :=
  ⟨h.ok, h.lo, h.hi, h.st.fr k h.ok.pf, h.wo.fr k h.ok.wf, h.sp.fr k h.ok.sf, hs, fun c hc => Row.fr (h.op c hc) k (h.ok.op c hc).2.2.2⟩
/-- Behind a turn of the set of a class. -/
theorem At.setO {S : Nat → Bool} {c : Nat} (h : At w B n R) (hc : c < 6) (k : Fr (· = B.bo c) w w') (hs : SetAt w' (B.bo c) (setM n) S) : At w' B n { R with op := upd R.op c S } := by
  have := h.ok.op c hc
  refine ⟨h.ok, h.lo, h.hi, h.st.fr k (Ne.symm this.1), h.wo.fr k (Ne.symm this.2.1), h.sp.fr k (Ne.symm this.2.2.1), h.fr.fr k (Ne.symm this.2.2.2), fun d hd => ?_⟩
  by_cases e : d = c
  · subst e; simp only [upd_same]; exact hs
  · simp only [upd_ne _ _ e]; exact Row.fr (h.op d hd) k (h.ok.oo d c hd hc e)
/-- Behind a store into the spans. -/
theorem At.setS {rm us : Nat → Nat} (h : At w B n R) (k : Fr (· = B.bs) w w') (hs : Row w' B.bs (2 * n) (spanCell rm us)) : At w' B n { R with rm := rm, us := us } :=
  ⟨h.ok, h.lo, h.hi, h.st.fr k h.ok.ps, h.wo.fr k h.ok.ws, hs, h.fr.fr k (Ne.symm h.ok.sf), fun c hc => Row.fr (h.op c hc) k (h.ok.op c hc).2.2.1⟩
theorem At.setW {wd : Nat → Int} (h : At w B n R) (k : Fr (· = B.bw) w w') (hs : Row w' B.bw (64 * n) (fun i => .int .i64 (wd i))) : At w' B n { R with wd := wd } :=
  ⟨h.ok, h.lo, h.hi, h.st.fr k h.ok.pw, hs, h.sp.fr k (Ne.symm h.ok.ws), h.fr.fr k (Ne.symm h.ok.wf), fun c hc => Row.fr (h.op c hc) k (h.ok.op c hc).2.1⟩
theorem At.storeR (h : At w B n R) (s v : Nat) (hs : s < n) : At (w.setCell ⟨B.bs, s * 2, none⟩ (.int .i64 v)) B n { R with rm := upd R.rm s v } := by
  refine h.setS ((Fr.refl (· = B.bs) w).setCell (p := ⟨B.bs, s * 2, none⟩) rfl _) ((h.sp.set (s * 2) _ (by omega)).ext fun i hi => ?_)
  by_cases e : i = s * 2
  · rw [e, upd_same, spanCell, if_pos (by omega), show s * 2 / 2 = s by omega, upd_same]
  · rw [upd_ne _ _ e, spanCell, spanCell]
    by_cases e2 : i % 2 = 0
    · rw [if_pos e2, if_pos e2, upd_ne _ _ (by omega)]
    · rw [if_neg e2, if_neg e2]
theorem At.storeU (h : At w B n R) (s v : Nat) (hs : s < n) : At (w.setCell ⟨B.bs, s * 2 + 1, none⟩ (.int .u32 v)) B n { R with us := upd R.us s v } := by
  refine h.setS ((Fr.refl (· = B.bs) w).setCell (p := ⟨B.bs, s * 2 + 1, none⟩) rfl _) ((h.sp.set (s * 2 + 1) _ (by omega)).ext fun i hi => ?_)
  by_cases e : i = s * 2 + 1
  · rw [e, upd_same, spanCell, if_neg (by omega), show (s * 2 + 1) / 2 = s by omega, upd_same]
  · rw [upd_ne _ _ e, spanCell, spanCell]
    by_cases e2 : i % 2 = 0
    · rw [if_pos e2, if_pos e2]
    · rw [if_neg e2, if_neg e2, upd_ne _ _ (by omega)]
theorem At.storeW (h : At w B n R) (i : Nat) (v : Int) (hi : i < 64 * n) : At (w.setCell ⟨B.bw, i, none⟩ (.int .i64 v)) B n { R with wd := upd R.wd i v } := by
  refine h.setW ((Fr.refl (· = B.bw) w).setCell (p := ⟨B.bw, i, none⟩) rfl _) ((h.wo.set i _ hi).ext fun j hj => ?_)
  by_cases e : j = i
  · rw [e, upd_same, upd_same]
  · rw [upd_ne _ _ e, upd_ne _ _ e]
theorem At.congr {R' : HR} (h : At w B n R) (e1 : ∀ s, s < n → R.rm s = R'.rm s) (e2 : ∀ s, s < n → R.us s = R'.us s) (e3 : ∀ s, R.fr s = R'.fr s) (e4 : ∀ c, c < 6 → ∀ s, R.op c s = R'.op c s) (e5 : ∀ i, i < 64 * n → R.wd i = R'.wd i) : At w B n R' :=
  ⟨h.ok, h.lo, h.hi, h.st, h.wo.ext fun i hi => by rw [e5 i hi], h.sp.ext fun i hi => by rw [spanCell, spanCell, e1 _ (by omega), e2 _ (by omega)], (funext e3) ▸ h.fr, fun c hc => (funext (e4 c hc)) ▸ h.op c hc⟩
end
def HB.ptr (B : HB) : Value := .pointer (some ⟨B.p, 0, none⟩)
theorem Fr.toMem {B : HB} {w w' : World} (h : Fr (fun _ => False) w w') : Fr B.mem w w' := h.mono fun _ x => x.elim
theorem Fr.fMem {B : HB} {w w' : World} (h : Fr (· = B.bf) w w') : Fr B.mem w w' := h.mono fun _ x => .inr (.inr (.inr (.inl x)))
theorem Fr.sMem {B : HB} {w w' : World} (h : Fr (· = B.bs) w w') : Fr B.mem w w' := h.mono fun _ x => .inr (.inr (.inl x))
theorem Fr.wMem {B : HB} {w w' : World} (h : Fr (· = B.bw) w w') : Fr B.mem w w' := h.mono fun _ x => .inr (.inl x)
theorem Fr.oMem {B : HB} {w w' : World} {c : Nat} (hc : c < 6) (h : Fr (· = B.bo c) w w') : Fr B.mem w w' := h.mono fun _ x => .inr (.inr (.inr (.inr ⟨c, hc, x⟩)))
end Go.Proofs.YtogjblikljggbaaDoor
