/- used, instr. -/
import Derived.Test.YtipnefogflpkhaaDoorAe0
set_option linter.unusedVariables false
set_option linter.unusedSimpArgs false
namespace Go.Proofs.YtipnefogflpkhaaDoor
open Go.RowKit
def usedP (x : Ins) (c : UInt8) : Part := if c = 65 then .n x.a else if c = 66 then .n x.b else if c = 67 then .n x.c else if c = 68 then .n x.d else .l x.list
/-- What is used is one of five letters. -/
def Let (c : UInt8) : Prop := c = 65 ∨ c = 66 ∨ c = 67 ∨ c = 68 ∨ c = 76
def UsedQ (B : Nat) (w : World) (p : Part) (e : Ending) (w' : World) : Prop := (∃ v, e = .returned v ∧ PartV B w' p v) ∧ w.grownBy w' none
theorem used_q {B : Nat} {w : World} {x : Ins} {cs : List Value} (hB : B ≤ w.heap.size) (h : insC (· < B) w x cs) (c : UInt8) (hc : Let c) (o : Obj) (v : Value)
    (hv : ∀ (al : Option Addr) (cap : Nat), cs = [.int .i64 x.op, .int .i64 x.a, .int .i64 x.b, .int .i64 x.c, .int .i64 x.d, .slice al x.list.length cap] →
      v = (if c = 65 then .iface 3 (.int .i64 x.a) else if c = 66 then .iface 3 (.int .i64 x.b) else if c = 67 then .iface 3 (.int .i64 x.c) else if c = 68 then .iface 3 (.int .i64 x.d) else .iface 59 (.slice al x.list.length cap))) : UsedQ B w (usedP x c) (.returned v) (w.alloc o) := by
  refine ⟨⟨v, rfl, ?_⟩, World.grownBy_alloc w o none⟩
  obtain ⟨⟨h1, h2, h3, h4, h5⟩, al, cap, e, hr⟩ := h
  rw [hv al cap e]
  unfold usedP
  rcases hc with rfl | rfl | rfl | rfl | rfl
  · exact ⟨h2, rfl⟩
  · exact ⟨h3, rfl⟩
  · exact ⟨h4, rfl⟩
  · exact ⟨h5, rfl⟩
  · exact ⟨al, cap, rfl, numG.rowS (fun k hk => Below.heap_alloc _ _ _ (by omega)) hr⟩
set_option maxRecDepth 100000 in
set_option maxHeartbeats 4000000 in
theorem used_any (B : Nat) (w : World) (x : Ins) (cs : List Value) (c : UInt8) (hB : B ≤ w.heap.size) (h : insC (· < B) w x cs) (hc : Let c) :
    Calls Tryd.prog 28 #[.agg cs.toArray, .int .i32 c.toNat] w fun e w' => UsedQ B w (usedP x c) e w' := by
  obtain ⟨ho, al, cap, rfl, hr⟩ := h
  have HQ : Hid (∀ v, _ → UsedQ B w (usedP x c) (.returned v) (w.alloc (.cells #[.int .i64 x.op, .int .i64 x.a, .int .i64 x.b, .int .i64 x.c, .int .i64 x.d, .slice al x.list.length cap] 34))) := hide (fun v hv => used_q hB ⟨ho, al, cap, rfl, hr⟩ c hc _ v (fun al' cap' e => by
    have e' : Value.slice al x.list.length cap = .slice al' x.list.length cap' := by simpa using e
    cases e'
    exact hv))
  clear hr ho
  go_enter Tryd.func28, Tryd.ntmps28
  rcases hc with rfl | rfl | rfl | rfl | rfl
  · go_wp2
    go_ret
    exact (unhide HQ) _ rfl
  · go_wp2
    go_ret
    exact (unhide HQ) _ rfl
  · go_wp2
    go_ret
    exact (unhide HQ) _ rfl
  · go_wp2
    go_ret
    exact (unhide HQ) _ rfl
  · go_wp2
    go_ret
    exact (unhide HQ) _ rfl
theorem Wr.keep {k : Bool} {B b : Nat} {l : List UInt8} {w w' : World} (h : Wr k B b l w) (hs : w.heap.size ≤ w'.heap.size) (hb : ∀ j, (j = b ∨ Ty w j 5) → w'.heap[j]? = w.heap[j]?) : Wr k B b l w' := by
  refine ⟨?_, Nat.le_trans h.size hs⟩
  have key : ∀ p, PAt k B b p (Lib.byteCells l) w → PAt k B b p (Lib.byteCells l) w' := by
    rintro p ⟨hB, v, hbk, hown, hne⟩
    refine ⟨hB, v, (hb b (.inl rfl)).trans hbk, ⟨hown.1, ?_⟩, hne⟩
    rcases hown.2 with hn | ⟨g, cap, cur, fz, hv, hbg, hg, rest⟩
    · exact .inl hn
    · exact .inr ⟨g, cap, cur, fz, hv, hbg, (hb g (.inr ⟨cur, fz, hg⟩)).trans hg, rest⟩
  exact h.pb.elim (fun x => .inl (key _ x)) (fun x => .inr (key _ x))
theorem WF.up {B b : Nat} {w0 w w' : World} (h : WF B b w0 w) (h1 : w'.os = w.os) (h2 : w'.tape = w.tape) (h3 : w'.output = w.output) (hs : w.heap.size ≤ w'.heap.size) (hB : B ≤ w0.heap.size) (hb : ∀ j, j < w0.heap.size → w'.heap[j]? = w.heap[j]?) : WF B b w0 w' :=
  ⟨⟨h1.trans h.below.os, h2.trans h.below.tape, h3.trans h.below.output, Nat.le_trans h.below.size hs, fun j hj => (hb j (by omega)).trans (h.below.block j hj)⟩,
   fun j o hj hjb ho => (hb j (Array.getElem?_eq_some_iff.1 hj).1).trans (h.others j o hj hjb ho)⟩
theorem info20 : (Tryd.prog.info? 20).map (fun i => (i.zero, i.size, i.bytes)) = some (some .nilIface, 1, 16) := by kernel_rfl
def insP (k : Nat) (x : Ins) (j : Nat) : List Part := [.s ⟨#[9]⟩, .n k, .s ⟨#[32]⟩, .s (nm (nrm x.op))] ++ ((usL.getD (nrm x.op) []).take j).flatMap fun c => [.s ⟨#[32]⟩, usedP x c]
def posOf (w : World) (k : Nat) : Nat := match w.heap[k]? with | some (.stringIter _ p) => p | _ => 0
theorem letters_ok (i : Nat) : ∀ c ∈ usL.getD i [], Let c := by
  rcases Nat.lt_or_ge i 57 with h | h
  · have : ∀ i, i < 57 → ∀ c ∈ usL.getD i [], c = 65 ∨ c = 66 ∨ c = 67 ∨ c = 68 ∨ c = 76 := by decide
    exact this i h
  · have : usL.length = 57 := by rfl
    simp [List.getD_eq_getElem?_getD, List.getElem?_eq_none (show usL.length ≤ i by omega)]
/-- An instruction's line under way. -/
structure IS (B b : Nat) (w0 : World) (l : List UInt8) (x : Ins) (al : Option Addr) (cap : Nat) (u : ByteArray) (ps : List Part) (pv : Value) (j : Nat) (w : World) : Prop where
  wr : Wr false B b l w
  wf : WF B b w0 w
  iter : w.heap[w0.heap.size + 2]? = some (.stringIter u j)
  ins : w.heap[w0.heap.size]? = some (.cells #[.int .i64 x.op, .int .i64 x.a, .int .i64 x.b, .int .i64 x.c, .int .i64 x.d, .slice al x.list.length cap] 34)
  own : ∃ vs, w.ownsRowF (w0.heap.size + 1) 20 1 pv ps.length vs ∧ ∀ i (h : i < ps.length), ∃ v, vs[i]? = some v ∧ PartV B w ps[i] v
theorem ownF_blk {w w' : World} {base e size n : Nat} {v : Value} {xs : List Value} (h : w.ownsRowF base e size v n xs) (hb : ∀ g, v.ownBlock = some g → w'.heap[g]? = w.heap[g]?) : w'.ownsRowF base e size v n xs := by
  refine ⟨h.1, ?_⟩
  rcases h.2 with h2 | ⟨g, cap, cur, fz, rfl, h3, h4, h5⟩
  · exact .inl h2
  · exact .inr ⟨g, cap, cur, fz, rfl, h3, (hb g rfl).trans h4, h5⟩
theorem Wr.ty {k : Bool} {B b : Nat} {l : List UInt8} {w : World} (h : Wr k B b l w) : Ty w b (bt k) := by
  rcases h.pb with ⟨_, v, hb, _⟩ | ⟨_, v, hb, _⟩
  · exact ⟨_, _, hb⟩
  · exact ⟨_, _, hb⟩
/-- All that a step that only makes new things leaves. -/
theorem IS.grown {B b : Nat} {w0 : World} {l : List UInt8} {x : Ins} {al : Option Addr} {cap : Nat} {u : ByteArray} {ps : List Part} {pv : Value} {j : Nat} {w w' : World} (h : IS B b w0 l x al cap u ps pv j w) (hB : B ≤ w0.heap.size) (hg : w.grownBy w' none) : IS B b w0 l x al cap u ps pv j w' := by
  have key : ∀ k, k < w.heap.size → w'.heap[k]? = w.heap[k]? := fun k hk => hg.block k hk (by simp)
  have lt : ∀ {k o}, w.heap[k]? = some o → k < w.heap.size := fun h => (Array.getElem?_eq_some_iff.1 h).1
  refine ⟨h.wr.grown hg, h.wf.grownN h.wr.size hg, (key _ (lt h.iter)).trans h.iter, (key _ (lt h.ins)).trans h.ins, ?_⟩
  obtain ⟨vs, ho, hp⟩ := h.own
  exact ⟨vs, ho.kept hg (by cases hv : pv.ownBlock <;> simp), fun i hi => by
    obtain ⟨v, h1, h2⟩ := hp i hi
    exact ⟨v, h1, h2.same fun k hk => key k (by have := h.wr.size; omega)⟩⟩
/-- The iterator moved on. -/
theorem IS.next {B b : Nat} {w0 : World} {l : List UInt8} {x : Ins} {al : Option Addr} {cap : Nat} {u : ByteArray} {ps : List Part} {pv : Value} {j : Nat} {w : World} (h : IS B b w0 l x al cap u ps pv j w) (hB : B ≤ w0.heap.size) : IS B b w0 l x al cap u ps pv (j + 1) (w.iterAt (w0.heap.size + 2) u (j + 1)) := by
  have key : ∀ k, k ≠ w0.heap.size + 2 → (w.iterAt (w0.heap.size + 2) u (j + 1)).heap[k]? = w.heap[k]? := fun k hk => Lib.iterAt_other w _ k u _ hk
  have hit := h.iter
  have hT : ∀ k t, Ty w k t → k ≠ w0.heap.size + 2 := by
    rintro k t ⟨cs, fz, hc⟩ rfl
    rw [hit] at hc
    cases hc
  obtain ⟨vs, ho, hp⟩ := h.own
  refine ⟨h.wr.keep (by rw [Lib.iterAt_size]; exact Nat.le_refl _) (fun k hk => key k ?_), h.wf.up rfl rfl rfl (by rw [Lib.iterAt_size]; exact Nat.le_refl _) hB (fun k hk => key k (by omega)), Lib.iterAt_heap w _ u j (j + 1) hit, (key _ (by omega)).trans h.ins, vs, ownF_blk ho (fun g hg => key g ?_), fun i hi => ?_⟩
  · rcases hk with rfl | hk
    · exact hT _ _ h.wr.ty
    · exact hT _ _ hk
  · obtain ⟨c, fz, hc⟩ := Lib.ownsRowF_kind ho g hg
    exact hT _ _ ⟨c, fz, hc⟩
  · obtain ⟨v, h1, h2⟩ := hp i hi
    exact ⟨v, h1, h2.same fun k hk => key k (by omega)⟩
/-- Two parts more. -/
theorem IS.push {B b : Nat} {w0 : World} {l : List UInt8} {x : Ins} {al : Option Addr} {cap : Nat} {u : ByteArray} {ps : List Part} {pv pv' : Value} {j : Nat} {w w' : World} {vs : List Value} {p q : Part} {v1 v2 : Value} (h : IS B b w0 l x al cap u ps pv j w) (hB : B ≤ w0.heap.size)
    (ho : w.ownsRowF (w0.heap.size + 1) 20 1 pv ps.length vs) (hp : ∀ i (h : i < ps.length), ∃ v, vs[i]? = some v ∧ PartV B w ps[i] v) (h1 : PartV B w p v1) (h2 : PartV B w q v2)
    (ho' : w'.ownsRowF (w0.heap.size + 1) 20 1 pv' (ps.length + 2) (vs ++ [v1, v2])) (hg : w.grownBy w' pv.ownBlock) : IS B b w0 l x al cap u (ps ++ [p, q]) pv' j w' := by
  have hT : ∀ g, pv.ownBlock = some g → Ty w g 20 ∧ w0.heap.size + 1 ≤ g := fun g hg => ⟨by obtain ⟨c, fz, hc⟩ := Lib.ownsRowF_kind ho g hg; exact ⟨c, fz, hc⟩, (ho.lt g hg).1⟩
  have key : ∀ k, k < w.heap.size → (¬ Ty w k 20 ∨ k < w0.heap.size + 1) → w'.heap[k]? = w.heap[k]? := fun k hk hn => hg.block k hk (fun e => by
    obtain ⟨h3, h4⟩ := hT k e.symm
    rcases hn with hn | hn
    · exact hn h3
    · omega)
  have lt : ∀ {k o}, w.heap[k]? = some o → k < w.heap.size := fun h => (Array.getElem?_eq_some_iff.1 h).1
  have hsz := h.wf.below.size
  have lenv : vs.length = ps.length := by have := ho.1; omega
  have same : ∀ {p v}, PartV B w p v → PartV B w' p v := fun hv => hv.same fun k hk => key k (by omega) (.inr (by omega))
  refine ⟨h.wr.keep hg.size (fun k hk => ?_), h.wf.up hg.os hg.tape hg.output hg.size hB (fun k hk => key k (by omega) (.inr (by omega))), (key _ (lt h.iter) (.inl ?_)).trans h.iter, (key _ (lt h.ins) (.inr (by omega))).trans h.ins, vs ++ [v1, v2], by rw [List.length_append]; exact ho', fun i hi => ?_⟩
  · rcases hk with rfl | hk
    · exact key _ h.wr.ty.lt (.inl (h.wr.ty.ne (by decide)))
    · exact key _ hk.lt (.inl (hk.ne (by decide)))
  · rintro ⟨cs, fz, hc⟩
    rw [h.iter] at hc
    cases hc
  · rw [List.length_append] at hi
    simp only [List.length_cons, List.length_nil] at hi
    rcases Nat.lt_or_ge i ps.length with hlt | hge
    · obtain ⟨v, hv1, hv2⟩ := hp i hlt
      exact ⟨v, by rw [List.getElem?_append_left (by omega)]; exact hv1, by rw [List.getElem_append_left hlt]; exact same hv2⟩
    · rcases Nat.lt_or_ge i (ps.length + 1) with h5 | h5
      · obtain rfl : i = ps.length := by omega
        exact ⟨v1, by rw [List.getElem?_append_right (by omega), lenv]; simp, by rw [List.getElem_append_right (by omega)]; simpa using same h1⟩
      · obtain rfl : i = ps.length + 1 := by omega
        exact ⟨v2, by rw [List.getElem?_append_right (by omega), lenv]; simp, by rw [List.getElem_append_right (by omega)]; simpa using same h2⟩
end Go.Proofs.YtipnefogflpkhaaDoor
