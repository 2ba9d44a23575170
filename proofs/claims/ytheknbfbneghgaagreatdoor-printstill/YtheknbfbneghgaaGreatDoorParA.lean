import Derived.Test.YtheknbfbneghgaaGreatDoorParC
import Derived.Test.YtheknbfbneghgaaGreatDoorText
import Derived.Test.YtheknbfbneghgaaGreatDoorParF
set_option maxRecDepth 100000
namespace Go.Proofs.YtheknbfbneghgaaGreatDoor
open Go.RowKit Lx Px
theorem Tryz.info25 : (Tryz.prog.info? 25).map (fun i => (i.zero, i.size, i.bytes)) = some (some (.agg #[.int .i64 0, .string ⟨#[]⟩, .int .i64 0, .int .i64 0, .string ⟨#[]⟩, .int .i64 0, .slice none 0 0]), 7, 88) := by kernel_rfl
theorem zq.own {w : World} {lo hi : Nat} {kv : Value} {l : List Tree} (h : zq w lo hi kv l) : ∀ x, kv.ownBlock = some x → lo ≤ x ∧ x < hi := by
 obtain ⟨cs, h1, h2, _⟩ := h
 exact fun x hx => ⟨(h1.lt x hx).1, h2 x hx⟩
theorem PS.own {w w' : World} {C : Ctx} {k : Nat} {h : Bool} {v : Value} (p : PS w C k h) (ok : C.Ok) (hg : w.grownBy w' v.ownBlock) (hv : ∀ x, v.ownBlock = some x → C.b < x) : PS w' C k h :=
 p.same (hg.block _ p.lt (fun e => by have := hv _ e.symm; omega)) (hg.block _ (blk_lt p.tk) (fun e => by have := hv _ e.symm; have := ok.lt; omega))
theorem push_far {w w1 wf : World} {lo hi a b g cap n : Nat} {kv : Value} {l : List Tree} {cs c : List Value} {t : Tree} (hn : n = l.length + 1)
 (h1 : w1.ownsRow lo 25 7 (.slice (some ⟨g, 0, none⟩) n cap) n (cs ++ c)) (hg : w.grownBy w1 kv.ownBlock) (hat : kv.ownBlock = some g ∨ g = w.heap.size) (hgl : g < w1.heap.size)
 (hk : CellsS w l (fun b => (lo ≤ b ∧ b < hi) ∧ some b ≠ kv.ownBlock) cs) (hhi : hi ≤ w.heap.size) (h3 : ∀ x, kv.ownBlock = some x → x < hi) (k : Nd w a b t c) (hlo : lo ≤ a) (hb : b ≤ w.heap.size) (hd : hi ≤ a)
 (z1 : w1.heap.size ≤ wf.heap.size) (z2 : wf.heap[g]? = w1.heap[g]?) (z3 : Ag lo hi w1 wf) (z4 : Ag a b w1 wf) : zq wf lo wf.heap.size (.slice (some ⟨g, 0, none⟩) n cap) (l ++ [t]) := by
 have hz := hg.size
 have e1 : CellsS wf l (fun b => (lo ≤ b ∧ b < wf.heap.size) ∧ some b ≠ (Value.slice (some ⟨g, 0, none⟩) n cap).ownBlock) cs := by
  refine yZ hk _ fun x hx => ⟨⟨⟨hx.1.1, om⟩, ?_⟩, (z3 x hx.1.1 hx.1.2).trans (hg.block x om hx.2)⟩
  simp only [Value.ownBlock, ne_eq, Option.some.injEq]
  rintro rfl
  rcases hat with h | h
  ·exact hx.2 h.symm
  ·omega
 have e2 : NodeS wf t (fun b => (lo ≤ b ∧ b < wf.heap.size) ∧ some b ≠ (Value.slice (some ⟨g, 0, none⟩) n cap).ownBlock) c := by
  refine node_frame k _ fun x hx => ⟨⟨⟨om, om⟩, ?_⟩, (z4 x hx.1 hx.2).trans (hg.block x om ?_)⟩
  ·simp only [Value.ownBlock, ne_eq, Option.some.injEq]
   rintro rfl
   rcases hat with h | h
   ·have := h3 _ h; omega
   ·omega
  ·intro e
   have := h3 _ e.symm
   omega
 have h1' := ownsRow_blk (w' := wf) h1 (fun x hx => by simp only [Value.ownBlock, Option.some.injEq] at hx; subst hx; exact z2)
 exact ⟨cs ++ c, by simpa [hn] using h1', fun x hx => by simp only [Value.ownBlock, Option.some.injEq] at hx; omega, cells_append e1 (cells_one e2)⟩
theorem wpList_app {ops : Array Oper} {rest : List Oper} {o : Oper} {a : Act} {Q : Exit → Act → World → Prop} {w : World} (hgd : o.guard = none) (s x : Operand) (ho : o.op = .call { callee := .builtin .append, args := #[s, x], argTypes := #[23, 23] })
 {lo hi : Nat} {ao : Option Addr} {cp : Nat} {l : List Tree} {t : Tree} {A B g0 : Nat} {cur : Array Value} (hs : a.eval s = .slice ao l.length cp) (hrow : zq w lo hi (.slice ao l.length cp) l)
 (hx : a.eval x = .slice (some ⟨g0, 0, none⟩) 1 1) (hb : BL w g0 (.cells cur 25)) (hc : Nd w A B t cur.toList) (h7 : cur.size = 7) (h1c : ∀ u ∈ cur.toList, u.oneCell' = true) (hn : l.length ≤ 1000000) (hlo : lo ≤ w.heap.size) (hhi : hi ≤ w.heap.size) (hA : lo ≤ A) (hB : B ≤ w.heap.size) (hd : hi ≤ A)
 (h : ∀ g cp' w', (∀ wf, w'.heap.size ≤ wf.heap.size → wf.heap[g]? = w'.heap[g]? → Ag lo hi w' wf → Ag A B w' wf → zq wf lo wf.heap.size (.slice (some ⟨g, 0, none⟩) (l.length + 1) cp') (l ++ [t])) → w.grownBy w' (Value.slice ao l.length cp).ownBlock → (lo ≤ g ∧ g < hi ∨ g = w.heap.size) → g < w'.heap.size → wpList Tryz.prog ops Q rest (a.put o.dst (.slice (some ⟨g, 0, none⟩) (l.length + 1) cp')) w') : wpList Tryz.prog ops Q (o :: rest) a w := by
 obtain ⟨cs, r1, r2, r3⟩ := hrow
 obtain ⟨i0, hi0, hz0, hz1, hz2⟩ := info_parts Tryz.info25
 refine wpList_append_lies _ hgd s x 23 ho lo 25 i0 _ 7 88 Tryz.underlying23 hi0 hz0 hz1 hz2 rfl dc _ l.length cs hs r1 ⟨g0, 0, none⟩ 1 1 cur.toList hx (by simpa using h7) (World.news_of_block hb) h1c dc (by unfold maxLen; omega) om hlo _ rfl ?_
 intro g cap w' q1 q2 q3 q4
 refine h g cap w' (fun wf z1 z2 z3 z4 => push_far rfl q1 q2 q3 q4 r3 hhi r2 hc hA hB hd z1 z2 z3 z4) q2 ?_ q4
 rcases q3 with q3 | q3
 ·exact .inl ⟨(r1.lt g q3).1, r2 g q3⟩
 ·exact .inr q3
theorem step_app {ops : Array Oper} {o : Oper} {a : Act} {K : Act → World → Prop} {Q : Exit → Act → World → Prop} {E : Prop} {w : World} (hgd : o.guard = none) (s x : Operand) (ho : o.op = .call { callee := .builtin .append, args := #[s, x], argTypes := #[23, 23] })
 {lo hi : Nat} {ao : Option Addr} {cp : Nat} {l : List Tree} {t : Tree} {A B g0 : Nat} {cur : Array Value} (hs : a.eval s = .slice ao l.length cp) (hrow : zq w lo hi (.slice ao l.length cp) l)
 (hx : a.eval x = .slice (some ⟨g0, 0, none⟩) 1 1) (hb : BL w g0 (.cells cur 25)) (hc : Nd w A B t cur.toList) (h7 : cur.size = 7) (h1c : ∀ u ∈ cur.toList, u.oneCell' = true) (hn : l.length ≤ 1000000) (hlo : lo ≤ w.heap.size) (hhi : hi ≤ w.heap.size) (hA : lo ≤ A) (hB : B ≤ w.heap.size) (hd : hi ≤ A)
 (h : ∀ g cp' w', (∀ wf, w'.heap.size ≤ wf.heap.size → wf.heap[g]? = w'.heap[g]? → Ag lo hi w' wf → Ag A B w' wf → zq wf lo wf.heap.size (.slice (some ⟨g, 0, none⟩) (l.length + 1) cp') (l ++ [t])) → w.grownBy w' (Value.slice ao l.length cp).ownBlock → (lo ≤ g ∧ g < hi ∨ g = w.heap.size) → g < w'.heap.size → K (a.put o.dst (.slice (some ⟨g, 0, none⟩) (l.length + 1) cp')) w') :
 if Region.wanted o (yielded ops a.tmps) = true then Oper.wp Tryz.prog o a w K Q else E := by
 obtain ⟨cs, r1, r2, r3⟩ := hrow
 obtain ⟨i0, hi0, hz0, hz1, hz2⟩ := info_parts Tryz.info25
 refine step_append_lies _ hgd s x 23 ho lo 25 i0 _ 7 88 Tryz.underlying23 hi0 hz0 hz1 hz2 rfl dc _ l.length cs hs r1 ⟨g0, 0, none⟩ 1 1 cur.toList hx (by simpa using h7) (World.news_of_block hb) h1c dc (by unfold maxLen; omega) om hlo _ rfl ?_
 intro g cap w' q1 q2 q3 q4
 refine h g cap w' (fun wf z1 z2 z3 z4 => push_far rfl q1 q2 q3 q4 r3 hhi r2 hc hA hB hd z1 z2 z3 z4) q2 ?_ q4
 rcases q3 with q3 | q3
 ·exact .inl ⟨(r1.lt g q3).1, r2 g q3⟩
 ·exact .inr q3
theorem one7 {kd nm ps : Int} {tx : ByteArray} {ao : Option Addr} {n cp : Nat} : ∀ u ∈ (#[Value.int .i64 kd, .string tx, .int .i64 nm, .int .i64 ps, .string ⟨#[]⟩, .int .i64 0, .slice ao n cp] : Array Value).toList, u.oneCell' = true := by
 simp [Value.oneCell']
theorem rowB {w : World} {lo hi a b g : Nat} {t : Tree} {cur : Array Value} (hb : BL w g (.cells cur 25)) (hc : Nd w a b t cur.toList) (hs : cur.size = 7) (hlo : lo ≤ g) (hla : lo ≤ a) (hhi : g < hi) (hbi : b ≤ hi) (hd : g < a ∨ b ≤ g) : zq w lo hi (.slice (some ⟨g, 0, none⟩) 1 1) [t] :=
 row1 hb hc hs hlo hla hhi hbi hd
theorem rowL {w : World} {lo hi g : Nat} {l : List Tree} {cur : Array Value} {n : Nat} (hb : BL w g (.cells cur 25)) (hn : n = l.length) (hs : cur.size = n * 7) (hm : n ≤ 1000000) (hlo : lo ≤ g) (hhi : g < hi) (h : Kids w lo hi g l cur.toList) : zq w lo hi (.slice (some ⟨g, 0, none⟩) n n) l :=
 zq.lit hb hn hs hm hlo hhi h
end Go.Proofs.YtheknbfbneghgaaGreatDoor
