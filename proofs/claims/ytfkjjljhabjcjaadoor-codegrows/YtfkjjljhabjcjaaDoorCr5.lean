/- The reader: lists, what holds between two items. -/
import Derived.Test.YtfkjjljhabjcjaaDoorCr4
namespace Go.Proofs.YtfkjjljhabjcjaaDoor
open Go.RowKit Go.Proofs.YtfkjjljhabjcjaaDoor.Cx
theorem chunk_at {α : Type} {size : Nat} : ∀ (items : List (α × List Value)) (j k : Nat) (u : Value) (hj : j < items.length), (∀ p ∈ items, p.2.length = size) → items[j].2[k]? = some u → (items.flatMap (·.2))[j * size + k]? = some u
  | p :: items, 0, k, u, _, hs, h => by
    have hk : k < p.2.length := by
      rcases Nat.lt_or_ge k p.2.length with h1 | h1
      · exact h1
      · have h' : p.2[k]? = some u := h
        rw [List.getElem?_eq_none h1] at h'; cases h'
    rw [List.flatMap_cons, Nat.zero_mul, Nat.zero_add, List.getElem?_append_left hk]
    exact h
  | p :: items, j + 1, k, u, hj, hs, h => by
    have hp : p.2.length = size := hs p (by simp)
    have ih := chunk_at items j k u (by simpa using hj) (fun q hq => hs q (by simp [hq])) h
    rw [List.flatMap_cons, List.getElem?_append_right (by rw [hp, Nat.succ_mul]; omega)]
    rw [hp, show (j + 1) * size + k - size = j * size + k by rw [Nat.succ_mul]; omega]
    exact ih
  | [], j, k, u, hj, _, _ => by simp at hj
theorem chunks_len {α : Type} {size : Nat} : ∀ (items : List (α × List Value)), (∀ p ∈ items, p.2.length = size) → (items.flatMap (·.2)).length = items.length * size
  | [], _ => by simp
  | p :: items, hs => by
    rw [List.flatMap_cons, List.length_append, hs p (by simp), chunks_len items fun q hq => hs q (by simp [hq]), List.length_cons, Nat.succ_mul]; omega
theorem few_items {α : Type} {enc : α → List UInt8} (hne : ∀ x, 0 < (enc x).length) : ∀ l : List α, l.length ≤ (l.flatMap enc).length
  | [] => by simp
  | x :: l => by
    rw [List.flatMap_cons, List.length_append, List.length_cons]
    have := few_items hne l
    have := hne x
    omega
section
variable {α : Type} (C : (Nat → Prop) → World → α → List Value → Prop) (size ET : Nat) (enc : α → List UInt8) (ok : α → Prop) (pe pf : Addr) (rp lo : Nat) (b : List UInt8) (a : Option Addr) (cap : Nat) (st : Option Nat)
/-- nn items are read, m are left, the reader is at i'. -/
def Good (w wr : World) (N m : Nat) (ao : Option Addr) (nn cp i' : Nat) : Prop :=
  ∃ (i0 : Nat) (items : List (α × List Value)), st = some i0 ∧ okS N ∧ At b i0 (sz N) ∧ items.length = nn ∧ nn + m = N ∧ wr.ownsRow w.heap.size ET size (.slice ao nn cp) nn (items.flatMap (·.2)) ∧
    (∀ p ∈ items, ok p.1 ∧ C (fun k => w.heap.size ≤ k ∧ k < wr.heap.size ∧ (Value.slice ao nn cp).ownBlock ≠ some k) wr p.1 p.2 ∧ p.2.length = size) ∧
    At b (i0 + (sz N).length) ((items.map (·.1)).flatMap enc) ∧ i' = i0 + (sz N).length + ((items.map (·.1)).flatMap enc).length
def LI (w wr : World) (N m : Nat) (ao : Option Addr) (nn cp : Nat) (st' : Option Nat) : Prop :=
  lo ≤ w.heap.size ∧ Fr (· = rp) w wr ∧ Rd pe pf wr rp lo b a cap st' ∧ (∀ i', st' = some i' → Good C size ET enc ok b st w wr N m ao nn cp i') ∧ (st' = none → Res b st none (encL enc) (okL ok) (fun _ => True))
end
section
variable {α : Type} {C : (Nat → Prop) → World → α → List Value → Prop} {size ET : Nat} {enc : α → List UInt8} {ok : α → Prop} {pe pf : Addr} {rp lo : Nat} {b : List UInt8} {a : Option Addr} {cap : Nat} {st : Option Nat}
theorem LI.start {w w1 : World} {N : Nat} (hlo : lo ≤ w.heap.size) (h : RdP pe pf rp lo b a cap st sz okS (fun _ y => y = N) w w1) : ∃ st', LI C size ET enc ok pe pf rp lo b a cap st w w1 N N none 0 0 st' := by
  obtain ⟨hF, st1, hR, hS⟩ := h
  refine ⟨st1, hlo, hF, hR, fun i' e => ?_, fun e => ?_⟩
  · subst e
    cases st with
    | none => exact hS.elim
    | some i0 =>
      obtain ⟨y, h1, h2, h3, rfl⟩ := hS
      exact ⟨i0, [], rfl, h1, h2, rfl, Nat.zero_add _, ⟨by simp, .inl ⟨rfl, rfl⟩⟩, fun p hp => by simp at hp, At.nil _ _, by simpa using h3⟩
  · subst e
    cases st with
    | none => trivial
    | some i0 =>
      intro l hl ha
      exact hS _ hl.1 (At.app.1 ha).1
theorem LI.step (hC : Gd C) (hpf : Pf enc) {w wr W1 W2 : World} {N m nn cp i' g cap2 : Nat} {ao : Option Addr} {cs : List Value} {o : Obj} (h : LI C size ET enc ok pe pf rp lo b a cap st w wr N (m + 1) ao nn cp (some i'))
    (hcs : cs.length = size) (hr : RdP pe pf rp lo b a cap (some i') enc ok (fun W y => C (fun k => wr.heap.size ≤ k ∧ k < W.heap.size) W y cs) wr W1)
    (ho : ∀ xs, W1.ownsRow w.heap.size ET size (.slice ao nn cp) nn xs → W2.ownsRow w.heap.size ET size (.slice (some ⟨g, 0, none⟩) (nn + 1) cap2) (nn + 1) (xs ++ cs)) (hg : (W1.alloc o).grownBy W2 (Value.slice ao nn cp).ownBlock) (hat : (Value.slice ao nn cp).ownBlock = some g ∨ g = W1.heap.size + 1) :
    ∃ st', LI C size ET enc ok pe pf rp lo b a cap st w W2 N m (some ⟨g, 0, none⟩) (nn + 1) cap2 st' := by
  obtain ⟨hlo, hF, hR, hG, _⟩ := h
  obtain ⟨i0, items, rfl, hN, hA0, hlen, hsum, hown, hall, hA, hi'⟩ := hG i' rfl
  obtain ⟨hF1, st1, hR1, hS⟩ := hr
  have hrp : rp < w.heap.size := Nat.lt_of_lt_of_le hR.rlo hlo
  have hown_lt : ∀ k, (Value.slice ao nn cp).ownBlock = some k → w.heap.size ≤ k ∧ k < wr.heap.size := fun k hk => hown.lt k hk
  have hs1 := hF1.size
  have hs0 := hF.size
  have hs2 : W1.heap.size + 1 ≤ W2.heap.size := by have := hg.size; simpa using this
  have hF2 : Fr (fun k => some k = (Value.slice ao nn cp).ownBlock) W1 W2 := ((Fr.refl _ W1).alloc o).trans (Fr.grown hg)
  have hFw : Fr (· = rp) w W2 := (hF.trans hF1).up hF2 fun k hk => .inr (hown_lt k hk.symm).1
  have hR2 : Rd pe pf W2 rp lo b a cap st1 := hR1.fr hF2 fun k hk => Nat.le_trans hlo (hown_lt k hk.symm).1
  have hown1 : W1.ownsRow w.heap.size ET size (.slice ao nn cp) nn (items.flatMap (·.2)) := own_blk hown fun k hk => hF1.block k (hown_lt k hk).2 (fun e => by have := (hown_lt k hk).1; omega)
  refine ⟨st1, hlo, hFw, hR2, fun i2 e => ?_, fun e => ?_⟩
  · subst e
    obtain ⟨y, hy1, hy2, hy3, hy4⟩ := hS
    have hnew : C (fun k => w.heap.size ≤ k ∧ k < W2.heap.size ∧ (Value.slice (some ⟨g, 0, none⟩) (nn + 1) cap2).ownBlock ≠ some k) W2 y cs := by
      refine hC.mono ?_ (hC.same (w := W1) (fun k hk => hF2.block k hk.2 (fun e => by have := (hown_lt k e.symm).2; omega)) hy4)
      rintro k ⟨h1, h2⟩
      refine ⟨by omega, by omega, fun e => ?_⟩
      have : g = k := by simpa [Value.ownBlock] using e
      rcases hat with h3 | h3
      · have := (hown_lt g h3).2; omega
      · omega
    refine ⟨i0, items ++ [(y, cs)], rfl, hN, hA0, by simp [hlen], by omega, ?_, ?_, ?_, ?_⟩
    · have := ho _ hown1
      rw [List.flatMap_append]
      simpa using this
    · intro p hp
      rcases List.mem_append.1 hp with hp | hp
      · obtain ⟨h1, h2, h3⟩ := hall p hp
        refine ⟨h1, ?_, h3⟩
        refine hC.mono ?_ (hC.same (w := wr) (fun k hk => (hF2.block k (by omega) (fun e => hk.2.2 e.symm)).trans (hF1.block k hk.2.1 (fun e => by have := hk.1; omega))) h2)
        rintro k ⟨k1, k2, k3⟩
        refine ⟨k1, by omega, fun e => ?_⟩
        have : g = k := by simpa [Value.ownBlock] using e
        rcases hat with h4 | h4
        · exact k3 (by rw [h4, this])
        · omega
      · have : p = (y, cs) := by simpa using hp
        subst this
        exact ⟨hy1, hnew, hcs⟩
    · rw [List.map_append, List.flatMap_append, At.app]
      refine ⟨hA, ?_⟩
      simp only [List.map_cons, List.map_nil, List.flatMap_cons, List.flatMap_nil, List.append_nil]
      rw [← hi']; exact hy2
    · rw [hy3, hi', List.map_append, List.flatMap_append, List.length_append]
      simp; omega
  · subst e
    intro l hl ha
    rw [encL, At.app] at ha
    have hlN : l.length = N := At.uniq sz_pf ha.1 hA0
    rw [hlN] at ha
    exact list_end hpf (xs := items.map (·.1)) hA (by simp; omega) (by rw [← hi']; exact hS) l hlN hl.2 ha.2
theorem LI.items_le (hne : ∀ x, 0 < (enc x).length) {w wr : World} {N m nn cp i' : Nat} {ao : Option Addr} (h : LI C size ET enc ok pe pf rp lo b a cap st w wr N m ao nn cp (some i')) : nn ≤ b.length := by
  obtain ⟨_, _, _, hG, _⟩ := h
  obtain ⟨i0, items, _, _, _, hlen, _, _, _, hA, _⟩ := hG i' rfl
  have h1 := hA.len
  have h2 := few_items hne (items.map (·.1))
  simp at h2 h1
  omega
theorem LI.own {w wr : World} {N m nn cp i' : Nat} {ao : Option Addr} (h : LI C size ET enc ok pe pf rp lo b a cap st w wr N m ao nn cp (some i')) : ∃ xs, wr.ownsRow w.heap.size ET size (.slice ao nn cp) nn xs := by
  obtain ⟨_, _, _, hG, _⟩ := h
  obtain ⟨i0, items, _, _, _, _, _, h1, _⟩ := hG i' rfl
  exact ⟨_, h1⟩
theorem LI.done (hC : Gd C) (hne : ∀ x, 0 < (enc x).length) {w wr : World} {N m nn cp : Nat} {ao : Option Addr} {st' : Option Nat} (h : LI C size ET enc ok pe pf rp lo b a cap st w wr N m ao nn cp st') (hm : ∀ i', st' = some i' → m = 0) :
    RdP pe pf rp lo b a cap st (encL enc) (okL ok) (fun W l => l.length = nn ∧ RowOf C size (fun k => w.heap.size ≤ k ∧ k < W.heap.size) W l ao) w wr := by
  have hle := fun i' (e : st' = some i') => LI.items_le (i' := i') hne (e ▸ h)
  obtain ⟨hlo, hF, hR, hG, hB⟩ := h
  refine ⟨hF, st', hR, ?_⟩
  cases st' with
  | none =>
    have := hB rfl
    cases st with
    | none => trivial
    | some i0 => exact this
  | some i' =>
    obtain ⟨i0, items, rfl, hN, hA0, hlen, hsum, hown, hall, hA, hi'⟩ := hG i' rfl
    obtain rfl := hm i' rfl
    have hnn : (items.map (·.1)).length = N := by simp; omega
    refine ⟨items.map (·.1), ⟨by rw [hnn]; exact hN, fun x hx => ?_⟩, ?_, ?_, by simp [hlen], ?_, ?_⟩
    · obtain ⟨p, hp, rfl⟩ := List.mem_map.1 hx
      exact (hall p hp).1
    · rw [encL, hnn, At.app]; exact ⟨hA0, hA⟩
    · rw [hi', encL, hnn, List.length_append]; omega
    · have := hle i' rfl
      have := hR.few
      simp; omega
    · intro j hj
      have hj' : j < items.length := by simpa using hj
      obtain ⟨ao', cp', e, hg⟩ := own_form hown
      simp only [Value.slice.injEq] at e
      obtain ⟨rfl, _, rfl⟩ := e
      obtain ⟨g, rfl⟩ := hg (by omega)
      obtain ⟨h1, h2, h3⟩ := hall items[j] (List.getElem_mem _)
      have hgl := hown.lt g rfl
      refine ⟨g, 0, items[j].2, rfl, ⟨hgl.1, hgl.2⟩, ?_, h3, fun k u hk => ?_⟩
      · rw [List.getElem_map]
        exact hC.mono (fun k hk => ⟨hk.1, hk.2.1⟩) h2
      · have hc := chunk_at items j k u hj' (fun p hp => (hall p hp).2.2) hk
        have hl : j * size + k < (items.flatMap (·.2)).length := by
          rcases Nat.lt_or_ge (j * size + k) (items.flatMap (·.2)).length with h4 | h4
          · exact h4
          · rw [List.getElem?_eq_none h4] at hc; cases hc
        rw [Nat.zero_add, hown.cellAt (j * size + k) (by rw [← hown.1]; exact hl)]
        exact hc
end
end Go.Proofs.YtfkjjljhabjcjaaDoor
