/- CodeGrows: what the walk of its drawn statement wants. -/
import Derived.Test.YtfkjjljhabjcjaaDoorLg1
import Derived.Deep.RegionHeld2
namespace Go.Proofs.YtfkjjljhabjcjaaDoor
open Go.RowKit Go.Proofs.YtfkjjljhabjcjaaDoor.Cx
/-- A block with these cells. -/
def Blk (W : World) (b : Nat) (cs : List Value) (t : Nat) : Prop := Box W b cs ∧ Ty W b t
theorem Blk.new (W : World) (cs : List Value) (t : Nat) : Blk (W.alloc (.cells cs.toArray t)) W.heap.size cs t := ⟨Box.new W cs t, Ty.new W _ t⟩
theorem Blk.alloc {W : World} {b : Nat} {cs : List Value} {t : Nat} (h : Blk W b cs t) (o : Obj) : Blk (W.alloc o) b cs t := ⟨h.1.fr ((Fr.refl _ W).alloc o), h.2.alloc o⟩
theorem Blk.lt {W : World} {b : Nat} {cs : List Value} {t : Nat} (h : Blk W b cs t) : b < W.heap.size := h.2.lt
theorem Blk.grown {W W' : World} {b g : Nat} {cs : List Value} {t : Nat} (h : Blk W b cs t) (hg : W.grownBy W' (some g)) (hne : b ≠ g) : Blk W' b cs t := by
  have hb : W'.heap[b]? = W.heap[b]? := hg.block b h.lt fun e => hne (Option.some.inj e)
  exact ⟨fun j v hj => (World.cell?_of_block (w := W) (a := ⟨b, j, none⟩) hb).trans (h.1 j v hj), h.2.same hb⟩
theorem Blk.ne {W : World} {b g base e size n cap : Nat} {cs xs : List Value} {t : Nat} (h : Blk W b cs t) (ho : W.ownsRow base e size (.slice (some ⟨g, 0, none⟩) n cap) n xs) (ht : t ≠ e) : b ≠ g := fun hb => by
  subst hb
  exact h.2.ne ht (Ty.own ho rfl)
theorem made0 {b : Nat} (W : World) (hb : b ≤ W.heap.size) : (W.alloc (.cells #[] 38)).ownsRow b 38 6 (.slice (some ⟨W.heap.size, 0, none⟩) 0 0) 0 [] :=
  World.ownsRow_made (base := b) (e := 38) (size := 6) W #[] 0 hb (by decide) rfl
theorem Tryd.info38 : (Tryd.prog.info? 38).map (fun i => (i.zero, i.size, i.bytes)) = some (some (.agg #[.string ⟨#[]⟩, .slice none 0 0, .int .i64 0, .int .i64 0, .bool false, .slice none 0 0]), 6, 88) := by kernel_rfl
theorem six_one {s : ByteArray} {rb cb : Nat} : ∀ u ∈ [Value.string s, .slice (some ⟨rb, 0, none⟩) 2 2, .int .i64 0, .int .i64 0, .bool false, .slice (some ⟨cb, 0, none⟩) 3 3], u.oneCell' = true := by
  intro u hu
  simp only [List.mem_cons, List.not_mem_nil, or_false] at hu
  rcases hu with rfl | rfl | rfl | rfl | rfl | rfl <;> rfl
theorem box_src {W : World} {b : Nat} {cs : List Value} (h : Box W b cs) : ∀ j u, cs[j]? = some u → ∃ b' off, some (⟨b, 0, none⟩ : Addr) = some ⟨b', off, none⟩ ∧ W.cell? ⟨b', off + j, none⟩ = some u := fun j u hj => ⟨b, 0, rfl, by rw [Nat.zero_add]; exact h j u hj⟩
theorem fnc_one {S : Nat → Prop} {w : World} {x : Fnc} {cs : List Value} (h : fncC S w x cs) : ∀ u ∈ cs, u.oneCell' = true := by
  obtain ⟨_, a1, c1, a2, c2, rfl, _⟩ := h
  intro u hu
  simp only [List.mem_cons, List.not_mem_nil, or_false] at hu
  rcases hu with rfl | rfl | rfl | rfl | rfl | rfl <;> rfl
theorem items_one {S : Nat → Prop} {w : World} {items : List (Fnc × List Value)} (h : ∀ p ∈ items, fncC S w p.1 p.2 ∧ p.2.length = 6) : ∀ u ∈ items.flatMap (·.2), u.oneCell' = true := fun u hu => by
  obtain ⟨p, hp, hu⟩ := List.mem_flatMap.1 hu
  exact fnc_one (h p hp).1 u hu
/-- A row that is owned, with an item more. -/
theorem row_owned {α : Type} {C : (Nat → Prop) → World → α → List Value → Prop} {size base e g cap : Nat} {S : Nat → Prop} {w : World} {items : List (α × List Value)} (ho : w.ownsRow base e size (.slice (some ⟨g, 0, none⟩) items.length cap) items.length (items.flatMap (·.2))) (hS : S g)
    (h : ∀ p ∈ items, C S w p.1 p.2 ∧ p.2.length = size) (hl : items.length ≤ 1000000) : RowOf C size S w (items.map (·.1)) (some ⟨g, 0, none⟩) := by
  refine ⟨by simp; omega, fun j hj => ?_⟩
  have hj' : j < items.length := by simpa using hj
  obtain ⟨h1, h2⟩ := h items[j] (List.getElem_mem _)
  refine ⟨g, 0, items[j].2, rfl, hS, by rw [List.getElem_map]; exact h1, h2, fun k u hk => ?_⟩
  have hc := chunk_at items j k u hj' (fun p hp => (h p hp).2) hk
  have hlt : j * size + k < (items.flatMap (·.2)).length := by
    rcases Nat.lt_or_ge (j * size + k) (items.flatMap (·.2)).length with h4 | h4
    · exact h4
    · rw [List.getElem?_eq_none h4] at hc; cases hc
  rw [Nat.zero_add, ho.cellAt (j * size + k) (by rw [← ho.1]; exact hlt)]
  exact hc
end Go.Proofs.YtfkjjljhabjcjaaDoor
