/- SweepFrees: what its walk needs. -/
import Derived.Test.YtinmaogbfcmagaaDoorOr1
import Derived.Test.YtinmaogbfcmagaaDoorAc1
import Derived.Deep.AppendSrc
namespace Go.Proofs.YtinmaogbfcmagaaDoor
open Go.RowKit Go.Proofs.YtinmaogbfcmagaaDoor.Hp
theorem perm_len {l m : List Nat} (hl : l.Nodup) (hm : m.Nodup) (h : ∀ x, x ∈ l ↔ x ∈ m) : l.length = m.length := by
  have sub : ∀ (l m : List Nat), l.Nodup → (∀ x, x ∈ l → x ∈ m) → l.length ≤ m.length := by
    intro l
    induction l with
    | nil => intro m _ _; simp
    | cons a l ih =>
      intro m hn hs
      rw [List.nodup_cons] at hn
      have ha := hs a (by simp)
      have := ih (m.erase a) hn.2 fun x hx => by
        have hne : x ≠ a := fun e => hn.1 (e ▸ hx)
        exact (List.mem_erase_of_ne hne).2 (hs x (by simp [hx]))
      have h2 := List.length_erase_of_mem ha
      have h3 := List.length_pos_of_mem ha
      simp only [List.length_cons]
      omega
  exact Nat.le_antisymm (sub l m hl fun x => (h x).1) (sub m l hm fun x => (h x).2)
theorem blk_len {n : Nat} {A : Nat → Kd} {k : Nat} {ad : Nat → Nat} (h : Bk n k ad (fun _ => false) A) : (blkL A n).length = k := by
  have hI := h.inv
  have h1 : (blkL A n).Nodup := (blkL_sorted hI n).imp fun h => by omega
  have h2 : ((List.range k).map ad).Nodup := by
    rw [List.Nodup, List.pairwise_map]
    refine List.Pairwise.imp_of_mem ?_ List.pairwise_lt_range
    intro a b ha hb hab e
    have := h.inj a b (by simpa using ha) (by simpa using hb) e
    omega
  have := perm_len h1 h2 fun x => by
    rw [blkL_mem hI x n, List.mem_map]
    constructor
    · rintro ⟨_, hx⟩
      obtain ⟨j, hj, e⟩ := h.only x hx
      exact ⟨j, by simpa using hj, e.symm⟩
    · rintro ⟨j, hj, rfl⟩
      have hj' : j < k := by simpa using hj
      have := h.live j hj' rfl
      have h3 := room_in hI this
      exact ⟨by omega, this⟩
  rw [this]; simp
theorem goes_all : Goes 128 (emptyA 128) 8128 64 (fun s => if s = 1 then .head 127 else if 1 < s ∧ s < 1 + 127 then .tail else emptyA 128 s) :=
  Goes.row 1 127 (by decide) (by decide) (by decide) (fun t h1 h2 => by unfold emptyA; rw [if_pos (by omega)]) (fun g hg => ⟨0, by omega, by omega, by simp [emptyA]⟩)
theorem no_reach {R : Int → Bool} {K : Int → List Int} (x : Int) : ¬ Reach R K [] x := by
  intro h
  induction h with
  | root x hx _ => simp at hx
  | kid _ _ _ _ _ ih => exact ih
/-- A word as the laws take it: below 0 it is an address. -/
def frO (l : List (Nat × Rw)) (z : Int) : Int := if z < 0 ∧ 0 < l.length then (adO l ((-(z + 1)) % (l.length : Int)).toNat : Int) else z
theorem mem_getD {l : List Nat} {x : Nat} (h : x ∈ l) : ∃ j, j < l.length ∧ l.getD j 0 = x := by
  obtain ⟨j, hj⟩ := List.getElem?_of_mem h
  have := (List.getElem?_eq_some_iff.1 hj).1
  exact ⟨j, this, by simp [List.getD, hj]⟩
section
variable {P : Program} (w : World) {ops : Array Oper} {rest : List Oper} {o : Oper} {a : Act} {Q : Exit → Act → World → Prop}
/-- append of nothing at all. -/
theorem wpList_append_nothing (hg : o.guard = none) (s x : Operand) (t e : TypeId) (i : TypeInfo) (ho : o.op = .call { callee := .builtin .append, args := #[s, x], argTypes := #[t, t] }) (ht : P.underlying t = some (.slice e)) (hi : P.info? e = some i) (g n cap c : Nat) (hs : a.eval s = .slice (some ⟨g, 0, none⟩) n cap) (hn : n ≤ cap) (hx : a.eval x = .slice none 0 c)
    (hK : wpList P ops Q rest (a.put o.dst (.slice (some ⟨g, 0, none⟩) n cap)) w) : wpList P ops Q (o :: rest) a w := by
  refine wpList_plain hg fun K' hK' => ?_
  have hrun := run_append_room_src (P := P) w t t o.type e i ht hi g 0 n cap (.slice none 0 c) 0 [] (Src.ofNil w ht c) (by omega) (by simp) (by simp)
  unfold Oper.wp
  simp [execOp, ho, resolve, invoke, builtin, hs, hx, hrun, Result.andThen]
  exact hK' _ _ hK
/-- append of a slice of numbers, a nil one too, to a row of one's own that isn't nil. -/
theorem wpList_append_ints (hg : o.guard = none) (s x : Operand) (t : TypeId) (ho : o.op = .call { callee := .builtin .append, args := #[s, x], argTypes := #[t, t] }) (base e : Nat) (i : TypeInfo) (ht : P.underlying t = some (.slice e)) (hi : P.info? e = some i) (hz : i.zero = some (.int .i64 0)) (hz1 : i.size = 1) (hz2 : i.bytes = 8)
    (g n cap : Nat) (xs : List Value) (hs : a.eval s = .slice (some ⟨g, 0, none⟩) n cap) (hown : w.ownsRow base e 1 (.slice (some ⟨g, 0, none⟩) n cap) n xs) (ao : Option Addr) (c : Nat) (zs : List Int) (hx : a.eval x = .slice ao zs.length c)
    (hc : ∀ j, j < zs.length → ∃ b off, ao = some ⟨b, off, none⟩ ∧ w.cell? ⟨b, off + j, none⟩ = some (.int .i64 (zs.getD j 0))) (h63 : n + zs.length ≤ 1000000) (hbase : base ≤ w.heap.size)
    (hK : ∀ g' cap' w', w'.ownsRow base e 1 (.slice (some ⟨g', 0, none⟩) (n + zs.length) cap') (n + zs.length) (xs ++ zs.map (Value.int .i64)) → w.grownBy w' (some g) → wpList P ops Q rest (a.put o.dst (.slice (some ⟨g', 0, none⟩) (n + zs.length) cap')) w') : wpList P ops Q (o :: rest) a w := by
  have hcap : n ≤ cap := own_cap hown
  cases ao with
  | none =>
    have h0 : zs = [] := by
      cases zs with
      | nil => rfl
      | cons z zs => obtain ⟨b, off, h, _⟩ := hc 0 (by simp); cases h
    subst h0
    refine wpList_append_nothing w hg s x t e i ho ht hi g n cap c hs hcap hx ?_
    exact hK g cap w (by simpa using hown) ⟨rfl, rfl, rfl, Nat.le_refl _, fun _ _ _ => rfl⟩
  | some ad =>
    refine wpList_append_own w hg s x t ho base e i (.int .i64 0) 1 8 ht hi hz hz1 hz2 rfl (by decide) _ n xs hs hown ad zs.length c (zs.map (Value.int .i64)) hx (by simp) ?_ ?_ (by unfold maxLen; omega) (by omega) hbase ?_
    · intro j u hj
      have hjl : j < zs.length := by
        have := (List.getElem?_eq_some_iff.1 hj).1
        simpa using this
      obtain ⟨b, off, h1, h2⟩ := hc j hjl
      cases h1
      rw [Go.WideShapes.add_plain, h2]
      rw [List.getElem?_map, List.getElem?_eq_getElem hjl] at hj
      simp [List.getD, List.getElem?_eq_getElem hjl]
      simpa using hj
    · intro u hu
      obtain ⟨z, _, rfl⟩ := List.mem_map.1 hu
      rfl
    · intro v' w' hown' hgrow hnil
      rcases hown'.2 with ⟨h1, _⟩ | ⟨g', cap', cur, h1, _⟩
      · have := (hnil.1 h1).1
        cases this
      · subst h1
        exact hK g' cap' w' hown' hgrow
end
end Go.Proofs.YtinmaogbfcmagaaDoor
