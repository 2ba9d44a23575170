/- Trees that are handed in: what they are in memory, how great they are. -/
import Derived.Test.YtpmpjbnnjdpbnaaDoorLeaf
import Derived.Test.YtpmpjbnnjdpbnaaDoorSpec2
import Derived.Test.YtpmpjbnnjdpbnaaDoorRows
import Derived.Deep.Slices
import Derived.ProofKit
namespace Go.Proofs.YtpmpjbnnjdpbnaaDoor
open Go.RowKit Go.Proofs.YtpmpjbnnjdpbnaaDoor.Lx Go.ChangeShapes Go.WideShapes Go.Deep

inductive Tr
  | mk (kd : Int) (tx : ByteArray) (nm ps : Int) (ty : ByteArray) (rf : Int) (kids : List Tr)
instance : Inhabited Tr := ⟨.mk 0 ⟨#[]⟩ 0 0 ⟨#[]⟩ 0 []⟩

/-- A row of nodes, seven cells each, in a block below N. -/
def Row7 (C : Tr → List Value → Prop) (N : Nat) (w : World) (l : List Tr) (a : Option Addr) : Prop :=
  l.length ≤ maxLen ∧ ∀ j (h : j < l.length), ∃ b off cs, a = some ⟨b, off, none⟩ ∧ b < N ∧ C l[j] cs ∧ ∀ k u, cs[k]? = some u → w.cell? ⟨b, off + j * 7 + k, none⟩ = some u
/-- The cells of a node that is less than so many nodes deep. -/
def TrC (N : Nat) (w : World) : Nat → Tr → List Value → Prop
  | 0, _, _ => False
  | n + 1, .mk kd tx nm ps ty rf kids, cs => ∃ a cp, cs = [.int .i64 kd, .string tx, .int .i64 nm, .int .i64 ps, .string ty, .int .i64 rf, .slice a kids.length cp] ∧ kids.length ≤ cp ∧ Row7 (TrC N w n) N w kids a
/-- How great a tree is. -/
def wt : Nat → Tr → Nat
  | 0, _ => 8
  | n + 1, .mk _ tx _ _ _ _ kids => 8 + tx.size + (kids.map (wt n)).sum

theorem TrC.same {N : Nat} {w w' : World} (h : ∀ b, b < N → w'.heap[b]? = w.heap[b]?) : ∀ {n : Nat} {t : Tr} {cs : List Value}, TrC N w n t cs → TrC N w' n t cs := by
  intro n
  induction n with
  | zero => intro t cs hc; exact hc.elim
  | succ n ih =>
    intro t cs hc
    cases t with
    | mk kd tx nm ps ty rf kids =>
      obtain ⟨a, cp, e, hl, hm, hr⟩ := hc
      refine ⟨a, cp, e, hl, hm, fun j hj => ?_⟩
      obtain ⟨b, off, cs', e1, hb, hc', hx⟩ := hr j hj
      exact ⟨b, off, cs', e1, hb, ih hc', fun k u hk => (World.cell?_of_block (w := w) (a := ⟨b, off + j * 7 + k, none⟩) (h b hb)).trans (hx k u hk)⟩
/-- The kids of a node. -/
def KidsT (N : Nat) (w : World) (n : Nat) (kids : List Tr) (a : Option Addr) : Prop := Row7 (TrC N w n) N w kids a
theorem KidsT.same {N : Nat} {w w' : World} {n : Nat} {kids : List Tr} {a : Option Addr} (h : KidsT N w n kids a) (hs : ∀ b, b < N → w'.heap[b]? = w.heap[b]?) : KidsT N w' n kids a :=
  ⟨h.1, fun j hj => by
    obtain ⟨b, off, cs', e1, hb, hc', hx⟩ := h.2 j hj
    exact ⟨b, off, cs', e1, hb, hc'.same hs, fun k u hk => (World.cell?_of_block (w := w) (a := ⟨b, off + j * 7 + k, none⟩) (hs b hb)).trans (hx k u hk)⟩⟩
theorem KidsT.below {N : Nat} {w w' : World} {n : Nat} {kids : List Tr} {a : Option Addr} (h : KidsT N w n kids a) (hb : Below N w w') : KidsT N w' n kids a := h.same hb.block
theorem KidsT.kid {N : Nat} {w : World} {n : Nat} {kids : List Tr} {a : Option Addr} (h : KidsT N w n kids a) {j : Nat} (hj : j < kids.length) :
    ∃ m b off kd tx nm ps ty rf ks a' cp, n = m + 1 ∧ a = some ⟨b, off, none⟩ ∧ b < N ∧ kids[j]? = some (.mk kd tx nm ps ty rf ks) ∧ ks.length ≤ cp ∧ KidsT N w m ks a' ∧
      w.cell? ⟨b, off + j * 7, none⟩ = some (.int .i64 kd) ∧ w.cell? ⟨b, off + j * 7 + 1, none⟩ = some (.string tx) ∧ w.cell? ⟨b, off + j * 7 + 2, none⟩ = some (.int .i64 nm) ∧ w.cell? ⟨b, off + j * 7 + 3, none⟩ = some (.int .i64 ps) ∧
      w.cell? ⟨b, off + j * 7 + 4, none⟩ = some (.string ty) ∧ w.cell? ⟨b, off + j * 7 + 5, none⟩ = some (.int .i64 rf) ∧ w.cell? ⟨b, off + j * 7 + 6, none⟩ = some (.slice a' ks.length cp) := by
  obtain ⟨b, off, cs, e1, hb, hc, hx⟩ := h.2 j hj
  cases n with
  | zero => exact hc.elim
  | succ m =>
    generalize e : kids[j] = t at hc
    cases t with
    | mk kd tx nm ps ty rf ks =>
      obtain ⟨a', cp, rfl, hl, hr⟩ := hc
      exact ⟨m, b, off, kd, tx, nm, ps, ty, rf, ks, a', cp, rfl, e1, hb, by rw [List.getElem?_eq_getElem hj, e], hl, hr, hx 0 _ rfl, hx 1 _ rfl, hx 2 _ rfl, hx 3 _ rfl, hx 4 _ rfl, hx 5 _ rfl, hx 6 _ rfl⟩
theorem sum_mem {l : List Nat} {x : Nat} (h : x ∈ l) : x ≤ l.sum := by
  induction l with
  | nil => cases h
  | cons y l ih =>
    rw [List.sum_cons]
    rcases List.mem_cons.1 h with rfl | h
    · omega
    · have := ih h; omega
theorem wt_kid {n : Nat} {kd : Int} {tx : ByteArray} {nm ps : Int} {ty : ByteArray} {rf : Int} {kids : List Tr} {j : Nat} {t : Tr} (e : kids[j]? = some t) : wt n t + 8 ≤ wt (n + 1) (.mk kd tx nm ps ty rf kids) := by
  have := sum_mem (List.mem_map_of_mem (f := wt n) (List.mem_of_getElem? e))
  simp only [wt]
  omega
theorem kids_few (n : Nat) (l : List Tr) : l.length * 8 ≤ (l.map (wt n)).sum := by
  induction l with
  | nil => simp
  | cons t l ih =>
    have : 8 ≤ wt n t := by
      cases n with
      | zero => simp [wt]
      | succ n => cases t; simp only [wt]; omega
    simp only [List.length_cons, List.map_cons, List.sum_cons]
    omega
section
variable {H : Type} {enc : TypeId × Value → H} {w : World} {spare : Nat → Bool} {held : Bool}
theorem bulkAll_sum {f : Nat → DataW H} {g : Nat → Nat} : ∀ (n : Nat), (∀ i, i < n → g i ≤ Rows.uptoBulk (f i)) → ((List.range n).map g).sum ≤ Rows.uptoBulkAll ((List.range n).map f) := by
  intro n
  induction n with
  | zero => intro _; simp
  | succ n ih =>
    intro h
    have h1 := ih fun i hi => h i (by omega)
    have h2 := h n (by omega)
    rw [List.range_succ, List.map_append, List.map_append, List.sum_append]
    have h3 : Rows.uptoBulkAll ((List.range n).map f ++ [n].map f) = Rows.uptoBulkAll ((List.range n).map f) + Rows.uptoBulk (f n) := by
      generalize (List.range n).map f = q
      induction q with
      | nil => simp [Rows.uptoBulkAll]
      | cons x q ihq => simp only [List.cons_append, Rows.uptoBulkAll, ihq]; omega
    rw [h3]
    simp
    omega
theorem bulkAll_mem {l : List (DataW H)} {d : DataW H} (h : d ∈ l) : Rows.uptoBulk d ≤ Rows.uptoBulkAll l := by
  induction l with
  | nil => cases h
  | cons x r ih =>
    simp only [Rows.uptoBulkAll]
    rcases List.mem_cons.1 h with rfl | h
    · omega
    · have := ih h; omega
set_option maxRecDepth 100000 in
theorem open_tree : ∀ (m fuel : Nat) (cs : List Value) (x : DataW H × List MemPlace), DataW.trod enc Tryd.prog w 0 spare held fuel 33 cs = some x → Rows.uptoBulk x.1 ≤ m → ∃ t, TrC w.heap.size w m t cs ∧ wt m t ≤ Rows.uptoBulk x.1 := by
  intro m
  induction m with
  | zero =>
    intro fuel cs x h hm
    exfalso
    obtain ⟨xs, k, hk, hxy, _⟩ := DataW.trod_struct Tryd.underlying33 h
    subst hxy
    simp [Rows.uptoBulk] at hm
  | succ m ih =>
    intro fuel cs x h hm
    have c3 : Tryd.prog.cellsOf 3 = 1 := by kernel_rfl
    have c9 : Tryd.prog.cellsOf 9 = 1 := by kernel_rfl
    have c31 : Tryd.prog.cellsOf 31 = 1 := by kernel_rfl
    have c33 : Tryd.prog.cellsOf 33 = 7 := by kernel_rfl
    obtain ⟨xs, k, hk, hxy, hlen, hxl, hf⟩ := DataW.trod_struct Tryd.underlying33 h
    subst hxy
    rw [c33] at hlen
    match xs, hxl, cs, hlen with
    | [y0, y1, y2, y3, y4, y5, y6], _, [v0, v1, v2, v3, v4, v5, v6], _ =>
      have g0 := hf 0 _ rfl
      have g1 := hf 1 _ rfl
      have g2 := hf 2 _ rfl
      have g3 := hf 3 _ rfl
      have g4 := hf 4 _ rfl
      have g5 := hf 5 _ rfl
      have g6 := hf 6 _ rfl
      simp [c3, c9, c31] at g0 g1 g2 g3 g4 g5 g6
      obtain ⟨z0, e0, _, _⟩ := DataW.trod_int Tryd.underlying3 g0
      obtain ⟨z1, e1, d1, _⟩ := DataW.trod_string Tryd.underlying9 g1
      obtain ⟨z2, e2, _, _⟩ := DataW.trod_int Tryd.underlying3 g2
      obtain ⟨z3, e3, _, _⟩ := DataW.trod_int Tryd.underlying3 g3
      obtain ⟨z4, e4, _, _⟩ := DataW.trod_string Tryd.underlying9 g4
      obtain ⟨z5, e5, _, _⟩ := DataW.trod_int Tryd.underlying3 g5
      simp at e0 e1 e2 e3 e4 e5
      subst e0 e1 e2 e3 e4 e5
      have hb : Rows.uptoBulk (DataW.agg (List.map (fun x => x.1) [y0, y1, y2, y3, y4, y5, y6])) = Rows.uptoBulk y0.1 + (Rows.uptoBulk y1.1 + (Rows.uptoBulk y2.1 + (Rows.uptoBulk y3.1 + (Rows.uptoBulk y4.1 + (Rows.uptoBulk y5.1 + (Rows.uptoBulk y6.1 + 0)))))) + 1 := by
        simp [Rows.uptoBulk, Rows.uptoBulkAll]
      have hone : ∀ d : DataW H, 1 ≤ Rows.uptoBulk d := by
        intro d
        cases d with
        | lit l => cases l <;> simp [Rows.uptoBulk]
        | nil => simp [Rows.uptoBulk]
        | ptr d => simp [Rows.uptoBulk]
        | slice elems spare => simp [Rows.uptoBulk]
        | agg parts => simp [Rows.uptoBulk]
        | iface t d => simp [Rows.uptoBulk]
        | map entries => simp [Rows.uptoBulk]
        | held h => simp [Rows.uptoBulk]
      have hb1 : Rows.uptoBulk y1.1 = z1.size + 1 := by
        rw [d1]
        simp [Rows.uptoBulk]
      have o0 := hone y0.1
      have o2 := hone y2.1
      have o3 := hone y3.1
      have o4 := hone y4.1
      have o5 := hone y5.1
      have o6 := hone y6.1
      show ∃ t, TrC w.heap.size w (m + 1) t _ ∧ wt (m + 1) t ≤ Rows.uptoBulk (DataW.agg (List.map (fun x => x.1) [y0, y1, y2, y3, y4, y5, y6]))
      have hm' : Rows.uptoBulk (DataW.agg (List.map (fun x => x.1) [y0, y1, y2, y3, y4, y5, y6])) ≤ m + 1 := hm
      rw [hb] at hm' ⊢
      rcases Go.Deep.open_slice Tryd.underlying31 g6 with ⟨h0, _⟩ | ⟨a, len, cap, mm, n, D, Pl, hcs, hbl, hl, hmx, hmm, hxe, hx⟩
      · simp at h0
        subst h0
        refine ⟨.mk z0 z1 z2 z3 z4 z5 [], ⟨none, 0, rfl, Nat.le_refl _, Nat.zero_le _, fun j hj => by cases hj⟩, ?_⟩
        simp only [wt, List.map_nil, List.sum_nil]
        omega
      · simp at hcs
        subst hcs
        have hlm : len ≤ mm := by rw [hmm]; split <;> omega
        have hb6 : Rows.uptoBulkAll ((List.range len).map D) + 1 ≤ Rows.uptoBulk y6.1 := by
          rw [hxe]
          simp only [Rows.uptoBulk]
          omega
        have each : ∀ i, ∃ p : Tr × List Value, i < len → TrC w.heap.size w m p.1 p.2 ∧ wt m p.1 ≤ Rows.uptoBulk (D i) ∧ p.2.length = 7 ∧ ∀ k u, p.2[k]? = some u → w.cell? (a.add (i * 7 + k)) = some u := by
          intro i
          by_cases hi : i < len
          · obtain ⟨cs', h1, h2⟩ := hx i (by omega)
            rw [c33] at h1
            obtain ⟨_, hlen', hcell⟩ := World.cells?_some h1
            have hdi := bulkAll_mem (List.mem_map.2 ⟨i, by simp [hi], rfl⟩ : D i ∈ (List.range len).map D)
            obtain ⟨y, hy, hw⟩ := ih _ _ _ h2 (by show Rows.uptoBulk (D i) ≤ m; omega)
            refine ⟨(y, cs'), fun _ => ⟨hy, hw, hlen', fun k u hk => ?_⟩⟩
            have hkl : k < 7 := by
              rcases Nat.lt_or_ge k cs'.length with h3 | h3
              · omega
              · have hk' : cs'[k]? = some u := hk
                rw [List.getElem?_eq_none h3] at hk'; cases hk'
            have := hcell k hkl
            rw [add_add] at this
            rw [this]; exact hk
          · exact ⟨(default, []), fun h => absurd h hi⟩
        obtain ⟨f, hf'⟩ := Classical.axiomOfChoice each
        have hlen' : ((List.range len).map fun i => (f i).1).length = len := by simp
        refine ⟨.mk z0 z1 z2 z3 z4 z5 ((List.range len).map fun i => (f i).1), ⟨some a, cap, by rw [hlen'], by omega, by rw [hlen']; omega, fun j hj => ?_⟩, ?_⟩
        · rw [hlen'] at hj
          obtain ⟨h1, _, h2, h3⟩ := hf' j hj
          obtain ⟨_, _, g2, g3⟩ := hf' 0 (by omega)
          have hc00 := g3 0 _ (List.getElem?_eq_getElem (show 0 < (f 0).2.length by omega))
          have hc0 := h3 0 _ (List.getElem?_eq_getElem (show 0 < (f j).2.length by omega))
          obtain ⟨b, off, spot⟩ := a
          have hspot : spot = none := by simpa [Addr.add] using World.cell?_spot hc00
          subst hspot
          rw [add_plain] at hc0
          refine ⟨b, off, (f j).2, rfl, World.block_lt_of_cell? w ⟨b, _, none⟩ hc0, by simpa using h1, fun k u hk => ?_⟩
          have := h3 k u hk
          rw [add_plain, ← Nat.add_assoc] at this
          exact this
        · have hs := bulkAll_sum (f := D) (g := fun i => wt m (f i).1) len fun i hi => (hf' i hi).2.1
          simp only [wt, List.map_map]
          have e : (List.map (wt m ∘ fun i => (f i).1) (List.range len)).sum = ((List.range len).map fun i => wt m (f i).1).sum := rfl
          rw [e]
          omega
end
end Go.Proofs.YtpmpjbnnjdpbnaaDoor
