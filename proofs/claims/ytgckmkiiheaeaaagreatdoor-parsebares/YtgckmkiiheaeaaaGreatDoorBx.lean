/- Trees that are handed in or made: what they are in memory. Contracts over trees: spent, great, the reference's Same. Rows of nodes that grow. -/
import Derived.Test.YtgckmkiiheaeaaaGreatDoorLeaf
import Derived.Test.YtgckmkiiheaeaaaGreatDoorSpec2
import Derived.Test.YtgckmkiiheaeaaaGreatDoorState
import Derived.Test.YtgckmkiiheaeaaaGreatDoorRows
import Derived.Deep.Slices
import Derived.ProofKit
import Derived.SizedLaws
import Derived.Deep.RegionHeld2
import Derived.Deep.LoopGhost
import Derived.Deep.AppendLies
set_option linter.unusedVariables false
set_option linter.unusedSimpArgs false
namespace Go.Proofs.YtgckmkiiheaeaaaGreatDoor
open Go.RowKit Go.Proofs.YtgckmkiiheaeaaaGreatDoor.Lx Go.ChangeShapes Go.WideShapes Go.Deep

inductive Tr
  | mk (kd : Int) (tx : ByteArray) (nm ps : Int) (ty : ByteArray) (rf : Int) (kids : List Tr)
instance : Inhabited Tr := ⟨.mk 0 ⟨#[]⟩ 0 0 ⟨#[]⟩ 0 []⟩

/-- Nodes, seven cells each, in a list of cells. -/
def RowX (C : Tr → List Value → Prop) (l : List Tr) (f : Nat → Option Value) : Prop :=
  ∀ j (h : j < l.length), ∃ cs, C l[j] cs ∧ cs.length = 7 ∧ ∀ k u, cs[k]? = some u → f (j * 7 + k) = some u
/-- A row of nodes in a block of S. -/
def Row7 (C : Tr → List Value → Prop) (S : Nat → Prop) (w : World) (l : List Tr) (a : Option Addr) : Prop :=
  l.length ≤ 1599289640354 ∧ (0 < l.length → ∃ b off, a = some ⟨b, off, none⟩ ∧ S b ∧ RowX C l fun i => w.cell? ⟨b, off + i, none⟩)
/-- The cells of a node that is less than so many nodes deep; what hangs on it lies in blocks of S. -/
def TrC (S : Nat → Prop) (w : World) : Nat → Tr → List Value → Prop
  | 0, _, _ => False
  | n + 1, .mk kd tx nm ps ty rf kids, cs => ∃ a cp, cs = [.int .i64 kd, .string tx, .int .i64 nm, .int .i64 ps, .string ty, .int .i64 rf, .slice a kids.length cp] ∧ kids.length ≤ cp ∧ Row7 (TrC S w n) S w kids a
/-- The kids of a node. -/
def KidsT (S : Nat → Prop) (w : World) (n : Nat) (kids : List Tr) (a : Option Addr) : Prop := Row7 (TrC S w n) S w kids a

theorem RowX.imp {C D : Tr → List Value → Prop} {l : List Tr} {f g : Nat → Option Value} (h : RowX C l f) (hc : ∀ t cs, C t cs → D t cs) (hf : ∀ i u, f i = some u → g i = some u) : RowX D l g := fun j hj => by
  obtain ⟨cs, h1, h2, h3⟩ := h j hj
  exact ⟨cs, hc _ _ h1, h2, fun k u hk => hf _ _ (h3 k u hk)⟩
theorem TrC.same {S S' : Nat → Prop} {w w' : World} (h : ∀ b, S b → S' b ∧ w'.heap[b]? = w.heap[b]?) : ∀ {n : Nat} {t : Tr} {cs : List Value}, TrC S w n t cs → TrC S' w' n t cs := by
  intro n
  induction n with
  | zero => intro t cs hc; exact hc.elim
  | succ n ih =>
    intro t cs hc
    cases t with
    | mk kd tx nm ps ty rf kids =>
      obtain ⟨a, cp, e, hl, hm, hr⟩ := hc
      refine ⟨a, cp, e, hl, hm, fun h0 => ?_⟩
      obtain ⟨b, off, e1, hb, hx⟩ := hr h0
      exact ⟨b, off, e1, (h b hb).1, hx.imp (fun _ _ hc => ih hc) fun i u hu => (World.cell?_of_block (w := w) (a := ⟨b, off + i, none⟩) (h b hb).2).trans hu⟩
theorem KidsT.same {S S' : Nat → Prop} {w w' : World} {n : Nat} {kids : List Tr} {a : Option Addr} (h : KidsT S w n kids a) (hs : ∀ b, S b → S' b ∧ w'.heap[b]? = w.heap[b]?) : KidsT S' w' n kids a :=
  ⟨h.1, fun h0 => by
    obtain ⟨b, off, e1, hb, hx⟩ := h.2 h0
    exact ⟨b, off, e1, (hs b hb).1, hx.imp (fun _ _ hc => hc.same hs) fun i u hu => (World.cell?_of_block (w := w) (a := ⟨b, off + i, none⟩) (hs b hb).2).trans hu⟩⟩
/-- Blocks that were there. -/
def Old (w : World) (k : Nat) : Prop := k < w.heap.size
theorem KidsT.old {S : Nat → Prop} {w w' : World} {n : Nat} {kids : List Tr} {a : Option Addr} (h : KidsT S w n kids a) (hS : ∀ k, S k → k < w.heap.size) (hb : Below w.heap.size w w') : KidsT (Old w') w' n kids a :=
  h.same fun b hs => ⟨Nat.lt_of_lt_of_le (hS b hs) hb.size, hb.block b (hS b hs)⟩
theorem KidsT.next {w w' : World} {n : Nat} {kids : List Tr} {a : Option Addr} (h : KidsT (Old w) w n kids a) (hb : Below w.heap.size w w') : KidsT (Old w') w' n kids a := h.old (fun _ h => h) hb
theorem KidsT.kid {S : Nat → Prop} {w : World} {n : Nat} {kids : List Tr} {a : Option Addr} (h : KidsT S w n kids a) {j : Nat} (hj : j < kids.length) :
    ∃ m b off kd tx nm ps ty rf ks a' cp, n = m + 1 ∧ a = some ⟨b, off, none⟩ ∧ S b ∧ kids[j]? = some (.mk kd tx nm ps ty rf ks) ∧ ks.length ≤ cp ∧ KidsT S w m ks a' ∧
      w.cell? ⟨b, off + j * 7, none⟩ = some (.int .i64 kd) ∧ w.cell? ⟨b, off + j * 7 + 1, none⟩ = some (.string tx) ∧ w.cell? ⟨b, off + j * 7 + 2, none⟩ = some (.int .i64 nm) ∧ w.cell? ⟨b, off + j * 7 + 3, none⟩ = some (.int .i64 ps) ∧
      w.cell? ⟨b, off + j * 7 + 4, none⟩ = some (.string ty) ∧ w.cell? ⟨b, off + j * 7 + 5, none⟩ = some (.int .i64 rf) ∧ w.cell? ⟨b, off + j * 7 + 6, none⟩ = some (.slice a' ks.length cp) := by
  obtain ⟨b, off, e1, hb, hr⟩ := h.2 (by omega)
  obtain ⟨cs, hc, _, hx⟩ := hr j hj
  cases n with
  | zero => exact hc.elim
  | succ m =>
    generalize e : kids[j] = t at hc
    cases t with
    | mk kd tx nm ps ty rf ks =>
      obtain ⟨a', cp, rfl, hl, hr⟩ := hc
      simp only [← Nat.add_assoc] at hx
      exact ⟨m, b, off, kd, tx, nm, ps, ty, rf, ks, a', cp, rfl, e1, hb, by rw [List.getElem?_eq_getElem hj, e], hl, hr, hx 0 _ rfl, hx 1 _ rfl, hx 2 _ rfl, hx 3 _ rfl, hx 4 _ rfl, hx 5 _ rfl, hx 6 _ rfl⟩
/-- No string and no slice of it takes more bytes than may be. -/
def Sml {H : Type} (t : TypeId) (d : DataW H) : Prop := ∀ n ∈ d.weights Tryz.prog t, n ≤ reachBytes
theorem weightsAll_mem {H : Type} {P : Program} {e : TypeId} : ∀ {l : List (DataW H)} {d : DataW H}, d ∈ l → ∀ n ∈ d.weights P e, n ∈ DataW.weightsAll P e l
  | d0 :: l, d, h, n, hn => by
    simp only [DataW.weightsAll, List.mem_append]
    rcases List.mem_cons.1 h with rfl | h
    · exact .inl hn
    · exact .inr (weightsAll_mem h n hn)
theorem Sml.slice {H : Type} {t e : TypeId} {el sp : List (DataW H)} (ht : Tryz.prog.underlying t = some (.slice e)) (h : Sml t (.slice el sp)) : el.length * Tryz.prog.bytesOf e ≤ reachBytes ∧ ∀ d ∈ el, Sml e d := by
  unfold Sml at h
  rw [DataW.weights, ht] at h
  constructor
  · have := h _ (List.mem_cons_self ..)
    have h2 : el.length * Tryz.prog.bytesOf e ≤ (el.length + sp.length) * Tryz.prog.bytesOf e := Nat.mul_le_mul_right _ (by omega)
    omega
  · exact fun d hd n hn => h n (List.mem_cons_of_mem _ (List.mem_append_left _ (weightsAll_mem hd n hn)))
theorem Sml.field {H : Type} {t : TypeId} {fs : Array Field} {parts : List (DataW H)} (ht : Tryz.prog.underlying t = some (.struct fs)) (h : Sml t (.agg parts)) {j : Nat} {f : Field} {d : DataW H} (hj : fs[j]? = some f) (hd : parts[j]? = some d) : Sml f.type d := by
  unfold Sml at h
  rw [DataW.weights, ht] at h
  exact fun n hn => h n (DataW.weights_mem_each (j := j) (by simp [hj]) hd n hn)
section
variable {H : Type} {enc : TypeId × Value → H} {w : World} {spare : Nat → Bool} {held : Bool}
theorem bulkAll_mem {l : List (DataW H)} {d : DataW H} (h : d ∈ l) : Rows.uptoBulk d ≤ Rows.uptoBulkAll l := by
  induction l with
  | nil => cases h
  | cons x r ih =>
    simp only [Rows.uptoBulkAll]
    rcases List.mem_cons.1 h with rfl | h
    · omega
    · have := ih h; omega
set_option maxRecDepth 100000 in
theorem open_tree : ∀ (m fuel : Nat) (cs : List Value) (x : DataW H × List MemPlace), DataW.trod enc Tryz.prog w 0 spare held fuel 24 cs = some x → Sml 24 x.1 → Rows.uptoBulk x.1 ≤ m → ∃ t, TrC (Old w) w m t cs := by
  intro m
  induction m with
  | zero =>
    intro fuel cs x h _ hm
    exfalso
    obtain ⟨xs, k, hk, hxy, _⟩ := DataW.trod_struct Tryz.underlying24 h
    subst hxy
    simp [Rows.uptoBulk] at hm
  | succ m ih =>
    intro fuel cs x h hsm hm
    have c3 : Tryz.prog.cellsOf 3 = 1 := by kernel_rfl
    have c9 : Tryz.prog.cellsOf 9 = 1 := by kernel_rfl
    have c22 : Tryz.prog.cellsOf 22 = 1 := by kernel_rfl
    have c24 : Tryz.prog.cellsOf 24 = 7 := by kernel_rfl
    have b24 : Tryz.prog.bytesOf 24 = 88 := by kernel_rfl
    obtain ⟨xs, k, hk, hxy, hlen, hxl, hf⟩ := DataW.trod_struct Tryz.underlying24 h
    subst hxy
    have hfl := fun j f d (hj : _ = some f) (hd : _ = some d) => Sml.field Tryz.underlying24 hsm (j := j) hj hd
    rw [c24] at hlen
    match xs, hxl, cs, hlen with
    | [y0, y1, y2, y3, y4, y5, y6], _, [v0, v1, v2, v3, v4, v5, v6], _ =>
      have g0 := hf 0 _ rfl
      have g1 := hf 1 _ rfl
      have g2 := hf 2 _ rfl
      have g3 := hf 3 _ rfl
      have g4 := hf 4 _ rfl
      have g5 := hf 5 _ rfl
      have g6 := hf 6 _ rfl
      simp [c3, c9, c22] at g0 g1 g2 g3 g4 g5 g6
      obtain ⟨z0, e0, _, _⟩ := DataW.trod_int Tryz.underlying3 g0
      obtain ⟨z1, e1, _, _⟩ := DataW.trod_string Tryz.underlying9 g1
      obtain ⟨z2, e2, _, _⟩ := DataW.trod_int Tryz.underlying3 g2
      obtain ⟨z3, e3, _, _⟩ := DataW.trod_int Tryz.underlying3 g3
      obtain ⟨z4, e4, _, _⟩ := DataW.trod_string Tryz.underlying9 g4
      obtain ⟨z5, e5, _, _⟩ := DataW.trod_int Tryz.underlying3 g5
      simp at e0 e1 e2 e3 e4 e5
      subst e0 e1 e2 e3 e4 e5
      have hb : Rows.uptoBulk (DataW.agg (List.map (fun x => x.1) [y0, y1, y2, y3, y4, y5, y6])) = Rows.uptoBulk y0.1 + (Rows.uptoBulk y1.1 + (Rows.uptoBulk y2.1 + (Rows.uptoBulk y3.1 + (Rows.uptoBulk y4.1 + (Rows.uptoBulk y5.1 + (Rows.uptoBulk y6.1 + 0)))))) + 1 := by
        simp [Rows.uptoBulk, Rows.uptoBulkAll]
      have hm' : Rows.uptoBulk (DataW.agg (List.map (fun x => x.1) [y0, y1, y2, y3, y4, y5, y6])) ≤ m + 1 := hm
      have hs6 : Sml 22 y6.1 := hfl 6 _ _ rfl rfl
      rw [hb] at hm'
      rcases Go.Deep.open_slice Tryz.underlying22 g6 with ⟨h0, _⟩ | ⟨a, len, cap, mm, n, D, Pl, hcs, hbl, hl, hmx, hmm, hxe, hx⟩
      · simp at h0
        subst h0
        exact ⟨.mk z0 z1 z2 z3 z4 z5 [], none, 0, rfl, Nat.le_refl _, Nat.zero_le _, fun h => absurd h (Nat.lt_irrefl 0)⟩
      · simp at hcs
        subst hcs
        have hlm : len ≤ mm := by rw [hmm]; split <;> omega
        rw [hxe] at hs6
        have hs7 := Sml.slice Tryz.underlying22 hs6
        have hb6 : Rows.uptoBulkAll ((List.range len).map D) + 1 ≤ Rows.uptoBulk y6.1 := by
          rw [hxe]
          simp only [Rows.uptoBulk]
          omega
        have hfew : len ≤ 1599289640354 := by
          have h1 := hs7.1
          rw [b24, List.length_map, List.length_range] at h1
          have h2 : reachBytes = 140737488351232 := by decide
          omega
        have each : ∀ i, ∃ p : Tr × List Value, i < len → TrC (Old w) w m p.1 p.2 ∧ p.2.length = 7 ∧ ∀ k u, p.2[k]? = some u → w.cell? (a.add (i * 7 + k)) = some u := by
          intro i
          by_cases hi : i < len
          · obtain ⟨cs', h1, h2⟩ := hx i (by omega)
            rw [c24] at h1
            obtain ⟨_, hlen', hcell⟩ := World.cells?_some h1
            have hmem : D i ∈ (List.range len).map D := List.mem_map.2 ⟨i, by simp [hi], rfl⟩
            have hdi := bulkAll_mem hmem
            obtain ⟨y, hy⟩ := ih _ _ _ h2 (hs7.2 _ hmem) (by show Rows.uptoBulk (D i) ≤ m; omega)
            refine ⟨(y, cs'), fun _ => ⟨hy, hlen', fun k u hk => ?_⟩⟩
            have hkl : k < 7 := by
              rcases Nat.lt_or_ge k cs'.length with h3 | h3
              · omega
              · have hk' : cs'[k]? = some u := hk
                rw [List.getElem?_eq_none h3] at hk'; cases hk'
            have := hcell k hkl
            rw [add_add] at this
            rw [this]; exact hk
          · exact ⟨(default, []), fun h => absurd h hi⟩
        obtain ⟨f, hf'⟩ := Classical.axiomOfChoice each
        have hlen' : ((List.range len).map fun i => (f i).1).length = len := by simp
        refine ⟨.mk z0 z1 z2 z3 z4 z5 ((List.range len).map fun i => (f i).1), some a, cap, by rw [hlen'], by omega, by rw [hlen']; omega, fun h0 => ?_⟩
        rw [hlen'] at h0
        obtain ⟨_, g2, g3⟩ := hf' 0 h0
        have hc00 := g3 0 _ (List.getElem?_eq_getElem (show 0 < (f 0).2.length by omega))
        obtain ⟨b, off, spot⟩ := a
        have hspot : spot = none := by simpa [Addr.add] using World.cell?_spot hc00
        subst hspot
        rw [add_plain] at hc00
        refine ⟨b, off, rfl, World.block_lt_of_cell? w ⟨b, _, none⟩ hc00, fun j hj => ?_⟩
        rw [hlen'] at hj
        obtain ⟨h1, h2, h3⟩ := hf' j hj
        refine ⟨(f j).2, by simpa using h1, h2, fun k u hk => ?_⟩
        have := h3 k u hk
        rw [add_plain] at this
        exact this
end
end Go.Proofs.YtgckmkiiheaeaaaGreatDoor
namespace Go.Proofs.YtgckmkiiheaeaaaGreatDoor
open Go.RowKit Go.Proofs.YtgckmkiiheaeaaaGreatDoor.Lx

theorem bt2 {a b c : World} (h : Below a.heap.size a b) (k : Below b.heap.size b c) : Below a.heap.size a c := h.trans (k.mono h.size)
theorem ba (w : World) (o : Obj) : Below w.heap.size w (w.alloc o) := (Below.refl _ _).alloc (Nat.le_refl _) o
theorem ba2 {a b : World} (h : Below a.heap.size a b) (o : Obj) : Below a.heap.size a (b.alloc o) := h.alloc h.size o
def SpentP (n : Nat) : Prop := ∀ (kd : Int) (tx : ByteArray) (nm ps : Int) (ty : ByteArray) (rf : Int) (kids : List Tr) (a : Option Addr) (cp : Nat) (d l : Int) (w : World), KidsT (Old w) w n kids a → kids.length ≤ cp →
    Calls Tryz.prog 16 #[.agg #[.int .i64 kd, .string tx, .int .i64 nm, .int .i64 ps, .string ty, .int .i64 rf, .slice a kids.length cp], .int .i64 d, .int .i64 l] w fun e w' => (∃ r, e = .returned (.int .i64 r)) ∧ Below w.heap.size w w'
set_option maxRecDepth 100000 in
set_option maxHeartbeats 1000000 in
theorem spent_step (n : Nat) (ih : ∀ m, n = m + 1 → SpentP m) : SpentP n := by
  intro kd tx nm ps ty rf kids a cp d l w hk hcp
  have hfew := hk.1
  have HK := hide hk
  have HI := hide ih
  clear hk ih
  go_enter Tryz.func16, Tryz.ntmps16
  go_wp2
  · go_ret
    exact ⟨⟨_, rfl⟩, ba _ _⟩
  · go_ret
    exact ⟨⟨_, rfl⟩, ba _ _⟩
  rename_i hA hB K1 a1
  clear hA hB
  go_loopg [2, 20] (kids.length + 1) (fun g v2 v20 wr => ∃ (j : Nat) (l' : Int), g = kids.length + 1 - j ∧ j ≤ kids.length ∧ v20 = .int .i64 j ∧ v2 = .int .i64 l' ∧ Below w.heap.size w wr)
  case atStart => exact ⟨0, _, by omega, by omega, rfl, rfl, ba _ _⟩
  case round =>
    obtain ⟨j, l', rfl, hj, rfl, rfl, hb⟩ := hrel
    by_cases hlt : j < kids.length
    · have hltz : (j : Int) < kids.length := by omega
      obtain ⟨m, b, off, kd2, tx2, nm2, ps2, ty2, rf2, ks2, a2, cp2, hn, rfl, hbN, ek, hcp2, hk2, c0, c1, c2, c3, c4, c5, c6⟩ := ((unhide HK).next hb).kid hlt
      have hbs := hb.size
      have IH := hide (unhide HI m hn)
      have HK2 := hide hk2
      clear hk2 ek hn
      have hb1 := fun o => ba2 hb o
      go_wp2_with (go_at_call 16; refine (unhide IH kd2 tx2 nm2 ps2 ty2 rf2 ks2 a2 cp2 _ _ _ ((unhide HK2).next (ba _ _)) hcp2).mono ?_; rintro e w2 ⟨⟨r, rfl⟩, hb2⟩; have HB2 := hide (bt2 (hb1 _) hb2); clear hb2)
      · go_ret
        exact ⟨⟨_, rfl⟩, unhide HB2⟩
      · go_roundg (kids.length + 1 - (j + 1))
        case measure => omega
        case rel => exact ⟨j + 1, _, rfl, by omega, by go_num, rfl, unhide HB2⟩
    · have hltz : ¬ (j : Int) < kids.length := by omega
      go_wp2
      go_ret
      exact ⟨⟨_, rfl⟩, hb⟩
theorem spent_w : ∀ n, SpentP n := by
  intro n
  induction n with
  | zero => exact spent_step 0 fun m h => by omega
  | succ n ih => exact spent_step (n + 1) fun m h => by obtain rfl : m = n := by omega
                                                        exact ih
theorem great_w (n : Nat) (kd : Int) (tx : ByteArray) (nm ps : Int) (ty : ByteArray) (rf : Int) (kids : List Tr) (a : Option Addr) (cp : Nat) (d l : Int) (w : World) (hk : KidsT (Old w) w n kids a) (hcp : kids.length ≤ cp) :
    Calls Tryz.prog 8 #[.agg #[.int .i64 kd, .string tx, .int .i64 nm, .int .i64 ps, .string ty, .int .i64 rf, .slice a kids.length cp], .int .i64 d, .int .i64 l] w fun e w' => (∃ r, e = .returned (.bool r)) ∧ Below w.heap.size w w' := by
  have HK := hide hk
  clear hk
  go_enter Tryz.func8, Tryz.ntmps8
  go_wp2_with (go_at_call 16; refine (spent_w n kd tx nm ps ty rf kids a cp d l _ ((unhide HK).next (ba _ _)) hcp).mono ?_; rintro e w2 ⟨⟨r, rfl⟩, hb2⟩; have HB2 := hide (bt2 (ba _ _) hb2); clear hb2)
  go_ret
  exact ⟨⟨_, rfl⟩, unhide HB2⟩
def SameP (n : Nat) : Prop := ∀ (kd : Int) (tx : ByteArray) (nm ps : Int) (ty : ByteArray) (rf : Int) (kids : List Tr) (a a' : Option Addr) (cp cp' : Nat) (w : World), KidsT (Old w) w n kids a → KidsT (Old w) w n kids a' → kids.length ≤ cp → kids.length ≤ cp' →
    Calls Tryz.prog 11 #[.agg #[.int .i64 kd, .string tx, .int .i64 nm, .int .i64 ps, .string ty, .int .i64 rf, .slice a kids.length cp], .agg #[.int .i64 kd, .string tx, .int .i64 nm, .int .i64 ps, .string ty, .int .i64 rf, .slice a' kids.length cp']] w fun e w' => e = .returned (.bool true) ∧ Below w.heap.size w w'
set_option maxRecDepth 100000 in
set_option maxHeartbeats 2000000 in
theorem same_step (n : Nat) (ih : ∀ m, n = m + 1 → SameP m) : SameP n := by
  intro kd tx nm ps ty rf kids a a' cp cp' w hk hk' hcp hcp'
  have hfew := hk.1
  have HK := hide hk
  have HK' := hide hk'
  have HI := hide ih
  clear hk hk' ih
  go_enter Tryz.func11, Tryz.ntmps11
  go_wp2
  go_loopg [5] (kids.length + 1) (fun g v5 wr => ∃ j : Nat, g = kids.length + 1 - j ∧ j ≤ kids.length ∧ v5 = .int .i64 j ∧ Below w.heap.size w wr ∧ wr.heap[w.heap.size]? = some (.cells #[.int .i64 kd, .string tx, .int .i64 nm, .int .i64 ps, .string ty, .int .i64 rf, .slice a kids.length cp] 24) ∧ wr.heap[w.heap.size + 1]? = some (.cells #[.int .i64 kd, .string tx, .int .i64 nm, .int .i64 ps, .string ty, .int .i64 rf, .slice a' kids.length cp'] 24))
  case atStart => exact ⟨0, by omega, by omega, rfl, ba2 (ba _ _) _, blk_alloc (heap_alloc_new' _ _ rfl) _, heap_alloc_new' _ _ (by simp)⟩
  case round =>
    obtain ⟨j, rfl, hj, rfl, hb, b0, b1⟩ := hrel
    have x0 := blk_cell b0 6
    have x1 := blk_cell b1 6
    simp at x0 x1
    have hl1 := blk_lt b1
    have hbs := hb.size
    by_cases hlt : j < kids.length
    · have hltz : (j : Int) < kids.length := by omega
      obtain ⟨m, b, off, kd2, tx2, nm2, ps2, ty2, rf2, ks2, a2, cp2, hn, rfl, hbN, ek, hcp2, hk2, c0, c1, c2, c3, c4, c5, c6⟩ := ((unhide HK).next hb).kid hlt
      obtain ⟨m', b', off', kd3, tx3, nm3, ps3, ty3, rf3, ks3, a3, cp3, hn', rfl, hbN', ek', hcp3, hk3, d0, d1, d2, d3, d4, d5, d6⟩ := ((unhide HK').next hb).kid hlt
      rw [ek] at ek'
      simp only [Option.some.injEq, Tr.mk.injEq] at ek'
      obtain ⟨rfl, rfl, rfl, rfl, rfl, rfl, rfl⟩ := ek'
      obtain rfl : m' = m := by omega
      have HC : Hid (∀ W, Below wr.heap.size wr W → Calls Tryz.prog 11 #[.agg #[.int .i64 kd2, .string tx2, .int .i64 nm2, .int .i64 ps2, .string ty2, .int .i64 rf2, .slice a2 ks2.length cp2], .agg #[.int .i64 kd2, .string tx2, .int .i64 nm2, .int .i64 ps2, .string ty2, .int .i64 rf2, .slice a3 ks2.length cp3]] W fun e w' => e = .returned (.bool true) ∧ Below wr.heap.size wr w') := by
        intro W hW
        refine (unhide HI m' hn kd2 tx2 nm2 ps2 ty2 rf2 ks2 a2 a3 cp2 cp3 W (hk2.next hW) (hk3.next hW) hcp2 hcp3).mono ?_
        rintro e w' ⟨h1, h2⟩
        exact ⟨h1, hW.trans (h2.mono hW.size)⟩
      have HB := hide hb
      have HB0 := hide b0
      have HB1 := hide b1
      clear hk2 hk3 ek hb b0 b1 hn hn'
      go_wp2
      go_region_law (go_simp; go_at_call 11; refine (unhide HC _ (by (repeat' (first | exact Below.refl _ _ | refine Below.drew ?_)))).mono ?_; rintro e w2 ⟨rfl, hb2⟩; have HB2 := hide hb2; clear hb2)
      all_goals
        go_wp2
        go_roundg (kids.length + 1 - (j + 1))
        case measure => omega
        case rel => exact ⟨j + 1, rfl, by omega, by go_num, bt2 (unhide HB) (unhide HB2), ((unhide HB2).block _ (by omega)).trans (unhide HB0), ((unhide HB2).block _ (by omega)).trans (unhide HB1)⟩
    · have hltz : ¬ (j : Int) < kids.length := by omega
      go_wp2
      go_ret
      exact ⟨rfl, hb⟩
theorem same_w : ∀ n, SameP n := by
  intro n
  induction n with
  | zero => exact same_step 0 fun m h => by omega
  | succ n ih => exact same_step (n + 1) fun m h => by obtain rfl : m = n := by omega
                                                       exact ih
end Go.Proofs.YtgckmkiiheaeaaaGreatDoor
namespace Go.Proofs.YtgckmkiiheaeaaaGreatDoor
open Go.RowKit Go.Proofs.YtgckmkiiheaeaaaGreatDoor.Lx

/-- Blocks that were made from a time on. -/
def New (lo : Nat) (w : World) (k : Nat) : Prop := lo ≤ k ∧ k < w.heap.size
/-- A row of nodes under way: it, and all that hangs on it, is new since lo; nothing that hangs on it lies in its own block. -/
def Gr (w : World) (lo n : Nat) (v : Value) (l : List Tr) : Prop :=
  l.length ≤ 1599289640354 ∧ ∃ xs, w.ownsRow lo 24 7 v l.length xs ∧ (∀ g, v.ownBlock = some g → g < w.heap.size) ∧ RowX (TrC (fun k => New lo w k ∧ some k ≠ v.ownBlock) w n) l fun i => xs[i]?
theorem Gr.nil (w : World) (lo n : Nat) : Gr w lo n (.slice none 0 0) [] :=
  ⟨by simp, [], World.ownsRow_nil _ _ _ _, fun g hg => by simp [Value.ownBlock] at hg, fun j hj => by simp at hj⟩
theorem b_ownsRow {w w' : World} {base e size n : Nat} {v : Value} {xs : List Value} (h : w.ownsRow base e size v n xs) (hb : ∀ g, v.ownBlock = some g → w'.heap[g]? = w.heap[g]?) : w'.ownsRow base e size v n xs := by
  refine ⟨h.1, ?_⟩
  rcases h.2 with h2 | ⟨g, cap, cur, rfl, h3, h4, h5⟩
  · exact .inl h2
  · exact .inr ⟨g, cap, cur, rfl, h3, (hb g rfl).trans h4, h5⟩
theorem Gr.frame {w w' : World} {lo n : Nat} {v : Value} {l : List Tr} (h : Gr w lo n v l) (hz : w.heap.size ≤ w'.heap.size) (hf : ∀ b, lo ≤ b → b < w.heap.size → w'.heap[b]? = w.heap[b]?) : Gr w' lo n v l := by
  obtain ⟨h0, xs, h1, h2, h3⟩ := h
  exact ⟨h0, xs, b_ownsRow h1 fun g hg => hf g (h1.lt g hg).1 (h2 g hg), fun g hg => Nat.lt_of_lt_of_le (h2 g hg) hz,
    h3.imp (fun t cs hc => hc.same fun b hb => ⟨⟨⟨hb.1.1, Nat.lt_of_lt_of_le hb.1.2 hz⟩, hb.2⟩, hf b hb.1.1 hb.1.2⟩) fun _ _ h => h⟩
theorem Gr.below {w w' : World} {lo n : Nat} {v : Value} {l : List Tr} (h : Gr w lo n v l) (hb : Below w.heap.size w w') : Gr w' lo n v l := h.frame hb.size fun b _ h2 => hb.block b h2
theorem Gr.set {w : World} {lo n : Nat} {v : Value} {l : List Tr} (h : Gr w lo n v l) {p : Addr} (u : Value) (hp : p.block < lo) : Gr (w.setCell p u) lo n v l :=
  h.frame (by simp [World.setCell]) fun b h1 _ => Below.heap_setCell _ _ _ _ (by omega)
theorem Gr.form {w : World} {lo n : Nat} {v : Value} {l : List Tr} (h : Gr w lo n v l) : ∃ ao cp, v = .slice ao l.length cp ∧ l.length ≤ cp := by
  obtain ⟨_, xs, h1, _⟩ := h
  rcases h1.2 with ⟨h2, h3⟩ | ⟨g, cap, cur, h2, _, _, h5, _⟩
  · exact ⟨none, 0, by rw [h2, h3], by omega⟩
  · exact ⟨_, cap, h2, h5⟩
theorem Gr.own {w : World} {lo n : Nat} {v : Value} {l : List Tr} (h : Gr w lo n v l) : ∀ x, v.ownBlock = some x → lo ≤ x ∧ x < w.heap.size := by
  obtain ⟨_, xs, h1, h2, _⟩ := h
  exact fun x hx => ⟨(h1.lt x hx).1, h2 x hx⟩
theorem Gr.cap {w : World} {lo n cp : Nat} {ao : Option Addr} {l : List Tr} (h : Gr w lo n (.slice ao l.length cp) l) : l.length ≤ cp := by
  obtain ⟨ao', cp', e, h1⟩ := h.form
  simp only [Value.slice.injEq] at e
  omega
theorem Gr.kids {w : World} {lo n cp : Nat} {ao : Option Addr} {l : List Tr} (h : Gr w lo n (.slice ao l.length cp) l) : KidsT (New lo w) w n l ao := by
  obtain ⟨h0, xs, h1, h2, h3⟩ := h
  refine ⟨h0, fun hl => ?_⟩
  rcases h1.2 with ⟨e1, e2⟩ | ⟨g, cap, cur, e1, e2, e3, e4, e5, e6, e7⟩
  · omega
  · simp only [Value.slice.injEq] at e1
    obtain ⟨rfl, _, rfl⟩ := e1
    refine ⟨g, 0, rfl, ⟨e2, h2 g rfl⟩, h3.imp (fun t cs hc => hc.same fun b hb => ⟨hb.1, rfl⟩) fun i u hu => ?_⟩
    have hi : i < l.length * 7 := by
      rcases Nat.lt_or_ge i xs.length with h | h
      · rw [h1.1] at h; exact h
      · rw [List.getElem?_eq_none h] at hu; cases hu
    rw [← e7, List.getElem?_take, if_pos hi] at hu
    rw [Nat.zero_add, blk_cell e3]
    simpa using hu
theorem Gr.push {w w1 : World} {lo n A B g cap : Nat} {v : Value} {l : List Tr} {xs c : List Value} {t : Tr} (hl : l.length + 1 ≤ 1599289640354)
    (h3 : RowX (TrC (fun k => New lo w k ∧ some k ≠ v.ownBlock) w n) l fun i => xs[i]?) (hx : xs.length = l.length * 7)
    (h1 : w1.ownsRow lo 24 7 (.slice (some ⟨g, 0, none⟩) (l.length + 1) cap) (l.length + 1) (xs ++ c)) (hg : w.grownBy w1 v.ownBlock) (hat : v.ownBlock = some g ∨ g = w.heap.size) (hgl : g < w1.heap.size)
    (h2 : ∀ x, v.ownBlock = some x → x < A) (hc : TrC (fun k => A ≤ k ∧ k < B) w n t c) (h7 : c.length = 7) (hA : lo ≤ A) (hB : B ≤ w.heap.size) : Gr w1 lo n (.slice (some ⟨g, 0, none⟩) (l.length + 1) cap) (l ++ [t]) := by
  have hz := hg.size
  have hne : ∀ k, New lo w k → some k ≠ v.ownBlock → New lo w1 k ∧ some k ≠ (Value.slice (some ⟨g, 0, none⟩) (l.length + 1) cap).ownBlock ∧ w1.heap[k]? = w.heap[k]? := by
    intro k hk hn
    refine ⟨⟨hk.1, Nat.lt_of_lt_of_le hk.2 hz⟩, ?_, hg.block k hk.2 hn⟩
    simp only [Value.ownBlock, ne_eq, Option.some.injEq]
    rintro rfl
    rcases hat with h | h
    · exact hn h.symm
    · exact absurd hk.2 (by omega)
  refine ⟨by simpa using hl, xs ++ c, by simpa using h1, fun x hx => by simp only [Value.ownBlock, Option.some.injEq] at hx; omega, fun j hj => ?_⟩
  rw [List.length_append, List.length_cons, List.length_nil] at hj
  by_cases hjl : j < l.length
  · obtain ⟨cs, q1, q2, q3⟩ := h3 j hjl
    refine ⟨cs, ?_, q2, fun k u hk => ?_⟩
    · rw [List.getElem_append_left hjl]
      exact q1.same fun b hb => ⟨⟨(hne b hb.1 hb.2).1, (hne b hb.1 hb.2).2.1⟩, (hne b hb.1 hb.2).2.2⟩
    · have : xs[j * 7 + k]? = some u := q3 k u hk
      show (xs ++ c)[j * 7 + k]? = some u
      rw [List.getElem?_append_left]
      · exact this
      · rcases Nat.lt_or_ge (j * 7 + k) xs.length with h | h
        · exact h
        · rw [List.getElem?_eq_none h] at this; cases this
  · obtain rfl : j = l.length := by omega
    refine ⟨c, ?_, h7, fun k u hk => ?_⟩
    · rw [List.getElem_append_right (Nat.le_refl _)]
      simp only [Nat.sub_self, List.getElem_cons_zero]
      refine hc.same fun b hb => ?_
      have := hne b ⟨by omega, by omega⟩ (fun e => by have := h2 b e.symm; omega)
      exact ⟨⟨this.1, this.2.1⟩, this.2.2⟩
    · show (xs ++ c)[l.length * 7 + k]? = some u
      rw [List.getElem?_append_right (by omega), hx, Nat.add_sub_cancel_left]
      exact hk
theorem Gr.set7 {w : World} {lo n k : Nat} {v v0 v1 v2 v3 v4 v5 v6 : Value} {l : List Tr} (h : Gr w lo n v l) (hk : k < lo) : Gr (((((((w.setCell ⟨k, 0, none⟩ v0).setCell ⟨k, 1, none⟩ v1).setCell ⟨k, 2, none⟩ v2).setCell ⟨k, 3, none⟩ v3).setCell ⟨k, 4, none⟩ v4).setCell ⟨k, 5, none⟩ v5).setCell ⟨k, 6, none⟩ v6) lo n v l :=
  ((((((h.set _ hk).set _ hk).set _ hk).set _ hk).set _ hk).set _ hk).set _ hk
theorem b_set7 {w0 w : World} {B k : Nat} {v0 v1 v2 v3 v4 v5 v6 : Value} (h : Below B w0 w) (hk : B ≤ k) : Below B w0 (((((((w.setCell ⟨k, 0, none⟩ v0).setCell ⟨k, 1, none⟩ v1).setCell ⟨k, 2, none⟩ v2).setCell ⟨k, 3, none⟩ v3).setCell ⟨k, 4, none⟩ v4).setCell ⟨k, 5, none⟩ v5).setCell ⟨k, 6, none⟩ v6) :=
  ((((((h.setCell (p := ⟨k, 0, none⟩) hk _).setCell (p := ⟨k, 1, none⟩) hk _).setCell (p := ⟨k, 2, none⟩) hk _).setCell (p := ⟨k, 3, none⟩) hk _).setCell (p := ⟨k, 4, none⟩) hk _).setCell (p := ⟨k, 5, none⟩) hk _).setCell (p := ⟨k, 6, none⟩) hk _
theorem b_info24 : (Tryz.prog.info? 24).map (fun i => (i.zero, i.size, i.bytes)) = some (some (.agg #[.int .i64 0, .string ⟨#[]⟩, .int .i64 0, .int .i64 0, .string ⟨#[]⟩, .int .i64 0, .slice none 0 0]), 7, 88) := by kernel_rfl
theorem b_parts {i : Option TypeInfo} {z : Option Value} {s b : Nat} (h : i.map (fun i => (i.zero, i.size, i.bytes)) = some (z, s, b)) : ∃ j, i = some j ∧ j.zero = z ∧ j.size = s ∧ j.bytes = b := by
  obtain ⟨j, h1, h2⟩ := Option.map_eq_some_iff.1 h
  simp only [Prod.mk.injEq] at h2
  exact ⟨j, h1, h2.1, h2.2.1, h2.2.2⟩
theorem step_app7 {ops : Array Oper} {o : Oper} {a : Act} {K : Act → World → Prop} {Q : Exit → Act → World → Prop} {E : Prop} {w : World} (hgd : o.guard = none) (s x : Operand) (ho : o.op = .call { callee := .builtin .append, args := #[s, x], argTypes := #[22, 22] })
    {lo n : Nat} {ao : Option Addr} {cp : Nat} {l : List Tr} {t : Tr} {A B g0 : Nat} {cur : Array Value} (hs : a.eval s = .slice ao l.length cp) (hrow : Gr w lo n (.slice ao l.length cp) l)
    (hx : a.eval x = .slice (some ⟨g0, 0, none⟩) 1 1) (hb : w.heap[g0]? = some (.cells cur 24)) (hc : TrC (fun k => A ≤ k ∧ k < B) w n t cur.toList) (h7 : cur.size = 7) (h1c : ∀ u ∈ cur.toList, u.oneCell' = true) (hn : l.length + 1 ≤ 1599289640354) (hlo : lo ≤ w.heap.size) (hA : lo ≤ A) (hB : B ≤ w.heap.size) (hd : ∀ x, (Value.slice ao l.length cp).ownBlock = some x → x < A)
    (h : ∀ g cp' w', Gr w' lo n (.slice (some ⟨g, 0, none⟩) (l.length + 1) cp') (l ++ [t]) → w.grownBy w' (Value.slice ao l.length cp).ownBlock → lo ≤ g → g < w'.heap.size → K (a.put o.dst (.slice (some ⟨g, 0, none⟩) (l.length + 1) cp')) w') :
    if Region.wanted o (yielded ops a.tmps) = true then Oper.wp Tryz.prog o a w K Q else E := by
  obtain ⟨_, xs, r1, r2, r3⟩ := hrow
  obtain ⟨i0, hi0, hz0, hz1, hz2⟩ := b_parts b_info24
  refine step_append_lies _ hgd s x 22 ho lo 24 i0 _ 7 88 Tryz.underlying22 hi0 hz0 hz1 hz2 rfl (by decide) _ l.length xs hs r1 ⟨g0, 0, none⟩ 1 1 cur.toList hx (by simpa using h7) (World.news_of_block hb) h1c (by decide) (by unfold maxLen; omega) (by omega) hlo _ rfl ?_
  intro g cap w' q1 q2 q3 q4
  refine h g cap w' (Gr.push hn r3 r1.1 q1 q2 q3 q4 hd hc (by simpa using h7) hA hB) q2 ?_ q4
  rcases q3 with q3 | q3
  · exact (r1.lt g q3).1
  · omega
theorem b_one7 {kd nm ps rf : Int} {tx ty : ByteArray} {ao : Option Addr} {n cp : Nat} : ∀ u ∈ (#[Value.int .i64 kd, .string tx, .int .i64 nm, .int .i64 ps, .string ty, .int .i64 rf, .slice ao n cp] : Array Value).toList, u.oneCell' = true := by
  simp [Value.oneCell']
/-- A tree without places and marks. -/
def bareT : Nat → Tr → Tr
  | 0, t => t
  | n + 1, .mk kd tx nm _ _ _ kids => .mk kd tx nm 0 ⟨#[]⟩ 0 (kids.map (bareT n))
end Go.Proofs.YtgckmkiiheaeaaaGreatDoor
