/- A program that is handed in, opened. -/
import Derived.Test.YtipnefogflpkhaaDoorAf0
import Derived.Deep.Slices
import Derived.Deep.SlicePairs
import Derived.ProofKit
import Derived.SizedLaws
namespace Go.Proofs.YtipnefogflpkhaaDoor
open Go.RowKit Go.ChangeShapes Go.WideShapes Go.Deep
theorem wf_ok {n : Int} (h : (Lit.int .i64 n).wf = true) : okN n := by
  simp [Lit.wf, IntKind.min, IntKind.max, IntKind.signed, IntKind.bits] at h
  unfold okN
  omega
/-- No string and no slice of it takes more bytes than may be. -/
def Sml {H : Type} (t : TypeId) (d : DataW H) : Prop := ∀ n ∈ d.weights Tryd.prog t, n ≤ reachBytes
theorem weightsAll_mem {H : Type} {P : Program} {e : TypeId} : ∀ {l : List (DataW H)} {d : DataW H}, d ∈ l → ∀ n ∈ d.weights P e, n ∈ DataW.weightsAll P e l
  | d0 :: l, d, h, n, hn => by
    simp only [DataW.weightsAll, List.mem_append]
    rcases List.mem_cons.1 h with rfl | h
    · exact .inl hn
    · exact .inr (weightsAll_mem h n hn)
theorem Sml.slice {H : Type} {t e : TypeId} {el sp : List (DataW H)} (ht : Tryd.prog.underlying t = some (.slice e)) (h : Sml t (.slice el sp)) : el.length * Tryd.prog.bytesOf e ≤ reachBytes ∧ ∀ d ∈ el, Sml e d := by
  unfold Sml at h
  rw [DataW.weights, ht] at h
  constructor
  · have := h _ (List.mem_cons_self ..)
    have h2 : el.length * Tryd.prog.bytesOf e ≤ (el.length + sp.length) * Tryd.prog.bytesOf e := Nat.mul_le_mul_right _ (by omega)
    omega
  · exact fun d hd n hn => h n (List.mem_cons_of_mem _ (List.mem_append_left _ (weightsAll_mem hd n hn)))
theorem Sml.field {H : Type} {t : TypeId} {fs : Array Field} {parts : List (DataW H)} (ht : Tryd.prog.underlying t = some (.struct fs)) (h : Sml t (.agg parts)) {j : Nat} {f : Field} {d : DataW H} (hj : fs[j]? = some f) (hd : parts[j]? = some d) : Sml f.type d := by
  unfold Sml at h
  rw [DataW.weights, ht] at h
  exact fun n hn => h n (DataW.weights_mem_each (j := j) (by simp [hj]) hd n hn)
section
variable {H : Type} {enc : TypeId × Value → H} {w : World} {spare : Nat → Bool} {held : Bool}
theorem open_row {α : Type} [Inhabited α] (C : (Nat → Prop) → World → α → List Value → Prop) (size : Nat) {t e : TypeId} (ht : Tryd.prog.underlying t = some (.slice e)) (ce : Tryd.prog.cellsOf e = size) (hs : 0 < size) (hb1 : 0 < Tryd.prog.bytesOf e)
    (hitem : ∀ fuel cs x, DataW.trod enc Tryd.prog w 0 spare held fuel e cs = some x → Sml e x.1 → ∃ y, C (· < w.heap.size) w y cs) {fuel : Nat} {v : Value} {x : DataW H × List MemPlace} (h : DataW.trod enc Tryd.prog w 0 spare held fuel t [v] = some x) (hsm : Sml t x.1) :
    ∃ (l : List α) (a : Option Addr) (cap : Nat), v = .slice a l.length cap ∧ l.length ≤ cap ∧ RowOf C size (· < w.heap.size) w l a := by
  rcases Go.Deep.open_slice ht h with ⟨h0, _⟩ | ⟨a, len, cap, m, n, D, Pl, hcs, hb, hl, hm, hmm, hxe, hx⟩
  · simp at h0
    exact ⟨[], none, 0, h0, Nat.zero_le _, rowNil _ _ _ _ _⟩
  · simp at hcs
    have hlm : len ≤ m := by rw [hmm]; split <;> omega
    subst hxe
    have hs2 := Sml.slice ht hsm
    have hlen47 : len ≤ 140737488355328 := by
      have h1 := hs2.1
      rw [List.length_map, List.length_range] at h1
      have h2 : len * 1 ≤ len * Tryd.prog.bytesOf e := Nat.mul_le_mul_left _ hb1
      have h3 := reachBytes_lt
      omega
    have each : ∀ i, ∃ p : α × List Value, i < len → C (· < w.heap.size) w p.1 p.2 ∧ p.2.length = size ∧ ∀ k u, p.2[k]? = some u → w.cell? (a.add (i * size + k)) = some u := by
      intro i
      by_cases hi : i < len
      · obtain ⟨cs', h1, h2⟩ := hx i (by omega)
        rw [ce] at h1
        obtain ⟨_, hlen, hcell⟩ := World.cells?_some h1
        obtain ⟨y, hy⟩ := hitem _ _ _ h2 (hs2.2 _ (List.mem_map.2 ⟨i, by simp [hi], rfl⟩))
        refine ⟨(y, cs'), fun _ => ⟨hy, hlen, fun k u hk => ?_⟩⟩
        have hkl : k < size := by
          rcases Nat.lt_or_ge k cs'.length with h3 | h3
          · omega
          · have hk' : cs'[k]? = some u := hk
            rw [List.getElem?_eq_none h3] at hk'; cases hk'
        have := hcell k hkl
        rw [add_add] at this
        rw [this]; exact hk
      · exact ⟨(default, []), fun h => absurd h hi⟩
    obtain ⟨f, hf⟩ := Classical.axiomOfChoice each
    have hlen : ((List.range len).map fun i => (f i).1).length = len := by simp
    refine ⟨(List.range len).map fun i => (f i).1, some a, cap, by rw [hcs, hlen], by omega, by rw [hlen]; omega, fun j hj => ?_⟩
    rw [hlen] at hj
    obtain ⟨h1, h2, h3⟩ := hf j hj
    obtain ⟨_, g2, g3⟩ := hf 0 (by omega)
    have hc00 := g3 0 _ (List.getElem?_eq_getElem (show 0 < (f 0).2.length by omega))
    have hc0 := h3 0 _ (List.getElem?_eq_getElem (show 0 < (f j).2.length by omega))
    obtain ⟨b, off, spot⟩ := a
    have hspot : spot = none := by simpa [Addr.add] using World.cell?_spot hc00
    subst hspot
    rw [add_plain] at hc0
    refine ⟨b, off, (f j).2, rfl, World.block_lt_of_cell? w ⟨b, _, none⟩ hc0, by simpa using h1, h2, fun k u hk => ?_⟩
    have := h3 k u hk
    rw [add_plain, ← Nat.add_assoc] at this
    exact this
theorem open_num {fuel : Nat} {cs : List Value} {x : DataW H × List MemPlace} (h : DataW.trod enc Tryd.prog w 0 spare held fuel 3 cs = some x) : ∃ y, numC (· < w.heap.size) w y cs := by
  obtain ⟨z, e, _, r⟩ := DataW.trod_int Tryd.underlying3 h
  exact ⟨z, wf_ok r, e⟩
theorem open_flag {fuel : Nat} {cs : List Value} {x : DataW H × List MemPlace} (h : DataW.trod enc Tryd.prog w 0 spare held fuel 4 cs = some x) : ∃ y, flagC (· < w.heap.size) w y cs := by
  obtain ⟨z, e, _⟩ := DataW.trod_bool Tryd.underlying4 h
  exact ⟨z, e⟩
theorem open_text {fuel : Nat} {cs : List Value} {x : DataW H × List MemPlace} (h : DataW.trod enc Tryd.prog w 0 spare held fuel 9 cs = some x) (hsm : Sml 9 x.1) : ∃ y, textC (· < w.heap.size) w y cs := by
  obtain ⟨z, e, rfl, _⟩ := DataW.trod_string Tryd.underlying9 h
  refine ⟨z, ?_, e⟩
  have h1 := hsm z.data.toList.length (by simp [DataW.weights])
  have h3 := reachBytes_lt
  rw [Array.length_toList] at h1
  have h4 : z.data.size = z.size := rfl
  omega
theorem cells1 {t e fuel : Nat} {cs : List Value} {x : DataW H × List MemPlace} (ht : Tryd.prog.underlying t = some (.slice e)) (h : DataW.trod enc Tryd.prog w 0 spare held fuel t cs = some x) : ∃ v, cs = [v] := by
  rcases Go.Deep.open_slice ht h with ⟨h0, _⟩ | ⟨a, len, cap, m, n, D, Pl, hcs, _⟩
  · exact ⟨_, h0⟩
  · exact ⟨_, hcs⟩
theorem open_ints1 {fuel : Nat} {v : Value} {x : DataW H × List MemPlace} (h : DataW.trod enc Tryd.prog w 0 spare held fuel 32 [v] = some x) (hsm : Sml 32 x.1) : ∃ (l : List Int) (a : Option Addr) (cap : Nat), v = .slice a l.length cap ∧ l.length ≤ cap ∧ RowOf numC 1 (· < w.heap.size) w l a :=
  open_row numC 1 Tryd.underlying32 (by kernel_rfl) (by decide) (of_decide_eq_true (by kernel_rfl)) (fun _ _ _ h _ => open_num h) h hsm
theorem open_flags1 {fuel : Nat} {v : Value} {x : DataW H × List MemPlace} (h : DataW.trod enc Tryd.prog w 0 spare held fuel 23 [v] = some x) (hsm : Sml 23 x.1) : ∃ (l : List Bool) (a : Option Addr) (cap : Nat), v = .slice a l.length cap ∧ l.length ≤ cap ∧ RowOf flagC 1 (· < w.heap.size) w l a :=
  open_row flagC 1 Tryd.underlying23 (by kernel_rfl) (by decide) (of_decide_eq_true (by kernel_rfl)) (fun _ _ _ h _ => open_flag h) h hsm
theorem open_texts1 {fuel : Nat} {v : Value} {x : DataW H × List MemPlace} (h : DataW.trod enc Tryd.prog w 0 spare held fuel 22 [v] = some x) (hsm : Sml 22 x.1) : ∃ (l : List ByteArray) (a : Option Addr) (cap : Nat), v = .slice a l.length cap ∧ l.length ≤ cap ∧ RowOf textC 1 (· < w.heap.size) w l a :=
  open_row textC 1 Tryd.underlying22 (by kernel_rfl) (by decide) (of_decide_eq_true (by kernel_rfl)) (fun _ _ _ h hs => open_text h hs) h hsm
theorem open_structs1 {fuel : Nat} {v : Value} {x : DataW H × List MemPlace} (h : DataW.trod enc Tryd.prog w 0 spare held fuel 24 [v] = some x) (hsm : Sml 24 x.1) : ∃ (l : List (List Bool)) (a : Option Addr) (cap : Nat), v = .slice a l.length cap ∧ l.length ≤ cap ∧ RowOf (listC flagC 1) 1 (· < w.heap.size) w l a :=
  open_row (listC flagC 1) 1 Tryd.underlying24 (by kernel_rfl) (by decide) (of_decide_eq_true (by kernel_rfl)) (fun _ _ _ h hs => by
    obtain ⟨v, rfl⟩ := cells1 Tryd.underlying23 h
    obtain ⟨l, a, cap, rfl, _, hr⟩ := open_flags1 h hs
    exact ⟨l, a, cap, rfl, hr⟩) h hsm
end
section
variable {H : Type} {enc : TypeId × Value → H} {w : World} {spare : Nat → Bool} {held : Bool}
set_option maxRecDepth 100000 in
theorem open_ins {fuel : Nat} {cs : List Value} {x : DataW H × List MemPlace} (h : DataW.trod enc Tryd.prog w 0 spare held fuel 34 cs = some x) (hsm : Sml 34 x.1) : ∃ y, insC (· < w.heap.size) w y cs := by
  have c3 : Tryd.prog.cellsOf 3 = 1 := by kernel_rfl
  have c32 : Tryd.prog.cellsOf 32 = 1 := by kernel_rfl
  have c34 : Tryd.prog.cellsOf 34 = 6 := by kernel_rfl
  obtain ⟨xs, k, hk, hxy, hlen, hxl, hf⟩ := DataW.trod_struct Tryd.underlying34 h
  subst hxy
  have hfl := fun j f d (hj : _ = some f) (hd : _ = some d) => Sml.field Tryd.underlying34 hsm (j := j) hj hd
  rw [c34] at hlen
  match xs, hxl, cs, hlen with
  | [y0, y1, y2, y3, y4, y5], _, [v0, v1, v2, v3, v4, v5], _ =>
    have g0 := hf 0 _ rfl
    have g1 := hf 1 _ rfl
    have g2 := hf 2 _ rfl
    have g3 := hf 3 _ rfl
    have g4 := hf 4 _ rfl
    have g5 := hf 5 _ rfl
    simp [c3, c32] at g0 g1 g2 g3 g4 g5
    obtain ⟨z0, o0, e0⟩ := open_num g0
    obtain ⟨z1, o1, e1⟩ := open_num g1
    obtain ⟨z2, o2, e2⟩ := open_num g2
    obtain ⟨z3, o3, e3⟩ := open_num g3
    obtain ⟨z4, o4, e4⟩ := open_num g4
    obtain ⟨l, a, cap, rfl, _, hr⟩ := open_ints1 g5 (hfl 5 _ _ rfl rfl)
    simp at e0 e1 e2 e3 e4
    subst e0 e1 e2 e3 e4
    exact ⟨⟨z0, z1, z2, z3, z4, l⟩, ⟨o0, o1, o2, o3, o4⟩, a, cap, rfl, hr⟩
theorem open_code1 {fuel : Nat} {v : Value} {x : DataW H × List MemPlace} (h : DataW.trod enc Tryd.prog w 0 spare held fuel 29 [v] = some x) (hsm : Sml 29 x.1) : ∃ (l : List Ins) (a : Option Addr) (cap : Nat), v = .slice a l.length cap ∧ l.length ≤ cap ∧ RowOf insC 6 (· < w.heap.size) w l a :=
  open_row insC 6 Tryd.underlying29 (by kernel_rfl) (by decide) (of_decide_eq_true (by kernel_rfl)) (fun _ _ _ h hs => open_ins h hs) h hsm
set_option maxRecDepth 100000 in
theorem open_fnc {fuel : Nat} {cs : List Value} {x : DataW H × List MemPlace} (h : DataW.trod enc Tryd.prog w 0 spare held fuel 31 cs = some x) (hsm : Sml 31 x.1) : ∃ y, fncC (· < w.heap.size) w y cs := by
  have c3 : Tryd.prog.cellsOf 3 = 1 := by kernel_rfl
  have c4 : Tryd.prog.cellsOf 4 = 1 := by kernel_rfl
  have c9 : Tryd.prog.cellsOf 9 = 1 := by kernel_rfl
  have c23 : Tryd.prog.cellsOf 23 = 1 := by kernel_rfl
  have c29 : Tryd.prog.cellsOf 29 = 1 := by kernel_rfl
  have c31 : Tryd.prog.cellsOf 31 = 6 := by kernel_rfl
  obtain ⟨xs, k, hk, hxy, hlen, hxl, hf⟩ := DataW.trod_struct Tryd.underlying31 h
  subst hxy
  have hfl := fun j f d (hj : _ = some f) (hd : _ = some d) => Sml.field Tryd.underlying31 hsm (j := j) hj hd
  rw [c31] at hlen
  match xs, hxl, cs, hlen with
  | [y0, y1, y2, y3, y4, y5], _, [v0, v1, v2, v3, v4, v5], _ =>
    have g0 := hf 0 _ rfl
    have g1 := hf 1 _ rfl
    have g2 := hf 2 _ rfl
    have g3 := hf 3 _ rfl
    have g4 := hf 4 _ rfl
    have g5 := hf 5 _ rfl
    simp [c3, c4, c9, c23, c29] at g0 g1 g2 g3 g4 g5
    obtain ⟨z0, o0, e0⟩ := open_text g0 (hfl 0 _ _ rfl rfl)
    obtain ⟨l1, a1, cap1, rfl, _, hr1⟩ := open_flags1 g1 (hfl 1 _ _ rfl rfl)
    obtain ⟨z2, o2, e2⟩ := open_num g2
    obtain ⟨z3, o3, e3⟩ := open_num g3
    obtain ⟨z4, e4⟩ := open_flag g4
    obtain ⟨l5, a5, cap5, rfl, _, hr5⟩ := open_code1 g5 (hfl 5 _ _ rfl rfl)
    have e4' : [v4] = [Value.bool z4] := e4
    simp at e0 e2 e3 e4'
    subst e0 e2 e3 e4'
    exact ⟨⟨z0, l1, z2, z3, z4, l5⟩, ⟨o0, o2, o3⟩, a1, cap1, a5, cap5, rfl, hr1, hr5⟩
theorem open_funcs1 {fuel : Nat} {v : Value} {x : DataW H × List MemPlace} (h : DataW.trod enc Tryd.prog w 0 spare held fuel 25 [v] = some x) (hsm : Sml 25 x.1) : ∃ (l : List Fnc) (a : Option Addr) (cap : Nat), v = .slice a l.length cap ∧ l.length ≤ cap ∧ RowOf fncC 6 (· < w.heap.size) w l a :=
  open_row fncC 6 Tryd.underlying25 (by kernel_rfl) (by decide) (of_decide_eq_true (by kernel_rfl)) (fun _ _ _ h hs => open_fnc h hs) h hsm
set_option maxRecDepth 100000 in
theorem open_prg {fuel : Nat} {cs : List Value} {x : DataW H × List MemPlace} (h : DataW.trod enc Tryd.prog w 0 spare held fuel 27 cs = some x) (hsm : Sml 27 x.1) : ∃ y, prgC (· < w.heap.size) w y cs := by
  have c3 : Tryd.prog.cellsOf 3 = 1 := by kernel_rfl
  have c22 : Tryd.prog.cellsOf 22 = 1 := by kernel_rfl
  have c23 : Tryd.prog.cellsOf 23 = 1 := by kernel_rfl
  have c24 : Tryd.prog.cellsOf 24 = 1 := by kernel_rfl
  have c25 : Tryd.prog.cellsOf 25 = 1 := by kernel_rfl
  have c27 : Tryd.prog.cellsOf 27 = 5 := by kernel_rfl
  obtain ⟨xs, k, hk, hxy, hlen, hxl, hf⟩ := DataW.trod_struct Tryd.underlying27 h
  subst hxy
  have hfl := fun j f d (hj : _ = some f) (hd : _ = some d) => Sml.field Tryd.underlying27 hsm (j := j) hj hd
  rw [c27] at hlen
  match xs, hxl, cs, hlen with
  | [y0, y1, y2, y3, y4], _, [v0, v1, v2, v3, v4], _ =>
    have g0 := hf 0 _ rfl
    have g1 := hf 1 _ rfl
    have g2 := hf 2 _ rfl
    have g3 := hf 3 _ rfl
    have g4 := hf 4 _ rfl
    simp [c3, c22, c23, c24, c25] at g0 g1 g2 g3 g4
    obtain ⟨l0, a0, cap0, rfl, _, hr0⟩ := open_texts1 g0 (hfl 0 _ _ rfl rfl)
    obtain ⟨l1, a1, cap1, rfl, _, hr1⟩ := open_flags1 g1 (hfl 1 _ _ rfl rfl)
    obtain ⟨l2, a2, cap2, rfl, _, hr2⟩ := open_structs1 g2 (hfl 2 _ _ rfl rfl)
    obtain ⟨l3, a3, cap3, rfl, _, hr3⟩ := open_funcs1 g3 (hfl 3 _ _ rfl rfl)
    obtain ⟨z4, o4, e4⟩ := open_num g4
    simp at e4
    subst e4
    exact ⟨⟨l0, l1, l2, l3, z4⟩, o4, a0, cap0, a1, cap1, a2, cap2, a3, cap3, rfl, hr0, hr1, hr2, hr3⟩
set_option maxRecDepth 100000 in
theorem open_program {r : Go.Reach} {b0 : Nat} {v : Value} {d : DataW H} {p : List MemPlace} (hv : Value.okWide Tryd.prog w r b0 27 v) (h : DataW.Trod enc Tryd.prog w 0 spare held 27 v d p) (hsm : Sml 27 d) :
    ∃ x cs, v = .agg (List.toArray cs) ∧ prgC (· < w.heap.size) w x cs := by
  obtain ⟨cs, rfl, hsz, _⟩ : ∃ cs, v = .agg cs ∧ cs.size = Tryd.prog.cellsOf 27 ∧ Row.okWide Tryd.prog w r b0 27 cs := by
    simpa [Value.okWide, Tryd.underlying27] using hv
  obtain ⟨fuel, hf⟩ := h
  obtain ⟨x, hx⟩ := open_prg hf hsm
  exact ⟨x, cs.toList, by simp, hx⟩
end
end Go.Proofs.YtipnefogflpkhaaDoor
