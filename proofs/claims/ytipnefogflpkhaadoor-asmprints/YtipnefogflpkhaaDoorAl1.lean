/- AsmPrints, plainly: how long a text is, what a function's line is made of. -/
import Derived.Test.YtipnefogflpkhaaDoorAj1
set_option linter.unusedVariables false
set_option linter.unusedSimpArgs false
namespace Go.Proofs.YtipnefogflpkhaaDoor
open Go.RowKit
def hdrT (k : Nat) (f : Fnc) : List UInt8 := [102, 117, 110, 99, 32] ++ itoaT k ++ [32] ++ (nameB f.name).data.toList ++ [32, 112, 97, 114, 97, 109, 115, 32] ++ itoaT f.params ++ [32, 99, 97, 112, 116, 117, 114, 101, 115, 32] ++ itoaT f.captures ++ [32, 114, 101, 103, 105, 115, 116, 101, 114, 115, 32]
theorem fncP_text (k : Nat) (f : Fnc) : lineT (fncP k f) = hdrT k f ++ refsT f.refs ++ ((resB f.result).data.toList ++ [10]) := by
  unfold lineT fncP hdrT
  simp [partT]
theorem textP_text (j : Nat) (s : ByteArray) : lineT (textP j s) = [116, 101, 120, 116, 32] ++ itoaT j ++ [32] ++ quotedT s ++ [10] := by
  unfold lineT textP
  simp [partT]
theorem mainP_text (z : Int) : lineT (mainP z) = [109, 97, 105, 110, 32] ++ itoaT z ++ [10] := by
  unfold lineT mainP
  simp [partT]
def IOk (y : Ins) : Prop := (okN y.op ∧ okN y.a ∧ okN y.b ∧ okN y.c ∧ okN y.d) ∧ ∀ z ∈ y.list, okN z
def NOk (f : Fnc) : Prop := okN f.params ∧ okN f.captures ∧ ∀ y ∈ f.code, IOk y
theorem prg_okN {S : Nat → Prop} {w : World} {x : Prg} {cs : List Value} (h : prgC S w x cs) : okN x.main ∧ ∀ f ∈ x.funcs, NOk f := by
  obtain ⟨o0, a1, c1, a2, c2, a3, c3, a4, c4, _, h1, h2, h3, h4⟩ := h
  refine ⟨o0, row_all h4 fun f cs hf => ?_⟩
  obtain ⟨⟨_, p1, p2⟩, _, _, _, _, _, _, hc⟩ := hf
  refine ⟨p1, p2, row_all hc fun y cs hy => ?_⟩
  obtain ⟨q, _, _, _, hr⟩ := hy
  exact ⟨q, row_all hr fun z cs hz => hz.1⟩
theorem ins_le {k : Nat} (hk : okN k) {y : Ins} (h : IOk y) (hl : y.list.length ≤ 3000) : (lineT (insF k y)).length ≤ 264045 := by
  rw [insF_text]
  have h1 := body_small y hl h.1 h.2 (nrm y.op) (us (nrm y.op)).size
  have h2 := itoaT_le hk
  have h3 : (nm (nrm y.op)).data.toList.length = (nm (nrm y.op)).size := Array.length_toList
  have h4 := nm_small (nrm y.op)
  simp only [List.length_append, List.length_cons, List.length_nil]
  omega
theorem okN_nat {k : Nat} (h : k ≤ 9223372036854775807) : okN k := by unfold okN; omega
/-- What is counted of a function. -/
def FOk (f : Fnc) (n : Nat) : Prop := (f.name.size ≤ n ∧ f.refs.length ≤ n ∧ f.code.length ≤ n) ∧ ∀ y ∈ f.code, y.list.length ≤ n
theorem FOk.mono {f : Fnc} {m n : Nat} (h : FOk f m) (hn : m ≤ n) : FOk f n := ⟨⟨by have := h.1.1; omega, by have := h.1.2.1; omega, by have := h.1.2.2; omega⟩, fun y hy => by have := h.2 y hy; omega⟩
theorem fnc_le {k : Nat} (hk : okN k) {f : Fnc} (h : NOk f) (hf : FOk f 3000) : (fncT k f).length ≤ 792142000 := by
  unfold fncT
  rw [fncP_text, List.length_append, List.length_append, List.length_append, List.length_append]
  have h1 := itoaT_le hk
  have h2 := itoaT_le h.1
  have h3 := itoaT_le h.2.1
  have h4 : (nameB f.name).data.toList.length ≤ 3000 := by
    have e : (nameB f.name).data.toList.length = (nameB f.name).size := Array.length_toList
    rw [e]
    have := hf.1.1
    unfold nameB
    split
    · decide
    · exact this
  have h5 : (hdrT k f).length ≤ 3100 := by
    unfold hdrT
    simp only [List.length_append, List.length_cons, List.length_nil]
    omega
  have h6 : (refsT f.refs).length ≤ 3000 := by
    have := cat_bound (refT f.refs) (B := 1) (n := f.refs.length) (fun i _ => Nat.le_refl 1)
    have := hf.1.2.1
    show (cat _ _).length ≤ _
    omega
  have h7 : (resB f.result).data.toList.length ≤ 7 := by cases f.result <;> decide
  have h8 := cat_bound (codeT f) (B := 264045) (n := f.code.length) (fun i hi => by
    rw [codeT_at hi]
    exact ins_le (okN_nat (by have := hf.1.2.2; omega)) (h.2.2 _ (List.getElem_mem hi)) (hf.2 _ (List.getElem_mem hi)))
  have h9 : f.code.length * 264045 ≤ 3000 * 264045 := Nat.mul_le_mul_right _ hf.1.2.2
  simp only [List.length_cons, List.length_nil]
  omega
theorem text_le {k : Nat} (hk : okN k) {s : ByteArray} (hs : s.size ≤ 3000) : (lineT (textP k s)).length ≤ 6030 := by
  rw [textP_text]
  have h1 := itoaT_le hk
  have h2 := quotedT_le s
  simp only [List.length_append, List.length_cons, List.length_nil]
  omega
theorem printT_le {x : Prg} (hm : okN x.main) (hn : ∀ f ∈ x.funcs, NOk f) (ht : ∀ j (h : j < x.texts.length), x.texts[j].size ≤ 3000) (hf : ∀ j (h : j < x.funcs.length), FOk x.funcs[j] 3000) (h1 : x.texts.length ≤ 2000) (h2 : x.funcs.length ≤ 2000) : (printT x).length ≤ 2000000000000 := by
  have a := cat_bound (textT x.texts) (B := 6030) (n := x.texts.length) (fun i hi => by
    rw [textT_at hi]
    exact text_le (okN_nat (by omega)) (ht i hi))
  have b := cat_bound (funcT x.funcs) (B := 792142000) (n := x.funcs.length) (fun i hi => by
    rw [funcT_at hi]
    exact fnc_le (okN_nat (by omega)) (hn _ (List.getElem_mem hi)) (hf i hi))
  have c := itoaT_le hm
  have a2 : x.texts.length * 6030 ≤ 2000 * 6030 := Nat.mul_le_mul_right _ h1
  have b2 : x.funcs.length * 792142000 ≤ 2000 * 792142000 := Nat.mul_le_mul_right _ h2
  unfold printT
  rw [List.length_append, List.length_append, mainP_text]
  simp only [List.length_append, List.length_cons, List.length_nil]
  omega
end Go.Proofs.YtipnefogflpkhaaDoor
