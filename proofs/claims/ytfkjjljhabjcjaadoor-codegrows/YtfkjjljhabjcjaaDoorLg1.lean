/- CodeGrows: the program that has a text and a function more. -/
import Derived.Test.YtfkjjljhabjcjaaDoorLr2
import Derived.Test.YtfkjjljhabjcjaaDoorLg0
namespace Go.Proofs.YtfkjjljhabjcjaaDoor
open Go.RowKit Go.Proofs.YtfkjjljhabjcjaaDoor.Cx
def newI (z : Int) (l : List Int) : Ins := ⟨z, wrap64 (-z), l.length, 4611686018427387904, -4611686018427387904, l⟩
def zeroI : Ins := ⟨0, 0, 0, 0, 0, []⟩
def newF (s : ByteArray) (z : Int) (l : List Int) : Fnc := ⟨s, [true, false], 0, 0, false, [newI z l, zeroI, newI z l]⟩
def newP (x : Prg) (s : ByteArray) (z : Int) (l : List Int) : Prg := ⟨x.texts ++ [s], x.globals, x.structs, x.funcs ++ [newF s z l], x.main⟩
theorem sumN_snoc {α : Type} (f : α → Nat) (l : List α) (a : α) : sumN f (l ++ [a]) = sumN f l + f a := by simp [sumN]
theorem tot_new (x : Prg) (s : ByteArray) (z : Int) (l : List Int) : tot (newP x s z l) = tot x + 7 + 2 * s.size + 2 * l.length := by
  have e1 : fncN (newF s z l) = s.size + 5 + 2 * l.length := by
    show s.size + 2 + 3 + sumN insN [newI z l, zeroI, newI z l] = _
    have : sumN insN [newI z l, zeroI, newI z l] = l.length + (0 + (l.length + 0)) := rfl
    omega
  unfold tot newP
  simp only [List.length_append, List.length_cons, List.length_nil, sumN_snoc, e1]
  omega
theorem new_ne (x : Prg) (s : ByteArray) (z : Int) (l : List Int) : x ≠ newP x s z l := fun e => by
  have := congrArg (fun p : Prg => p.texts.length) e
  simp [newP] at this
theorem wrap_ok (z : Int) : okN (wrap64 z) := by
  unfold okN wrap64
  omega
theorem ok0 : okN 0 := ⟨by decide, by decide⟩
theorem okC : okN 4611686018427387904 := ⟨by decide, by decide⟩
theorem okD : okN (-4611686018427387904) := ⟨by decide, by decide⟩
theorem okS3 (n : Nat) (h : n ≤ 3) : okS n := by unfold okS; omega
theorem newI_ok {z : Int} {l : List Int} (hz : okN z) (hl : okL okN l) (hn : l.length ≤ 1000) : okI (newI z l) :=
  ⟨hz, wrap_ok _, ⟨by show (-9223372036854775808 : Int) ≤ (l.length : Int); omega, by show (l.length : Int) ≤ 9223372036854775807; omega⟩, okC, okD, hl⟩
theorem okL_snoc {α : Type} {ok : α → Prop} {l : List α} {a : α} (h : okL ok l) (ha : ok a) (hn : l.length ≤ 1000000) : okL ok (l ++ [a]) :=
  ⟨by unfold okS; simp; omega, fun x hx => by
    rcases List.mem_append.1 hx with hx | hx
    · exact h.2 x hx
    · rw [List.mem_singleton.1 hx]; exact ha⟩
theorem newF_ok {s : ByteArray} {z : Int} {l : List Int} (hs : s.size ≤ 1000) (hz : okN z) (hl : okL okN l) (hn : l.length ≤ 1000) : okF (newF s z l) := by
  have hi := newI_ok hz hl hn
  have h0 : okI zeroI := ⟨ok0, ok0, ok0, ok0, ok0, okS3 0 (by decide), fun x hx => by cases hx⟩
  refine ⟨by show s.size < _; omega, ⟨okS3 2 (by decide), fun _ _ => trivial⟩, ok0, ok0, trivial, okS3 3 (by decide), fun x hx => ?_⟩
  have hx' : x = newI z l ∨ x = zeroI ∨ x = newI z l := by simpa [newF, Fnc.tup] using hx
  rcases hx' with rfl | rfl | rfl
  · exact hi
  · exact h0
  · exact hi
theorem newP_ok {x : Prg} {s : ByteArray} {z : Int} {l : List Int} (hx : okP x) (ht : tot x < 5000) (hs : s.size ≤ 1000) (hz : okN z) (hl : okL okN l) (hn : l.length ≤ 1000) : okP (newP x s z l) := by
  obtain ⟨h1, h2, h3, h4, h5⟩ := hx
  unfold tot at ht
  exact ⟨okL_snoc h1 (show s.size < _ by omega) (by show x.texts.length ≤ _; omega), h2, h3, okL_snoc h4 (newF_ok hs hz hl hn) (by show x.funcs.length ≤ _; omega), h5⟩
/-- A row of items as the plain cells of a row that is owned. -/
theorem row_chunks {α : Type} {C : (Nat → Prop) → World → α → List Value → Prop} {size : Nat} {S : Nat → Prop} {w : World} {l : List α} {a : Option Addr} (h : RowOf C size S w l a) :
    ∃ items : List (α × List Value), items.map (·.1) = l ∧ (∀ p ∈ items, C S w p.1 p.2 ∧ p.2.length = size) ∧ ∀ j u, (items.flatMap (·.2))[j]? = some u → ∃ b off, a = some ⟨b, off, none⟩ ∧ w.cell? ⟨b, off + j, none⟩ = some u := by
  have each : ∀ j : Fin l.length, ∃ cs, C S w l[j] cs ∧ cs.length = size ∧ ∃ b off, a = some ⟨b, off, none⟩ ∧ ∀ k u, cs[k]? = some u → w.cell? ⟨b, off + j.val * size + k, none⟩ = some u := fun j => by
    obtain ⟨b, off, cs, h1, _, h3, h4, h5⟩ := h.2 j.val j.isLt
    exact ⟨cs, h3, h4, b, off, h1, h5⟩
  obtain ⟨f, hf⟩ := Classical.axiomOfChoice each
  have hlen : ∀ p ∈ List.ofFn (fun j : Fin l.length => (l[j], f j)), p.2.length = size := fun p hp => by
    obtain ⟨j, rfl⟩ := List.mem_ofFn.1 hp
    exact (hf j).2.1
  refine ⟨List.ofFn (fun j : Fin l.length => (l[j], f j)), ?_, fun p hp => ?_, fun j u hj => ?_⟩
  · apply List.ext_getElem
    · simp
    · intro j h1 h2; simp
  · obtain ⟨j, rfl⟩ := List.mem_ofFn.1 hp
    exact ⟨(hf j).1, (hf j).2.1⟩
  · rcases Nat.eq_zero_or_pos size with h0 | h0
    · have := chunks_len _ hlen
      rw [h0, Nat.mul_zero] at this
      rw [List.length_eq_zero_iff.1 this] at hj
      cases hj
    · have hl := chunks_len _ hlen
      have hjl : j < l.length * size := by
        rcases Nat.lt_or_ge j (l.length * size) with h1 | h1
        · exact h1
        · rw [List.getElem?_eq_none (by rw [hl, List.length_ofFn]; exact h1)] at hj; cases hj
      have hq : j / size < l.length := (Nat.div_lt_iff_lt_mul h0).2 hjl
      obtain ⟨h1, h2, b, off, h3, h4⟩ := hf ⟨j / size, hq⟩
      have hk : j % size < (f ⟨j / size, hq⟩).length := by rw [h2]; exact Nat.mod_lt _ h0
      have hc := chunk_at (List.ofFn (fun j : Fin l.length => (l[j], f j))) (j / size) (j % size) (f ⟨j / size, hq⟩)[j % size] (by simpa using hq) hlen (by rw [List.getElem_ofFn]; exact List.getElem?_eq_getElem hk)
      have ej : j / size * size + j % size = j := Nat.div_add_mod' j size
      rw [ej, hj] at hc
      have hu := Option.some.inj hc
      refine ⟨b, off, h3, ?_⟩
      have := h4 (j % size) _ (List.getElem?_eq_getElem hk)
      rw [Nat.add_assoc, ej] at this
      rw [this, hu]
end Go.Proofs.YtfkjjljhabjcjaaDoor
