/- What LexSpaced has put together after some lines. -/
import Derived.Test.YteoongjimggbgaaDoorSpacedA
namespace Go.Proofs.YteoongjimggbgaaDoor
open Go.RowKit Go.Proofs.YteoongjimggbgaaDoor.Lx

theorem srcA_snoc (s : List UInt8) : ∀ ls : List (List UInt8), srcA (ls ++ [s]) = srcA ls ++ (s ++ [10])
  | [] => by simp [srcA]
  | a :: r => by rw [List.cons_append, srcA, srcA, srcA_snoc s r]; simp
theorem srcB_snoc (s : List UInt8) : ∀ ls : List (List UInt8), srcB (ls ++ [s]) = srcB ls ++ (([32, 9] ++ s) ++ [32, 47, 47, 32, 97, 32, 40, 10, 10])
  | [] => by simp [srcB, lineB]
  | a :: r => by rw [List.cons_append, srcB, srcB, srcB_snoc s r]; simp
structure Half (ss : List ByteArray) (q : Nat) (x y : ByteArray) : Prop where
  a : x.toList = srcA ((ss.take q).map ByteArray.toList)
  b : y.toList = srcB ((ss.take q).map ByteArray.toList)
  no : ∀ s ∈ (ss.take q).map ByteArray.toList, ∀ c ∈ s, c ≠ 10
  lx : x.size ≤ 3001
  ly : y.size ≤ x.size + 10 * q
  few : q ≤ 200
theorem Half.zero (ss : List ByteArray) : Half ss 0 ⟨#[]⟩ ⟨#[]⟩ :=
  ⟨ByteArray.toList_mk [], ByteArray.toList_mk [], fun s h => by simp at h, by show (0 : Nat) ≤ 3001; omega, by show (0 : Nat) ≤ 0 + 10 * 0; omega, by omega⟩
theorem Half.next {ss : List ByteArray} {q : Nat} {x y s : ByteArray} (h : Half ss q x y) (hs : ss[q]? = some s) (hn : ∀ c ∈ s.toList, c ≠ 10) (h3 : x.size + s.size ≤ 3000) (hq : q < 200) :
    Half ss (q + 1) (x ++ (s ++ ⟨#[10]⟩)) (y ++ ((⟨#[32, 9]⟩ ++ s) ++ ⟨#[32, 47, 47, 32, 97, 32, 40, 10, 10]⟩)) := by
  have ht : (ss.take (q + 1)).map ByteArray.toList = (ss.take q).map ByteArray.toList ++ [s.toList] := by
    rw [List.take_add_one, hs, List.map_append]; rfl
  have ex : (x ++ (s ++ ⟨#[10]⟩)).toList = x.toList ++ (s.toList ++ [10]) := by rw [toL_append, toL_append, ByteArray.toList_mk [10]]
  have ey : (y ++ ((⟨#[32, 9]⟩ ++ s) ++ ⟨#[32, 47, 47, 32, 97, 32, 40, 10, 10]⟩)).toList = y.toList ++ (([32, 9] ++ s.toList) ++ [32, 47, 47, 32, 97, 32, 40, 10, 10]) := by
    rw [toL_append, toL_append, toL_append, ByteArray.toList_mk [32, 9], ByteArray.toList_mk [32, 47, 47, 32, 97, 32, 40, 10, 10]]
  have zx := toL_size ex
  have zy := toL_size ey
  rw [List.length_append, List.length_append, toL_len, toL_len] at zx
  rw [List.length_append, List.length_append, List.length_append, toL_len, toL_len] at zy
  simp only [List.length_cons, List.length_nil] at zx zy
  have l1 := h.lx
  have l2 := h.ly
  refine ⟨?_, ?_, ?_, ?_, ?_, ?_⟩
  · rw [ex, ht, srcA_snoc, h.a]
  · rw [ey, ht, srcB_snoc, h.b]
  · rw [ht]
    intro u hu
    rcases List.mem_append.1 hu with hu | hu
    · exact h.no u hu
    · rw [List.mem_singleton.1 hu]; exact hn
  · omega
  · omega
  · omega
theorem lexR_two (l : List UInt8) (hl : l.length ≤ 8192) (k : List Tok) (p : Int) (h : lexR l = (k, 2, p)) : k = [] := by
  unfold lexR at h
  rw [if_neg (by omega)] at h
  split at h
  · cases h; rfl
  · split at h
    · cases h
    · cases h
theorem Half.lex {ss : List ByteArray} {q : Nat} {x y : ByteArray} (h : Half ss q x y) :
    (∃ p kb sb pb, ((2 : Int) != sb) = true ∧ lexR x.toList = ([], 2, p) ∧ lexR y.toList = (kb, sb, pb)) ∨ ∃ ka kb st p1 p2, lexR x.toList = (ka, st, p1) ∧ lexR y.toList = (kb, st, p2) ∧ ka.map er = kb.map er ∧ ka.length ≤ 9000 := by
  have l1 := h.lx
  have l2 := h.ly
  have l3 := h.few
  have z1 : x.toList.length ≤ 8192 := by rw [toL_len]; omega
  have z2 : y.toList.length ≤ 8192 := by rw [toL_len]; omega
  have hh := lex_spaced ((ss.take q).map ByteArray.toList) h.no (by rw [← h.a]; exact z1) (by rw [← h.b]; exact z2)
  rw [← h.a, ← h.b] at hh
  rcases hh with ⟨p, hp⟩ | ⟨p, r, hp, hr⟩ | ⟨ka, kb, ha, hb, he⟩
  · rcases hy : lexR y.toList with ⟨kb, sb, pb⟩
    by_cases h2 : sb = 2
    · subst h2
      have := lexR_two _ z2 kb pb hy
      subst this
      exact .inr ⟨[], [], 2, p, pb, hp, rfl, rfl, by simp⟩
    · exact .inl ⟨p, kb, sb, pb, by rw [bne_iff_ne]; exact fun e => h2 e.symm, hp, rfl⟩
  · exact .inr ⟨[], [], 3, p, r, hp, hr, rfl, by simp⟩
  · have := lex_len _ z1 ka 0 ha
    rw [toL_len] at this
    exact .inr ⟨ka, kb, 0, 0, 0, ha, hb, he, by omega⟩
/-- Two rows that differ in their places alone. -/
theorem er_at {ka kb : List Tok} (h : ka.map er = kb.map er) {q : Nat} {t : Tok} (ht : ka[q]? = some t) : ∃ u, kb[q]? = some u ∧ u.kind = t.kind ∧ u.text = t.text ∧ u.num = t.num := by
  have h1 : (ka.map er)[q]? = some (er t) := by rw [List.getElem?_map, ht]; rfl
  rw [h, List.getElem?_map] at h1
  cases hu : kb[q]? with
  | none => rw [hu] at h1; cases h1
  | some u =>
    rw [hu] at h1
    have : er u = er t := by simpa using h1
    simp only [er, Prod.mk.injEq] at this
    exact ⟨u, rfl, this.1, this.2.1, this.2.2⟩
end Go.Proofs.YteoongjimggbgaaDoor
