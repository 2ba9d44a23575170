/- few: what is answered true is small. -/
import Derived.Test.YtfkjjljhabjcjaaDoorCd1
namespace Go.Proofs.YtfkjjljhabjcjaaDoor
open Go.RowKit Go.Proofs.YtfkjjljhabjcjaaDoor.Cx
def sumN {α : Type} (f : α → Nat) (l : List α) : Nat := (l.map f).sum
theorem sumN_next {α : Type} (f : α → Nat) {l : List α} {i : Nat} (h : i < l.length) : sumN f (l.take (i + 1)) = sumN f (l.take i) + f l[i] := by
  unfold sumN
  rw [List.take_add_one, List.getElem?_eq_getElem h, List.map_append, List.sum_append]
  simp only [Option.toList_some, List.map_cons, List.map_nil, List.sum_cons, List.sum_nil, Nat.add_zero]
theorem sumN_le {α : Type} (f : α → Nat) (B : Nat) : ∀ l : List α, (∀ x ∈ l, f x ≤ B) → sumN f l ≤ l.length * B
  | [], _ => by simp [sumN]
  | x :: l, h => by
    have h1 := h x (by simp)
    have h2 := sumN_le f B l fun y hy => h y (by simp [hy])
    simp only [sumN, List.map_cons, List.sum_cons, List.length_cons, Nat.succ_mul] at *
    omega
def insN (x : Ins) : Nat := x.list.length
def fncN (x : Fnc) : Nat := x.name.size + x.refs.length + x.code.length + sumN insN x.code
def tot (x : Prg) : Nat := x.texts.length + x.globals.length + x.structs.length + x.funcs.length + sumN ByteArray.size x.texts + sumN List.length x.structs + sumN fncN x.funcs
theorem sz_le : ∀ (k n : Nat), n < 128 ^ (k + 1) → (sz n).length ≤ k + 1
  | 0, n, h => by rw [sz_lt (by simpa using h)]; simp
  | k + 1, n, h => by
    by_cases hn : n < 128
    · rw [sz_lt hn]; simp
    · rw [sz_ge hn, List.length_cons]
      have := sz_le k (n / 128) (by rw [pow7] at h; omega)
      omega
theorem sz_le10 {n : Nat} (h : n < 18446744073709551616) : (sz n).length ≤ 10 := sz_le 9 n (by
  have : (128 : Nat) ^ (9 + 1) = 1180591620717411303424 := by decide
  omega)
theorem flat_le {α : Type} (enc : α → List UInt8) (f : α → Nat) (c d : Nat) : ∀ l : List α, (∀ x ∈ l, (enc x).length ≤ c + d * f x) → (l.flatMap enc).length ≤ c * l.length + d * sumN f l
  | [], _ => by simp
  | x :: l, h => by
    have h1 := h x (by simp)
    have h2 := flat_le enc f c d l fun y hy => h y (by simp [hy])
    simp only [List.flatMap_cons, List.length_append, sumN, List.map_cons, List.sum_cons, List.length_cons, Nat.mul_add, Nat.mul_one] at *
    omega
theorem encN_le {z : Int} (h : okN z) : (encN z).length ≤ 10 := sz_le10 (zig_lt h)
theorem encT_le {s : ByteArray} (h : okT s) : (encT s).length ≤ 10 + 1 * s.size := by rw [encT_len]; have := sz_le10 h; omega
theorem encBs_le {l : List Bool} (h : okL okB l) : (encL encB l).length ≤ 10 + 1 * l.length := by
  have h1 := sz_le10 h.1
  have h2 := flat_le encB (fun _ => 0) 1 0 l fun x _ => by simp [encB]
  rw [encL, List.length_append]; omega
theorem encI_le {x : Ins} (h : okI x) : (encI x).length ≤ 60 + 10 * insN x := by
  obtain ⟨h1, h2, h3, h4, h5, h6, h7⟩ := h
  have e : encI x = encN x.op ++ (encN x.a ++ (encN x.b ++ (encN x.c ++ (encN x.d ++ encL encN x.list)))) := rfl
  have a1 := encN_le h1
  have a2 := encN_le h2
  have a3 := encN_le h3
  have a4 := encN_le h4
  have a5 := encN_le h5
  have a6 := sz_le10 h6
  have a7 := flat_le encN (fun _ => 0) 10 0 x.list fun y hy => by have := encN_le (h7 y hy); omega
  rw [e]
  simp only [List.length_append, encL, Ins.tup] at *
  unfold insN
  omega
theorem encF_le {x : Fnc} (h : okF x) : (encF x).length ≤ 51 + 60 * fncN x := by
  obtain ⟨h1, h2, h3, h4, _, h6, h7⟩ := h
  have e : encF x = encT x.name ++ (encL encB x.refs ++ (encN x.params ++ (encN x.captures ++ (encB x.result ++ encL encI x.code)))) := rfl
  have a1 := encT_le h1
  have a2 := encBs_le h2
  have a3 := encN_le h3
  have a4 := encN_le h4
  have a5 : (encB x.result).length = 1 := rfl
  have a6 := sz_le10 h6
  have a7 := flat_le encI insN 60 10 x.code fun y hy => encI_le (h7 y hy)
  rw [e]
  have ee : (encL encI x.code).length = (sz x.code.length).length + (x.code.flatMap encI).length := by rw [encL, List.length_append]
  simp only [List.length_append, Fnc.tup] at *
  rw [ee]
  unfold fncN
  omega
theorem encP_le {x : Prg} (h : okP x) : (encP x).length ≤ 50 + 111 * tot x := by
  obtain ⟨⟨h1, h1'⟩, h2, ⟨h3, h3'⟩, ⟨h4, h4'⟩, h5⟩ := h
  have e : encP x = encL encT x.texts ++ (encL encB x.globals ++ (encL (encL encB) x.structs ++ (encL encF x.funcs ++ encN x.main))) := rfl
  have a1 := sz_le10 h1
  have a1' := flat_le encT ByteArray.size 10 1 x.texts fun y hy => encT_le (h1' y hy)
  have a2 := encBs_le h2
  have a3 := sz_le10 h3
  have a3' := flat_le (encL encB) List.length 10 1 x.structs fun y hy => encBs_le (h3' y hy)
  have a4 := sz_le10 h4
  have a4' := flat_le encF fncN 51 60 x.funcs fun y hy => encF_le (h4' y hy)
  have a5 := encN_le h5
  have e1 : (encL encT x.texts).length = (sz x.texts.length).length + (x.texts.flatMap encT).length := by rw [encL, List.length_append]
  have e3 : (encL (encL encB) x.structs).length = (sz x.structs.length).length + (x.structs.flatMap (encL encB)).length := by rw [encL, List.length_append]
  have e4 : (encL encF x.funcs).length = (sz x.funcs.length).length + (x.funcs.flatMap encF).length := by rw [encL, List.length_append]
  rw [e]
  simp only [List.length_append, Prg.tup] at *
  rw [e1, e3, e4]
  unfold tot
  omega
end Go.Proofs.YtfkjjljhabjcjaaDoor
