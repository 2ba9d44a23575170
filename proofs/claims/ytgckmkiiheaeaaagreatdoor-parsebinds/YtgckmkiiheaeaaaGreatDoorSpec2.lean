import Derived.Test.YtgckmkiiheaeaaaGreatDoorSpec
import Derived.Lib.Strings
namespace Go.Proofs.YtgckmkiiheaeaaaGreatDoor.Lx
theorem toL_get (s : ByteArray) (j : Nat) (h : j < s.size) : s.toList[j]? = some s[j] := by
 rw [ByteArray.toList_eq]
 exact List.getElem?_eq_getElem (l := s.data.toList) (by simpa using h)
theorem toL_len (s : ByteArray) : s.toList.length = s.size := by
 rw [ByteArray.toList_eq, Array.length_toList]; rfl
theorem drop_cons_of (l : List UInt8) (j : Nat) (c : UInt8) (h : l[j]? = some c) : l.drop j = c :: l.drop (j + 1) := by
 obtain ⟨hl, he⟩ := List.getElem?_eq_some_iff.1 h
 rw [List.drop_eq_getElem_cons hl, he]
theorem re_step (p : UInt8 → Bool) (l : List UInt8) (j : Nat) (c : UInt8) (h : l[j]? = some c) (hp : p c = true) : runEnd p l (j + 1) = runEnd p l j := by
 unfold runEnd
 rw [drop_cons_of l j c h, List.takeWhile_cons_of_pos hp]
 simp only [List.length_cons]
 omega
theorem re_stop (p : UInt8 → Bool) (l : List UInt8) (j : Nat) (c : UInt8) (h : l[j]? = some c) (hp : p c = false) : runEnd p l j = j := by
 unfold runEnd
 rw [drop_cons_of l j c h, List.takeWhile_cons_of_neg (by simp [hp])]
 simp
theorem re_end (p : UInt8 → Bool) (l : List UInt8) (j : Nat) (h : l.length ≤ j) : runEnd p l j = j := by
 unfold runEnd
 rw [List.drop_eq_nil_of_le h]
 simp
theorem re_le (p : UInt8 → Bool) (l : List UInt8) (j : Nat) (h : j ≤ l.length) : runEnd p l j ≤ l.length := by
 unfold runEnd
 have := (List.takeWhile_sublist p (l := l.drop j)).length_le
 rw [List.length_drop] at this
 omega
theorem re_ge (p : UInt8 → Bool) (l : List UInt8) (j : Nat) : j ≤ runEnd p l j := by unfold runEnd; omega
theorem toL_step (p : UInt8 → Bool) (s : ByteArray) (j : Nat) (h : j < s.size) (hp : p s[j] = true) : runEnd p s.toList (j + 1) = runEnd p s.toList j := re_step p _ j _ (toL_get s j h) hp
theorem toL_stop (p : UInt8 → Bool) (s : ByteArray) (j : Nat) (h : j < s.size) (hp : p s[j] = false) : runEnd p s.toList j = j := re_stop p _ j _ (toL_get s j h) hp
theorem toL_end (p : UInt8 → Bool) (s : ByteArray) (j : Nat) (h : s.size ≤ j) : runEnd p s.toList j = j := re_end p _ j (by rw [toL_len]; exact h)
def cmt (l : List UInt8) (k : Nat) : Bool := (l.drop k).take 2 == [47, 47]
def escF (l : List UInt8) (k : Nat) : Option UInt8 :=
 if l[k]? = some 92 then
  if l[k + 1]? = some 110 then some 10 else if l[k + 1]? = some 34 then some 34 else if l[k + 1]? = some 92 then some 92 else none
 else none
def mTabL : List Int := [0, 0, 0, 0, 0, 0, 0, 0, 0, 0, 0, 0, 0, 0, 0, 0, 0, 0, 0, 0, 0, 0, 0, 0, 0, 0, 0, 0, 0, 0, 0, 0, 0, 2, 0, 0, 0, 1, 2, 0, 1, 1, 2, 2, 1, 2, 1, 1, 0, 0, 0, 0, 0, 0, 0, 0, 0, 0, 2, 1, 2, 2, 2, 0, 0, 0, 0, 0, 0, 0, 0, 0, 0, 0, 0, 0, 0, 0, 0, 0, 0, 0, 0, 0, 0, 0, 0, 0, 0, 0, 0, 1, 0, 1, 0, 0, 0, 0, 0, 0, 0, 0, 0, 0, 0, 0, 0, 0, 0, 0, 0, 0, 0, 0, 0, 0, 0, 0, 0, 0, 0, 0, 0, 1, 2, 1, 0, 0]
def mTab (n : Nat) : Int := mTabL.getD n 0
def mLen (l : List UInt8) : Nat :=
 match l with
 | [] => 0
 | c :: _ => if mTab c.toNat = 2 then (if isPr (l.take 2) then 2 else if c = 124 then 0 else 1) else if mTab c.toNat = 1 then 1 else 0
end Go.Proofs.YtgckmkiiheaeaaaGreatDoor.Lx
