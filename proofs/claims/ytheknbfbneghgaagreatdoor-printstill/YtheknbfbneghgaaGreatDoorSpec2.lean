import Derived.WalkKit
import Derived.WalkSpells
import Derived.WalkLawsBesides
import Derived.Deep.QuietTactic
import Derived.BigQuiet
import Derived.Lib.Strings
set_option maxRecDepth 100000
namespace Go.Proofs.YtheknbfbneghgaaGreatDoor
theorem om {p : Prop} (h : p := by omega) : p := h
theorem wg {p : Prop} (h : p := by go_wf) : p := h
theorem oz {p : Prop} (h : p := by first | omega | (simp <;> omega)) : p := h
theorem sq {p : Prop} (h : p := by simp <;> omega) : p := h
theorem sp {p : Prop} (h : p := by simp; omega) : p := h
theorem dc {p : Prop} (h : p := by decide) : p := h
theorem lr {n : Nat} : n ≤ n := Nat.le_refl n
theorem ef {p : Prop} (h : ¬p) : p = False := eq_false h
theorem et {p : Prop} (h : p) : p = True := eq_true h
theorem zA {p : Prop} (h : p := by (repeat (first | with_reducible assumption | ((with_reducible apply BL.put7); (with_reducible assumption); rfl) | ((with_reducible apply BL.put01); (with_reducible assumption); rfl) | with_reducible refine BL.drew ?_ | (with_reducible refine BL.new ?_; (first | omega | (simp <;> omega))) | with_reducible refine BL.alloc ?_ _ | (with_reducible refine BL.set ?_ _ ?_; rotate_left; (first | omega | (simp <;> omega))) | ((with_reducible apply BL.put2); (with_reducible assumption); (first | rfl | simp))))) : p := h
theorem zB {p : Prop} (h : p := by (repeat (first | with_reducible exact Ag.refl _ _ _ | with_reducible refine Ag.drew ?_ | with_reducible refine Ag.alloc ?_ _ (by first | (simp <;> omega) | omega) | with_reducible refine Ag.set ?_ _ (by first | (left; simp <;> omega) | (left; omega) | (right; simp <;> omega) | (right; omega) | (dsimp only; omega))))) : p := h
theorem zC {p : Prop} (h : p := by (repeat (first | with_reducible assumption | with_reducible exact zo _ _ | with_reducible refine zz ?_ | with_reducible refine zr ?_ _ | (with_reducible refine yF ?_ _ (by first | with_reducible exact Or.inr rfl | (left; simp <;> omega) | (left; omega)))))) : p := h
theorem zD {p : Prop} (h : p := by first | with_reducible exact Or.inr rfl | (left; simp <;> omega) | (left; omega)) : p := h
theorem zE {p : Prop} (h : p := by first | (left; simp <;> omega) | (left; omega) | (right; simp <;> omega) | (right; omega) | (dsimp only; omega)) : p := h
theorem zF {p : Prop} (h : p := by (repeat (first | with_reducible assumption | with_reducible refine PS.drew ?_ | with_reducible refine PS.alloc ?_ _ | with_reducible refine PS.over ?_ ok _ (by first | (simp <;> omega) | omega) | with_reducible exact PS.set2 (by with_reducible assumption) ok))) : p := h
theorem zG {p : Prop} (h : p := by kernel_rfl) : p := h
theorem zH {p : Prop} (h : p := by simp [Act.eval]) : p := h
theorem zI {p : Prop} (h : p := by first | (simp <;> omega) | omega) : p := h
theorem zJ {p : Prop} (h : p := by cases gk with | zero => exact absurd (zk HRr).symm (zk HO) | succ m => exact ⟨m, rfl⟩) : p := h
theorem zK {p : Prop} (h : p := by simp) : p := h
theorem zL {p : Prop} (h : p := by (repeat (first | with_reducible exact Ag.refl _ _ _ | with_reducible refine Ag.drew ?_ | with_reducible refine Ag.alloc ?_ _ (by first | (simp <;> omega) | omega) | with_reducible refine Ag.set ?_ _ (by first | (left; simp <;> omega) | (left; omega) | (right; simp <;> omega) | (right; omega))))) : p := h
theorem zM {p : Prop} (h : p := by first | trivial | exact hkk) : p := h
theorem zN {p : Prop} (h : p := by simp [results, Tryz.results101, go_sem, *]) : p := h
theorem zO {p : Prop} (h : p := by have h2 := zk HL; simp only [List.length_append, List.length_cons, List.length_nil] at h2 ⊢; omega) : p := h
theorem zP {p : Prop} (h : p := by simp [results, Tryz.results156, go_sem, *]) : p := h
theorem zQ {p : Prop} (h : p := by simp [results, Tryz.results134, go_sem, *]) : p := h
theorem zR {p : Prop} (h : p := by first | trivial | exact q3 _ | (show 1 ≤ _; first | exact hg | (have := strength_ge (zp ts k).text; omega)) | exact Or.inl rfl | exact Or.inr (Or.inl rfl) | exact Or.inr (Or.inr rfl)) : p := h
theorem zS {p : Prop} (h : p := by first | trivial | exact Or.inl rfl | exact Or.inr (Or.inl rfl) | exact Or.inr (Or.inr rfl)) : p := h
theorem zT {p : Prop} (h : p := by apply BL.put7 (by go_wf); rfl) : p := h
theorem zU {p : Prop} (h : p := by simp [results, Tryz.results146, go_sem, *]) : p := h
theorem zV {p : Prop} (h : p := by first | (left; omega) | (left; simp <;> omega)) : p := h
theorem zW {p : Prop} (h : p := by exact (zk H).heap rfl) : p := h
theorem zX {p : Prop} (h : p := by first | with_reducible exact gw1 (by go_wf) | with_reducible exact gw1 (yD (by go_wf))) : p := h
theorem zY {p : Prop} (h : p := by first | with_reducible exact bw1 (by go_wf) | with_reducible exact bw1 (yS (by go_wf))) : p := h
theorem zZ {p : Prop} (h : p := by simp [results, Tryz.results133, go_sem, *]) : p := h
theorem za {p : Prop} (h : p := by with_reducible assumption) : p := h
theorem zb {p : Prop} (h : p := by simp [results, Tryz.results76, go_sem, *]) : p := h
theorem zd {p : Prop} (h : p := by have := zk H2; rw [List.append_assoc] at this; rwa [zk HTT]) : p := h
theorem zf {p : Prop} (h : p := by assumption) : p := h
theorem zg {p : Prop} (h : p := by first | (left; simp <;> omega) | (left; omega) | (right; simp <;> omega) | (right; omega)) : p := h
theorem zh {p : Prop} (h : p := by first | (simp only [rank]; omega) | (have := q4 (by assumption); simp only [rank]; omega)) : p := h
theorem zi {p : Prop} (h : p := by rw [List.length_append]; omega) : p := h
theorem zj {p : Prop} (h : p := by simp [results, Tryz.results144, go_sem, *]) : p := h
end Go.Proofs.YtheknbfbneghgaaGreatDoor
namespace Go.Proofs.YtheknbfbneghgaaGreatDoor.Lx
def letZ (n : Int) : Bool := (decide (97 ≤ n) && decide (n ≤ 122)) || (decide (65 ≤ n) && decide (n ≤ 90)) || decide (n = 95)
def digZ (n : Int) : Bool := decide (48 ≤ n) && decide (n ≤ 57)
def plnZ (n : Int) : Bool := decide (32 ≤ n) && decide (n ≤ 126) && !decide (n = 34) && !decide (n = 92)
def isLet (c : UInt8) : Bool := letZ c.toNat
def isDig (c : UInt8) : Bool := digZ c.toNat
def isPln (c : UInt8) : Bool := plnZ c.toNat
def isNam (c : UInt8) : Bool := isLet c || isDig c
def notNl (c : UInt8) : Bool := !decide ((c.toNat : Int) = 10)
structure Tok where
 kind : Int
 text : List UInt8
 num : Int
 pos : Int
def yL (p : UInt8 → Bool) (l : List UInt8) (k : Nat) : Nat := k + ((l.drop k).takeWhile p).length
def sub (l : List UInt8) (a b : Nat) : List UInt8 := (l.drop a).take (b - a)
def wordList : List (List UInt8) := [[97, 112, 112, 101, 110, 100], [98, 111, 111, 108], [98, 114, 101, 97, 107], [99, 97, 112], [99, 97, 115, 101], [99, 104, 97, 110], [99, 108, 111, 115, 101], [99, 111, 110, 116, 105, 110, 117, 101], [100, 101, 102, 97, 117, 108, 116], [100, 101, 102, 101, 114], [101, 108, 115, 101], [102, 97, 108, 108, 116, 104, 114, 111, 117, 103, 104], [102, 97, 108, 115, 101], [102, 111, 114], [102, 117, 110, 99], [103, 111], [105, 102], [105, 110, 116], [108, 101, 110], [109, 97, 107, 101], [110, 101, 119], [110, 105, 108], [112, 97, 110, 105, 99], [112, 114, 105, 110, 116], [114, 101, 99, 111, 118, 101, 114], [114, 101, 116, 117, 114, 110], [115, 101, 108, 101, 99, 116], [115, 116, 114, 105, 110, 103], [115, 116, 114, 117, 99, 116], [115, 119, 105, 116, 99, 104], [116, 114, 117, 101], [116, 121, 112, 101], [118, 97, 114]]
def endWords : List (List UInt8) := [[98, 114, 101, 97, 107], [99, 111, 110, 116, 105, 110, 117, 101], [102, 97, 108, 108, 116, 104, 114, 111, 117, 103, 104], [114, 101, 116, 117, 114, 110], [116, 114, 117, 101], [102, 97, 108, 115, 101], [110, 105, 108], [105, 110, 116], [98, 111, 111, 108], [115, 116, 114, 105, 110, 103]]
def endMarks : List (List UInt8) := [[43, 43], [45, 45], [41], [93], [125]]
def pairList : List (List UInt8) := [[58, 61], [61, 61], [33, 61], [60, 61], [62, 61], [38, 38], [124, 124], [60, 45], [43, 43], [45, 45], [43, 61], [45, 61], [42, 61]]
def isWd (t : List UInt8) : Bool := wordList.contains t
def wdEnds (t : List UInt8) : Bool := endWords.contains t
def mkEnds (t : List UInt8) : Bool := endMarks.contains t
def isPr (t : List UInt8) : Bool := pairList.contains t
def tokEnds (k : Int) (t : List UInt8) : Bool := if k = 1 ∨ k = 2 ∨ k = 3 then true else if k = 4 then wdEnds t else if k = 5 then mkEnds t else false
theorem toL_get (s : ByteArray) (j : Nat) (h : j < s.size) : s.toList[j]? = some s[j] := by
 rw [ByteArray.toList_eq]
 exact List.getElem?_eq_getElem (l := s.data.toList) (by simpa using h)
theorem yx (s : ByteArray) : s.toList.length = s.size := by
 rw [ByteArray.toList_eq, Array.length_toList]; rfl
theorem drop_cons_of (l : List UInt8) (j : Nat) (c : UInt8) (h : l[j]? = some c) : l.drop j = c :: l.drop (j + 1) := by
 obtain ⟨hl, he⟩ := List.getElem?_eq_some_iff.1 h
 rw [List.drop_eq_getElem_cons hl, he]
theorem re_step (p : UInt8 → Bool) (l : List UInt8) (j : Nat) (c : UInt8) (h : l[j]? = some c) (hp : p c = true) : yL p l (j + 1) = yL p l j := by
 unfold yL
 rw [drop_cons_of l j c h, List.takeWhile_cons_of_pos hp]
 simp only [List.length_cons]
 omega
theorem re_stop (p : UInt8 → Bool) (l : List UInt8) (j : Nat) (c : UInt8) (h : l[j]? = some c) (hp : p c = false) : yL p l j = j := by
 unfold yL
 rw [drop_cons_of l j c h, List.takeWhile_cons_of_neg (by simp [hp])]
 simp
theorem re_end (p : UInt8 → Bool) (l : List UInt8) (j : Nat) (h : l.length ≤ j) : yL p l j = j := by
 unfold yL
 rw [List.drop_eq_nil_of_le h]
 simp
theorem re_le (p : UInt8 → Bool) (l : List UInt8) (j : Nat) (h : j ≤ l.length) : yL p l j ≤ l.length := by
 unfold yL
 have := (List.takeWhile_sublist p (l := l.drop j)).length_le
 rw [List.length_drop] at this
 omega
theorem re_ge (p : UInt8 → Bool) (l : List UInt8) (j : Nat) : j ≤ yL p l j := by unfold yL; omega
theorem toL_step (p : UInt8 → Bool) (s : ByteArray) (j : Nat) (h : j < s.size) (hp : p s[j] = true) : yL p s.toList (j + 1) = yL p s.toList j := re_step p _ j _ (toL_get s j h) hp
theorem toL_stop (p : UInt8 → Bool) (s : ByteArray) (j : Nat) (h : j < s.size) (hp : p s[j] = false) : yL p s.toList j = j := re_stop p _ j _ (toL_get s j h) hp
theorem toL_end (p : UInt8 → Bool) (s : ByteArray) (j : Nat) (h : s.size ≤ j) : yL p s.toList j = j := re_end p _ j (by rw [yx]; exact h)
def cmt (l : List UInt8) (k : Nat) : Bool := (l.drop k).take 2 == [47, 47]
def escF (l : List UInt8) (k : Nat) : Option UInt8 :=
 if l[k]? = some 92 then
  if l[k + 1]? = some 110 then some 10 else if l[k + 1]? = some 34 then some 34 else if l[k + 1]? = some 92 then some 92 else none
 else none
def mTabL : List Int := [0, 0, 0, 0, 0, 0, 0, 0, 0, 0, 0, 0, 0, 0, 0, 0, 0, 0, 0, 0, 0, 0, 0, 0, 0, 0, 0, 0, 0, 0, 0, 0, 0, 2, 0, 0, 0, 1, 2, 0, 1, 1, 2, 2, 1, 2, 1, 1, 0, 0, 0, 0, 0, 0, 0, 0, 0, 0, 2, 1, 2, 2, 2, 0, 0, 0, 0, 0, 0, 0, 0, 0, 0, 0, 0, 0, 0, 0, 0, 0, 0, 0, 0, 0, 0, 0, 0, 0, 0, 0, 0, 1, 0, 1, 0, 0, 0, 0, 0, 0, 0, 0, 0, 0, 0, 0, 0, 0, 0, 0, 0, 0, 0, 0, 0, 0, 0, 0, 0, 0, 0, 0, 0, 1, 2, 1, 0, 0]
def mTab (n : Nat) : Int := mTabL.getD n 0
def mLen (l : List UInt8) : Nat :=
 match l with
 | [] => 0
 | c :: _ => if mTab c.toNat = 2 then (if isPr (l.take 2) then 2 else if c = 124 then 0 else 1) else if mTab c.toNat = 1 then 1 else 0
end Go.Proofs.YtheknbfbneghgaaGreatDoor.Lx
