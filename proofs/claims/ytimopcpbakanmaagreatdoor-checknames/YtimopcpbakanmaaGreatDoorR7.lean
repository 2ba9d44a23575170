import Derived.Test.YtimopcpbakanmaaGreatDoorR0
import Derived.Test.YtimopcpbakanmaaGreatDoorR1
import Derived.Test.YtimopcpbakanmaaGreatDoorR2
import Derived.Test.YtimopcpbakanmaaGreatDoorR3
import Derived.Test.YtimopcpbakanmaaGreatDoorR4
import Derived.Test.YtimopcpbakanmaaGreatDoorR5
import Derived.Test.YtimopcpbakanmaaGreatDoorR6
set_option linter.all false
namespace Go.Proofs.YtimopcpbakanmaaGreatDoor
open Go Ex
theorem tbl_ok : ∀ p ∈ tbl, SrcT p.1 p.2 := by
  intro p hp
  unfold tbl at hp
  simp only [List.mem_cons, List.mem_nil_iff, or_false] at hp
  rcases hp with rfl | rfl | rfl | rfl | rfl | rfl | rfl | rfl | rfl | rfl | rfl | rfl | rfl | rfl | rfl | rfl | rfl | rfl | rfl | rfl | rfl | rfl | rfl | rfl | rfl | rfl | rfl | rfl | rfl | rfl
  · exact e0
  · exact e1
  · exact e2
  · exact e3
  · exact e4
  · exact e5
  · exact e6
  · exact e7
  · exact e8
  · exact e9
  · exact e10
  · exact e11
  · exact e12
  · exact e13
  · exact e14
  · exact e15
  · exact e16
  · exact e17
  · exact e18
  · exact e19
  · exact e20
  · exact e21
  · exact e22
  · exact e23
  · exact e24
  · exact e25
  · exact e26
  · exact e27
  · exact e28
  · exact e29
theorem law_all : ∀ a b : Int, LawT a b
  | .ofNat 0, .ofNat 0 => w0
  | .ofNat 0, .ofNat 1 => w1
  | .ofNat 0, .ofNat 2 => w2
  | .ofNat 0, .negSucc m => w9 m
  | .ofNat 0, .ofNat (m + 3) => w10 m
  | .ofNat 1, .ofNat 0 => w3
  | .ofNat 1, .ofNat 1 => w4
  | .ofNat 1, .ofNat 2 => w5
  | .ofNat 1, .negSucc m => w11 m
  | .ofNat 1, .ofNat (m + 3) => w12 m
  | .ofNat 2, .ofNat 0 => w6
  | .ofNat 2, .ofNat 1 => w7
  | .ofNat 2, .ofNat 2 => w8
  | .ofNat 2, .negSucc m => w13 m
  | .ofNat 2, .ofNat (m + 3) => w14 m
  | .negSucc m, b => w15 m b
  | .ofNat (m + 3), b => w16 m b
theorem names_any (a b : Int) (W : World) (h : StartOk W) : Calls Tryz.prog 3 #[.int .i64 a, .int .i64 b] W fun e w' => e = .returned (.bool true) ∧ RowKit.Below W.heap.size W w' :=
  law_any eA tbl_ok (law_all a b) W h
#print axioms names_any
end Go.Proofs.YtimopcpbakanmaaGreatDoor
