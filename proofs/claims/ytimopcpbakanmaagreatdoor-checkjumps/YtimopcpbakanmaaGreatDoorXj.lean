import Derived.Test.YtimopcpbakanmaaGreatDoorRj0
import Derived.Test.YtimopcpbakanmaaGreatDoorRj1
import Derived.Test.YtimopcpbakanmaaGreatDoorRj2
import Derived.Test.YtimopcpbakanmaaGreatDoorWj0
set_option linter.all false
namespace Go.Proofs.YtimopcpbakanmaaGreatDoor
open Go Ex
theorem law_all : ∀ a b : Int, ∃ tbl, (∀ p ∈ tbl, SrcT p.1 p.2) ∧ LawT tbl a b
  | .ofNat 0, .ofNat 0 => ⟨_, at1 e0, w0⟩
  | .ofNat 0, .ofNat 1 => ⟨_, at1 e1, w1⟩
  | .ofNat 0, .ofNat 2 => ⟨_, at1 e2, w2⟩
  | .ofNat 0, .ofNat 3 => ⟨_, at1 e3, w3⟩
  | .ofNat 0, .ofNat 4 => ⟨_, at1 e4, w4⟩
  | .ofNat 0, .ofNat 5 => ⟨_, at1 e5, w5⟩
  | .ofNat 0, .negSucc m => ⟨_, at0, w6 m⟩
  | .ofNat 0, .ofNat (m + 6) => ⟨_, at0, w7 m⟩
  | .ofNat 1, .ofNat 0 => ⟨_, at1 e6, w8⟩
  | .ofNat 1, .ofNat 1 => ⟨_, at1 e7, w9⟩
  | .ofNat 1, .ofNat 2 => ⟨_, at1 e8, w10⟩
  | .ofNat 1, .ofNat 3 => ⟨_, at1 e9, w11⟩
  | .ofNat 1, .ofNat 4 => ⟨_, at1 e10, w12⟩
  | .ofNat 1, .ofNat 5 => ⟨_, at1 e11, w13⟩
  | .ofNat 1, .negSucc m => ⟨_, at0, w14 m⟩
  | .ofNat 1, .ofNat (m + 6) => ⟨_, at0, w15 m⟩
  | .ofNat 2, .ofNat 0 => ⟨_, at1 e12, w16⟩
  | .ofNat 2, .ofNat 1 => ⟨_, at1 e13, w17⟩
  | .ofNat 2, .ofNat 2 => ⟨_, at1 e14, w18⟩
  | .ofNat 2, .ofNat 3 => ⟨_, at1 e15, w19⟩
  | .ofNat 2, .ofNat 4 => ⟨_, at1 e16, w20⟩
  | .ofNat 2, .ofNat 5 => ⟨_, at1 e17, w21⟩
  | .ofNat 2, .negSucc m => ⟨_, at0, w22 m⟩
  | .ofNat 2, .ofNat (m + 6) => ⟨_, at0, w23 m⟩
  | .ofNat 3, .ofNat 0 => ⟨_, at1 e18, w24⟩
  | .ofNat 3, .ofNat 1 => ⟨_, at1 e19, w25⟩
  | .ofNat 3, .ofNat 2 => ⟨_, at1 e20, w26⟩
  | .ofNat 3, .ofNat 3 => ⟨_, at1 e21, w27⟩
  | .ofNat 3, .ofNat 4 => ⟨_, at1 e22, w28⟩
  | .ofNat 3, .ofNat 5 => ⟨_, at1 e23, w29⟩
  | .ofNat 3, .negSucc m => ⟨_, at0, w30 m⟩
  | .ofNat 3, .ofNat (m + 6) => ⟨_, at0, w31 m⟩
  | .ofNat 4, .ofNat 0 => ⟨_, at1 e24, w32⟩
  | .ofNat 4, .ofNat 1 => ⟨_, at1 e25, w33⟩
  | .ofNat 4, .ofNat 2 => ⟨_, at1 e26, w34⟩
  | .ofNat 4, .ofNat 3 => ⟨_, at1 e27, w35⟩
  | .ofNat 4, .ofNat 4 => ⟨_, at1 e28, w36⟩
  | .ofNat 4, .ofNat 5 => ⟨_, at1 e29, w37⟩
  | .ofNat 4, .negSucc m => ⟨_, at0, w38 m⟩
  | .ofNat 4, .ofNat (m + 6) => ⟨_, at0, w39 m⟩
  | .ofNat 5, .ofNat 0 => ⟨_, at1 e30, w40⟩
  | .ofNat 5, .ofNat 1 => ⟨_, at1 e31, w41⟩
  | .ofNat 5, .ofNat 2 => ⟨_, at1 e32, w42⟩
  | .ofNat 5, .ofNat 3 => ⟨_, at1 e33, w43⟩
  | .ofNat 5, .ofNat 4 => ⟨_, at1 e34, w44⟩
  | .ofNat 5, .ofNat 5 => ⟨_, at1 e35, w45⟩
  | .ofNat 5, .negSucc m => ⟨_, at0, w46 m⟩
  | .ofNat 5, .ofNat (m + 6) => ⟨_, at0, w47 m⟩
  | .ofNat 6, .ofNat 0 => ⟨_, at1 e36, w48⟩
  | .ofNat 6, .ofNat 1 => ⟨_, at1 e37, w49⟩
  | .ofNat 6, .ofNat 2 => ⟨_, at1 e38, w50⟩
  | .ofNat 6, .ofNat 3 => ⟨_, at1 e39, w51⟩
  | .ofNat 6, .ofNat 4 => ⟨_, at1 e40, w52⟩
  | .ofNat 6, .ofNat 5 => ⟨_, at1 e41, w53⟩
  | .ofNat 6, .negSucc m => ⟨_, at0, w54 m⟩
  | .ofNat 6, .ofNat (m + 6) => ⟨_, at0, w55 m⟩
  | .ofNat 7, .ofNat 0 => ⟨_, at1 e42, w56⟩
  | .ofNat 7, .ofNat 1 => ⟨_, at1 e43, w57⟩
  | .ofNat 7, .ofNat 2 => ⟨_, at1 e44, w58⟩
  | .ofNat 7, .ofNat 3 => ⟨_, at1 e45, w59⟩
  | .ofNat 7, .ofNat 4 => ⟨_, at1 e46, w60⟩
  | .ofNat 7, .ofNat 5 => ⟨_, at1 e47, w61⟩
  | .ofNat 7, .negSucc m => ⟨_, at0, w62 m⟩
  | .ofNat 7, .ofNat (m + 6) => ⟨_, at0, w63 m⟩
  | .negSucc m, b => ⟨_, at0, w64 m b⟩
  | .ofNat (m + 8), b => ⟨_, at0, w65 m b⟩
theorem any_in (a b : Int) (W : World) (h : StartOk W) : Calls Tryz.prog 6 #[.int .i64 a, .int .i64 b] W fun e w' => e = .returned (.bool true) ∧ RowKit.Below W.heap.size W w' := by
  obtain ⟨tbl, ht, hl⟩ := law_all a b
  exact law_any eA ht hl W h
end Go.Proofs.YtimopcpbakanmaaGreatDoor
