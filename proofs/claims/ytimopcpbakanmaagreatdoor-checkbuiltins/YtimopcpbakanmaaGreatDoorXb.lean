import Derived.Test.YtimopcpbakanmaaGreatDoorRb0
import Derived.Test.YtimopcpbakanmaaGreatDoorRb1
import Derived.Test.YtimopcpbakanmaaGreatDoorRb2
import Derived.Test.YtimopcpbakanmaaGreatDoorRb3
import Derived.Test.YtimopcpbakanmaaGreatDoorRb4
import Derived.Test.YtimopcpbakanmaaGreatDoorRb5
import Derived.Test.YtimopcpbakanmaaGreatDoorRb6
import Derived.Test.YtimopcpbakanmaaGreatDoorRb7
import Derived.Test.YtimopcpbakanmaaGreatDoorRb8
import Derived.Test.YtimopcpbakanmaaGreatDoorRb9
import Derived.Test.YtimopcpbakanmaaGreatDoorRb10
import Derived.Test.YtimopcpbakanmaaGreatDoorRb11
import Derived.Test.YtimopcpbakanmaaGreatDoorRb12
import Derived.Test.YtimopcpbakanmaaGreatDoorWb0
import Derived.Test.YtimopcpbakanmaaGreatDoorWb1
import Derived.Test.YtimopcpbakanmaaGreatDoorWb2
set_option linter.all false
namespace Go.Proofs.YtimopcpbakanmaaGreatDoor
open Go Ex
theorem law_all : ∀ a b : Int, ∃ tbl, (∀ p ∈ tbl, SrcT p.1 p.2) ∧ LawT tbl a b
  | .ofNat 0, .ofNat 0 => ⟨_, at2 e0 e1, w0⟩
  | .ofNat 0, .ofNat 1 => ⟨_, at2 e2 e3, w1⟩
  | .ofNat 0, .ofNat 2 => ⟨_, at2 e4 e5, w2⟩
  | .ofNat 0, .ofNat 3 => ⟨_, at2 e6 e7, w3⟩
  | .ofNat 0, .ofNat 4 => ⟨_, at2 e8 e9, w4⟩
  | .ofNat 0, .ofNat 5 => ⟨_, at2 e10 e11, w5⟩
  | .ofNat 0, .ofNat 6 => ⟨_, at2 e12 e13, w6⟩
  | .ofNat 0, .ofNat 7 => ⟨_, at2 e14 e15, w7⟩
  | .ofNat 0, .negSucc m => ⟨_, at0, w8 m⟩
  | .ofNat 0, .ofNat (m + 8) => ⟨_, at0, w9 m⟩
  | .ofNat 1, .ofNat 0 => ⟨_, at2 e16 e17, w10⟩
  | .ofNat 1, .ofNat 1 => ⟨_, at2 e18 e19, w11⟩
  | .ofNat 1, .ofNat 2 => ⟨_, at2 e20 e21, w12⟩
  | .ofNat 1, .ofNat 3 => ⟨_, at2 e22 e23, w13⟩
  | .ofNat 1, .ofNat 4 => ⟨_, at2 e24 e25, w14⟩
  | .ofNat 1, .ofNat 5 => ⟨_, at2 e26 e27, w15⟩
  | .ofNat 1, .ofNat 6 => ⟨_, at2 e28 e29, w16⟩
  | .ofNat 1, .ofNat 7 => ⟨_, at2 e30 e31, w17⟩
  | .ofNat 1, .negSucc m => ⟨_, at0, w18 m⟩
  | .ofNat 1, .ofNat (m + 8) => ⟨_, at0, w19 m⟩
  | .ofNat 2, .ofNat 0 => ⟨_, at2 e32 e33, w20⟩
  | .ofNat 2, .ofNat 1 => ⟨_, at2 e34 e35, w21⟩
  | .ofNat 2, .ofNat 2 => ⟨_, at2 e36 e37, w22⟩
  | .ofNat 2, .ofNat 3 => ⟨_, at2 e38 e39, w23⟩
  | .ofNat 2, .ofNat 4 => ⟨_, at2 e40 e41, w24⟩
  | .ofNat 2, .ofNat 5 => ⟨_, at2 e42 e43, w25⟩
  | .ofNat 2, .ofNat 6 => ⟨_, at2 e44 e45, w26⟩
  | .ofNat 2, .ofNat 7 => ⟨_, at2 e46 e47, w27⟩
  | .ofNat 2, .negSucc m => ⟨_, at0, w28 m⟩
  | .ofNat 2, .ofNat (m + 8) => ⟨_, at0, w29 m⟩
  | .ofNat 3, .ofNat 0 => ⟨_, at2 e48 e49, w30⟩
  | .ofNat 3, .ofNat 1 => ⟨_, at2 e50 e51, w31⟩
  | .ofNat 3, .ofNat 2 => ⟨_, at2 e52 e53, w32⟩
  | .ofNat 3, .ofNat 3 => ⟨_, at2 e54 e55, w33⟩
  | .ofNat 3, .ofNat 4 => ⟨_, at2 e56 e57, w34⟩
  | .ofNat 3, .ofNat 5 => ⟨_, at2 e58 e59, w35⟩
  | .ofNat 3, .ofNat 6 => ⟨_, at2 e60 e61, w36⟩
  | .ofNat 3, .ofNat 7 => ⟨_, at2 e62 e63, w37⟩
  | .ofNat 3, .negSucc m => ⟨_, at0, w38 m⟩
  | .ofNat 3, .ofNat (m + 8) => ⟨_, at0, w39 m⟩
  | .ofNat 4, .ofNat 0 => ⟨_, at2 e64 e65, w40⟩
  | .ofNat 4, .ofNat 1 => ⟨_, at2 e66 e67, w41⟩
  | .ofNat 4, .ofNat 2 => ⟨_, at2 e68 e69, w42⟩
  | .ofNat 4, .ofNat 3 => ⟨_, at2 e70 e71, w43⟩
  | .ofNat 4, .ofNat 4 => ⟨_, at2 e72 e73, w44⟩
  | .ofNat 4, .ofNat 5 => ⟨_, at2 e74 e75, w45⟩
  | .ofNat 4, .ofNat 6 => ⟨_, at2 e76 e77, w46⟩
  | .ofNat 4, .ofNat 7 => ⟨_, at2 e78 e79, w47⟩
  | .ofNat 4, .negSucc m => ⟨_, at0, w48 m⟩
  | .ofNat 4, .ofNat (m + 8) => ⟨_, at0, w49 m⟩
  | .ofNat 5, .ofNat 0 => ⟨_, at2 e80 e81, w50⟩
  | .ofNat 5, .ofNat 1 => ⟨_, at2 e82 e83, w51⟩
  | .ofNat 5, .ofNat 2 => ⟨_, at2 e84 e85, w52⟩
  | .ofNat 5, .ofNat 3 => ⟨_, at2 e86 e87, w53⟩
  | .ofNat 5, .ofNat 4 => ⟨_, at2 e88 e89, w54⟩
  | .ofNat 5, .ofNat 5 => ⟨_, at2 e90 e91, w55⟩
  | .ofNat 5, .ofNat 6 => ⟨_, at2 e92 e93, w56⟩
  | .ofNat 5, .ofNat 7 => ⟨_, at2 e94 e95, w57⟩
  | .ofNat 5, .negSucc m => ⟨_, at0, w58 m⟩
  | .ofNat 5, .ofNat (m + 8) => ⟨_, at0, w59 m⟩
  | .ofNat 6, .ofNat 0 => ⟨_, at1 e96, w60⟩
  | .ofNat 6, .ofNat 1 => ⟨_, at1 e97, w61⟩
  | .ofNat 6, .ofNat 2 => ⟨_, at1 e98, w62⟩
  | .ofNat 6, .ofNat 3 => ⟨_, at1 e99, w63⟩
  | .ofNat 6, .ofNat 4 => ⟨_, at1 e100, w64⟩
  | .ofNat 6, .ofNat 5 => ⟨_, at1 e101, w65⟩
  | .ofNat 6, .ofNat 6 => ⟨_, at1 e102, w66⟩
  | .ofNat 6, .ofNat 7 => ⟨_, at1 e103, w67⟩
  | .ofNat 6, .negSucc m => ⟨_, at0, w68 m⟩
  | .ofNat 6, .ofNat (m + 8) => ⟨_, at0, w69 m⟩
  | .ofNat 7, .ofNat 0 => ⟨_, at1 e104, w70⟩
  | .ofNat 7, .ofNat 1 => ⟨_, at1 e105, w71⟩
  | .ofNat 7, .ofNat 2 => ⟨_, at1 e106, w72⟩
  | .ofNat 7, .ofNat 3 => ⟨_, at1 e107, w73⟩
  | .ofNat 7, .ofNat 4 => ⟨_, at1 e108, w74⟩
  | .ofNat 7, .ofNat 5 => ⟨_, at1 e109, w75⟩
  | .ofNat 7, .ofNat 6 => ⟨_, at1 e110, w76⟩
  | .ofNat 7, .ofNat 7 => ⟨_, at1 e111, w77⟩
  | .ofNat 7, .negSucc m => ⟨_, at0, w78 m⟩
  | .ofNat 7, .ofNat (m + 8) => ⟨_, at0, w79 m⟩
  | .ofNat 8, .ofNat 0 => ⟨_, at2 e112 e113, w80⟩
  | .ofNat 8, .ofNat 1 => ⟨_, at2 e114 e115, w81⟩
  | .ofNat 8, .ofNat 2 => ⟨_, at2 e116 e117, w82⟩
  | .ofNat 8, .ofNat 3 => ⟨_, at2 e118 e119, w83⟩
  | .ofNat 8, .ofNat 4 => ⟨_, at2 e120 e121, w84⟩
  | .ofNat 8, .ofNat 5 => ⟨_, at2 e122 e123, w85⟩
  | .ofNat 8, .ofNat 6 => ⟨_, at2 e124 e125, w86⟩
  | .ofNat 8, .ofNat 7 => ⟨_, at2 e126 e127, w87⟩
  | .ofNat 8, .negSucc m => ⟨_, at0, w88 m⟩
  | .ofNat 8, .ofNat (m + 8) => ⟨_, at0, w89 m⟩
  | .negSucc m, b => ⟨_, at0, w90 m b⟩
  | .ofNat (m + 9), b => ⟨_, at0, w91 m b⟩
theorem any_in (a b : Int) (W : World) (h : StartOk W) : Calls Tryz.prog 4 #[.int .i64 a, .int .i64 b] W fun e w' => e = .returned (.bool true) ∧ RowKit.Below W.heap.size W w' := by
  obtain ⟨tbl, ht, hl⟩ := law_all a b
  exact law_any eA ht hl W h
end Go.Proofs.YtimopcpbakanmaaGreatDoor
