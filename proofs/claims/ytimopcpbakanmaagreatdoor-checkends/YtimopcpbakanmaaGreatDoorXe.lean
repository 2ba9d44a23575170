import Derived.Test.YtimopcpbakanmaaGreatDoorRe0
import Derived.Test.YtimopcpbakanmaaGreatDoorRe1
import Derived.Test.YtimopcpbakanmaaGreatDoorRe2
import Derived.Test.YtimopcpbakanmaaGreatDoorRe3
import Derived.Test.YtimopcpbakanmaaGreatDoorRe4
import Derived.Test.YtimopcpbakanmaaGreatDoorRe5
import Derived.Test.YtimopcpbakanmaaGreatDoorRe6
import Derived.Test.YtimopcpbakanmaaGreatDoorRe7
import Derived.Test.YtimopcpbakanmaaGreatDoorWe0
set_option linter.all false
namespace Go.Proofs.YtimopcpbakanmaaGreatDoor
open Go Ex
theorem law_all : ∀ a b : Int, ∃ tbl, (∀ p ∈ tbl, SrcT p.1 p.2) ∧ LawT tbl a b
  | .ofNat 0, .ofNat 0 => ⟨_, at1 e0, w0⟩
  | .ofNat 0, .ofNat 1 => ⟨_, at1 e1, w1⟩
  | .ofNat 0, .ofNat 2 => ⟨_, at1 e2, w2⟩
  | .ofNat 0, .ofNat 3 => ⟨_, at1 e3, w3⟩
  | .ofNat 0, .negSucc m => ⟨_, at0, w4 m⟩
  | .ofNat 0, .ofNat (m + 4) => ⟨_, at0, w5 m⟩
  | .ofNat 1, .ofNat 0 => ⟨_, at1 e4, w6⟩
  | .ofNat 1, .ofNat 1 => ⟨_, at1 e5, w7⟩
  | .ofNat 1, .ofNat 2 => ⟨_, at1 e6, w8⟩
  | .ofNat 1, .ofNat 3 => ⟨_, at1 e7, w9⟩
  | .ofNat 1, .negSucc m => ⟨_, at0, w10 m⟩
  | .ofNat 1, .ofNat (m + 4) => ⟨_, at0, w11 m⟩
  | .ofNat 2, .ofNat 0 => ⟨_, at1 e8, w12⟩
  | .ofNat 2, .ofNat 1 => ⟨_, at1 e9, w13⟩
  | .ofNat 2, .ofNat 2 => ⟨_, at1 e10, w14⟩
  | .ofNat 2, .ofNat 3 => ⟨_, at1 e11, w15⟩
  | .ofNat 2, .negSucc m => ⟨_, at0, w16 m⟩
  | .ofNat 2, .ofNat (m + 4) => ⟨_, at0, w17 m⟩
  | .ofNat 3, .ofNat 0 => ⟨_, at1 e12, w18⟩
  | .ofNat 3, .ofNat 1 => ⟨_, at1 e13, w19⟩
  | .ofNat 3, .ofNat 2 => ⟨_, at1 e14, w20⟩
  | .ofNat 3, .ofNat 3 => ⟨_, at1 e15, w21⟩
  | .ofNat 3, .negSucc m => ⟨_, at0, w22 m⟩
  | .ofNat 3, .ofNat (m + 4) => ⟨_, at0, w23 m⟩
  | .ofNat 4, .ofNat 0 => ⟨_, at1 e16, w24⟩
  | .ofNat 4, .ofNat 1 => ⟨_, at1 e17, w25⟩
  | .ofNat 4, .ofNat 2 => ⟨_, at1 e18, w26⟩
  | .ofNat 4, .ofNat 3 => ⟨_, at1 e19, w27⟩
  | .ofNat 4, .negSucc m => ⟨_, at0, w28 m⟩
  | .ofNat 4, .ofNat (m + 4) => ⟨_, at0, w29 m⟩
  | .ofNat 5, .ofNat 0 => ⟨_, at1 e20, w30⟩
  | .ofNat 5, .ofNat 1 => ⟨_, at1 e21, w31⟩
  | .ofNat 5, .ofNat 2 => ⟨_, at1 e22, w32⟩
  | .ofNat 5, .ofNat 3 => ⟨_, at1 e23, w33⟩
  | .ofNat 5, .negSucc m => ⟨_, at0, w34 m⟩
  | .ofNat 5, .ofNat (m + 4) => ⟨_, at0, w35 m⟩
  | .ofNat 6, .ofNat 0 => ⟨_, at1 e24, w36⟩
  | .ofNat 6, .ofNat 1 => ⟨_, at1 e25, w37⟩
  | .ofNat 6, .ofNat 2 => ⟨_, at1 e26, w38⟩
  | .ofNat 6, .ofNat 3 => ⟨_, at1 e27, w39⟩
  | .ofNat 6, .negSucc m => ⟨_, at0, w40 m⟩
  | .ofNat 6, .ofNat (m + 4) => ⟨_, at0, w41 m⟩
  | .ofNat 7, .ofNat 0 => ⟨_, at1 e28, w42⟩
  | .ofNat 7, .ofNat 1 => ⟨_, at1 e29, w43⟩
  | .ofNat 7, .ofNat 2 => ⟨_, at1 e30, w44⟩
  | .ofNat 7, .ofNat 3 => ⟨_, at1 e31, w45⟩
  | .ofNat 7, .negSucc m => ⟨_, at0, w46 m⟩
  | .ofNat 7, .ofNat (m + 4) => ⟨_, at0, w47 m⟩
  | .ofNat 8, .ofNat 0 => ⟨_, at1 e32, w48⟩
  | .ofNat 8, .ofNat 1 => ⟨_, at1 e33, w49⟩
  | .ofNat 8, .ofNat 2 => ⟨_, at1 e34, w50⟩
  | .ofNat 8, .ofNat 3 => ⟨_, at1 e35, w51⟩
  | .ofNat 8, .negSucc m => ⟨_, at0, w52 m⟩
  | .ofNat 8, .ofNat (m + 4) => ⟨_, at0, w53 m⟩
  | .ofNat 9, .ofNat 0 => ⟨_, at1 e36, w54⟩
  | .ofNat 9, .ofNat 1 => ⟨_, at1 e37, w55⟩
  | .ofNat 9, .ofNat 2 => ⟨_, at1 e38, w56⟩
  | .ofNat 9, .ofNat 3 => ⟨_, at1 e39, w57⟩
  | .ofNat 9, .negSucc m => ⟨_, at0, w58 m⟩
  | .ofNat 9, .ofNat (m + 4) => ⟨_, at0, w59 m⟩
  | .ofNat 10, .ofNat 0 => ⟨_, at1 e40, w60⟩
  | .ofNat 10, .ofNat 1 => ⟨_, at1 e41, w61⟩
  | .ofNat 10, .ofNat 2 => ⟨_, at1 e42, w62⟩
  | .ofNat 10, .ofNat 3 => ⟨_, at1 e43, w63⟩
  | .ofNat 10, .negSucc m => ⟨_, at0, w64 m⟩
  | .ofNat 10, .ofNat (m + 4) => ⟨_, at0, w65 m⟩
  | .ofNat 11, .ofNat 0 => ⟨_, at1 e44, w66⟩
  | .ofNat 11, .ofNat 1 => ⟨_, at1 e45, w67⟩
  | .ofNat 11, .ofNat 2 => ⟨_, at1 e46, w68⟩
  | .ofNat 11, .ofNat 3 => ⟨_, at1 e47, w69⟩
  | .ofNat 11, .negSucc m => ⟨_, at0, w70 m⟩
  | .ofNat 11, .ofNat (m + 4) => ⟨_, at0, w71 m⟩
  | .ofNat 12, .ofNat 0 => ⟨_, at1 e48, w72⟩
  | .ofNat 12, .ofNat 1 => ⟨_, at1 e49, w73⟩
  | .ofNat 12, .ofNat 2 => ⟨_, at1 e50, w74⟩
  | .ofNat 12, .ofNat 3 => ⟨_, at1 e51, w75⟩
  | .ofNat 12, .negSucc m => ⟨_, at0, w76 m⟩
  | .ofNat 12, .ofNat (m + 4) => ⟨_, at0, w77 m⟩
  | .ofNat 13, .ofNat 0 => ⟨_, at1 e52, w78⟩
  | .ofNat 13, .ofNat 1 => ⟨_, at1 e53, w79⟩
  | .ofNat 13, .ofNat 2 => ⟨_, at1 e54, w80⟩
  | .ofNat 13, .ofNat 3 => ⟨_, at1 e55, w81⟩
  | .ofNat 13, .negSucc m => ⟨_, at0, w82 m⟩
  | .ofNat 13, .ofNat (m + 4) => ⟨_, at0, w83 m⟩
  | .ofNat 14, .ofNat 0 => ⟨_, at1 e56, w84⟩
  | .ofNat 14, .ofNat 1 => ⟨_, at1 e57, w85⟩
  | .ofNat 14, .ofNat 2 => ⟨_, at1 e58, w86⟩
  | .ofNat 14, .ofNat 3 => ⟨_, at1 e59, w87⟩
  | .ofNat 14, .negSucc m => ⟨_, at0, w88 m⟩
  | .ofNat 14, .ofNat (m + 4) => ⟨_, at0, w89 m⟩
  | .ofNat 15, .ofNat 0 => ⟨_, at1 e60, w90⟩
  | .ofNat 15, .ofNat 1 => ⟨_, at1 e61, w91⟩
  | .ofNat 15, .ofNat 2 => ⟨_, at1 e62, w92⟩
  | .ofNat 15, .ofNat 3 => ⟨_, at1 e63, w93⟩
  | .ofNat 15, .negSucc m => ⟨_, at0, w94 m⟩
  | .ofNat 15, .ofNat (m + 4) => ⟨_, at0, w95 m⟩
  | .ofNat 16, .ofNat 0 => ⟨_, at1 e64, w96⟩
  | .ofNat 16, .ofNat 1 => ⟨_, at1 e65, w97⟩
  | .ofNat 16, .ofNat 2 => ⟨_, at1 e66, w98⟩
  | .ofNat 16, .ofNat 3 => ⟨_, at1 e67, w99⟩
  | .ofNat 16, .negSucc m => ⟨_, at0, w100 m⟩
  | .ofNat 16, .ofNat (m + 4) => ⟨_, at0, w101 m⟩
  | .ofNat 17, .ofNat 0 => ⟨_, at1 e68, w102⟩
  | .ofNat 17, .ofNat 1 => ⟨_, at1 e69, w103⟩
  | .ofNat 17, .ofNat 2 => ⟨_, at1 e70, w104⟩
  | .ofNat 17, .ofNat 3 => ⟨_, at1 e71, w105⟩
  | .ofNat 17, .negSucc m => ⟨_, at0, w106 m⟩
  | .ofNat 17, .ofNat (m + 4) => ⟨_, at0, w107 m⟩
  | .ofNat 18, .ofNat 0 => ⟨_, at1 e1, w108⟩
  | .ofNat 18, .ofNat 1 => ⟨_, at1 e72, w109⟩
  | .ofNat 18, .ofNat 2 => ⟨_, at1 e73, w110⟩
  | .ofNat 18, .ofNat 3 => ⟨_, at1 e74, w111⟩
  | .ofNat 18, .negSucc m => ⟨_, at0, w112 m⟩
  | .ofNat 18, .ofNat (m + 4) => ⟨_, at0, w113 m⟩
  | .ofNat 19, .ofNat 0 => ⟨_, at1 e75, w114⟩
  | .ofNat 19, .ofNat 1 => ⟨_, at1 e76, w115⟩
  | .ofNat 19, .ofNat 2 => ⟨_, at1 e77, w116⟩
  | .ofNat 19, .ofNat 3 => ⟨_, at1 e78, w117⟩
  | .ofNat 19, .negSucc m => ⟨_, at0, w118 m⟩
  | .ofNat 19, .ofNat (m + 4) => ⟨_, at0, w119 m⟩
  | .ofNat 20, .ofNat 0 => ⟨_, at1 e79, w120⟩
  | .ofNat 20, .ofNat 1 => ⟨_, at1 e80, w121⟩
  | .ofNat 20, .ofNat 2 => ⟨_, at1 e81, w122⟩
  | .ofNat 20, .ofNat 3 => ⟨_, at1 e82, w123⟩
  | .ofNat 20, .negSucc m => ⟨_, at0, w124 m⟩
  | .ofNat 20, .ofNat (m + 4) => ⟨_, at0, w125 m⟩
  | .ofNat 21, .ofNat 0 => ⟨_, at1 e83, w126⟩
  | .ofNat 21, .ofNat 1 => ⟨_, at1 e84, w127⟩
  | .ofNat 21, .ofNat 2 => ⟨_, at1 e85, w128⟩
  | .ofNat 21, .ofNat 3 => ⟨_, at1 e86, w129⟩
  | .ofNat 21, .negSucc m => ⟨_, at0, w130 m⟩
  | .ofNat 21, .ofNat (m + 4) => ⟨_, at0, w131 m⟩
  | .ofNat 22, .ofNat 0 => ⟨_, at1 e87, w132⟩
  | .ofNat 22, .ofNat 1 => ⟨_, at1 e88, w133⟩
  | .ofNat 22, .ofNat 2 => ⟨_, at1 e89, w134⟩
  | .ofNat 22, .ofNat 3 => ⟨_, at1 e90, w135⟩
  | .ofNat 22, .negSucc m => ⟨_, at0, w136 m⟩
  | .ofNat 22, .ofNat (m + 4) => ⟨_, at0, w137 m⟩
  | .ofNat 23, .ofNat 0 => ⟨_, at1 e91, w138⟩
  | .ofNat 23, .ofNat 1 => ⟨_, at1 e92, w139⟩
  | .ofNat 23, .ofNat 2 => ⟨_, at1 e93, w140⟩
  | .ofNat 23, .ofNat 3 => ⟨_, at1 e94, w141⟩
  | .ofNat 23, .negSucc m => ⟨_, at0, w142 m⟩
  | .ofNat 23, .ofNat (m + 4) => ⟨_, at0, w143 m⟩
  | .negSucc m, b => ⟨_, at0, w144 m b⟩
  | .ofNat (m + 24), b => ⟨_, at0, w145 m b⟩
theorem any_in (a b : Int) (W : World) (h : StartOk W) : Calls Tryz.prog 7 #[.int .i64 a, .int .i64 b] W fun e w' => e = .returned (.bool true) ∧ RowKit.Below W.heap.size W w' := by
  obtain ⟨tbl, ht, hl⟩ := law_all a b
  exact law_any eA ht hl W h
end Go.Proofs.YtimopcpbakanmaaGreatDoor
