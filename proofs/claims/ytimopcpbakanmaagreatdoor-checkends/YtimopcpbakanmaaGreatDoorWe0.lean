import Derived.Test.YtimopcpbakanmaaGreatDoorP2e
set_option linter.all false
namespace Go.Proofs.YtimopcpbakanmaaGreatDoor
open Go Ex
theorem w0 : LawT [(s0, true)] (.ofNat 0) (.ofNat 0) := fun τ => by kernel_rfl
theorem w1 : LawT [(s1, true)] (.ofNat 0) (.ofNat 1) := fun τ => by kernel_rfl
theorem w2 : LawT [(s2, true)] (.ofNat 0) (.ofNat 2) := fun τ => by kernel_rfl
theorem w3 : LawT [(s3, false)] (.ofNat 0) (.ofNat 3) := fun τ => by kernel_rfl
theorem w4 (m : Nat) : LawT [] (.ofNat 0) (.negSucc m) := fun τ => by kernel_rfl
theorem w5 (m : Nat) : LawT [] (.ofNat 0) (.ofNat (Nat.succ (Nat.succ (Nat.succ (Nat.succ m))))) := fun τ => by kernel_rfl
theorem w6 : LawT [(s4, true)] (.ofNat 1) (.ofNat 0) := fun τ => by kernel_rfl
theorem w7 : LawT [(s5, true)] (.ofNat 1) (.ofNat 1) := fun τ => by kernel_rfl
theorem w8 : LawT [(s6, true)] (.ofNat 1) (.ofNat 2) := fun τ => by kernel_rfl
theorem w9 : LawT [(s7, false)] (.ofNat 1) (.ofNat 3) := fun τ => by kernel_rfl
theorem w10 (m : Nat) : LawT [] (.ofNat 1) (.negSucc m) := fun τ => by kernel_rfl
theorem w11 (m : Nat) : LawT [] (.ofNat 1) (.ofNat (Nat.succ (Nat.succ (Nat.succ (Nat.succ m))))) := fun τ => by kernel_rfl
theorem w12 : LawT [(s8, true)] (.ofNat 2) (.ofNat 0) := fun τ => by kernel_rfl
theorem w13 : LawT [(s9, true)] (.ofNat 2) (.ofNat 1) := fun τ => by kernel_rfl
theorem w14 : LawT [(s10, true)] (.ofNat 2) (.ofNat 2) := fun τ => by kernel_rfl
theorem w15 : LawT [(s11, false)] (.ofNat 2) (.ofNat 3) := fun τ => by kernel_rfl
theorem w16 (m : Nat) : LawT [] (.ofNat 2) (.negSucc m) := fun τ => by kernel_rfl
theorem w17 (m : Nat) : LawT [] (.ofNat 2) (.ofNat (Nat.succ (Nat.succ (Nat.succ (Nat.succ m))))) := fun τ => by kernel_rfl
theorem w18 : LawT [(s12, false)] (.ofNat 3) (.ofNat 0) := fun τ => by kernel_rfl
theorem w19 : LawT [(s13, false)] (.ofNat 3) (.ofNat 1) := fun τ => by kernel_rfl
theorem w20 : LawT [(s14, false)] (.ofNat 3) (.ofNat 2) := fun τ => by kernel_rfl
theorem w21 : LawT [(s15, false)] (.ofNat 3) (.ofNat 3) := fun τ => by kernel_rfl
theorem w22 (m : Nat) : LawT [] (.ofNat 3) (.negSucc m) := fun τ => by kernel_rfl
theorem w23 (m : Nat) : LawT [] (.ofNat 3) (.ofNat (Nat.succ (Nat.succ (Nat.succ (Nat.succ m))))) := fun τ => by kernel_rfl
theorem w24 : LawT [(s16, false)] (.ofNat 4) (.ofNat 0) := fun τ => by kernel_rfl
theorem w25 : LawT [(s17, false)] (.ofNat 4) (.ofNat 1) := fun τ => by kernel_rfl
theorem w26 : LawT [(s18, false)] (.ofNat 4) (.ofNat 2) := fun τ => by kernel_rfl
theorem w27 : LawT [(s19, false)] (.ofNat 4) (.ofNat 3) := fun τ => by kernel_rfl
theorem w28 (m : Nat) : LawT [] (.ofNat 4) (.negSucc m) := fun τ => by kernel_rfl
theorem w29 (m : Nat) : LawT [] (.ofNat 4) (.ofNat (Nat.succ (Nat.succ (Nat.succ (Nat.succ m))))) := fun τ => by kernel_rfl
theorem w30 : LawT [(s20, true)] (.ofNat 5) (.ofNat 0) := fun τ => by kernel_rfl
theorem w31 : LawT [(s21, true)] (.ofNat 5) (.ofNat 1) := fun τ => by kernel_rfl
theorem w32 : LawT [(s22, true)] (.ofNat 5) (.ofNat 2) := fun τ => by kernel_rfl
theorem w33 : LawT [(s23, false)] (.ofNat 5) (.ofNat 3) := fun τ => by kernel_rfl
theorem w34 (m : Nat) : LawT [] (.ofNat 5) (.negSucc m) := fun τ => by kernel_rfl
theorem w35 (m : Nat) : LawT [] (.ofNat 5) (.ofNat (Nat.succ (Nat.succ (Nat.succ (Nat.succ m))))) := fun τ => by kernel_rfl
theorem w36 : LawT [(s24, false)] (.ofNat 6) (.ofNat 0) := fun τ => by kernel_rfl
theorem w37 : LawT [(s25, false)] (.ofNat 6) (.ofNat 1) := fun τ => by kernel_rfl
theorem w38 : LawT [(s26, false)] (.ofNat 6) (.ofNat 2) := fun τ => by kernel_rfl
theorem w39 : LawT [(s27, false)] (.ofNat 6) (.ofNat 3) := fun τ => by kernel_rfl
theorem w40 (m : Nat) : LawT [] (.ofNat 6) (.negSucc m) := fun τ => by kernel_rfl
theorem w41 (m : Nat) : LawT [] (.ofNat 6) (.ofNat (Nat.succ (Nat.succ (Nat.succ (Nat.succ m))))) := fun τ => by kernel_rfl
theorem w42 : LawT [(s28, false)] (.ofNat 7) (.ofNat 0) := fun τ => by kernel_rfl
theorem w43 : LawT [(s29, false)] (.ofNat 7) (.ofNat 1) := fun τ => by kernel_rfl
theorem w44 : LawT [(s30, false)] (.ofNat 7) (.ofNat 2) := fun τ => by kernel_rfl
theorem w45 : LawT [(s31, false)] (.ofNat 7) (.ofNat 3) := fun τ => by kernel_rfl
theorem w46 (m : Nat) : LawT [] (.ofNat 7) (.negSucc m) := fun τ => by kernel_rfl
theorem w47 (m : Nat) : LawT [] (.ofNat 7) (.ofNat (Nat.succ (Nat.succ (Nat.succ (Nat.succ m))))) := fun τ => by kernel_rfl
theorem w48 : LawT [(s32, true)] (.ofNat 8) (.ofNat 0) := fun τ => by kernel_rfl
theorem w49 : LawT [(s33, true)] (.ofNat 8) (.ofNat 1) := fun τ => by kernel_rfl
theorem w50 : LawT [(s34, true)] (.ofNat 8) (.ofNat 2) := fun τ => by kernel_rfl
theorem w51 : LawT [(s35, false)] (.ofNat 8) (.ofNat 3) := fun τ => by kernel_rfl
theorem w52 (m : Nat) : LawT [] (.ofNat 8) (.negSucc m) := fun τ => by kernel_rfl
theorem w53 (m : Nat) : LawT [] (.ofNat 8) (.ofNat (Nat.succ (Nat.succ (Nat.succ (Nat.succ m))))) := fun τ => by kernel_rfl
theorem w54 : LawT [(s36, false)] (.ofNat 9) (.ofNat 0) := fun τ => by kernel_rfl
theorem w55 : LawT [(s37, false)] (.ofNat 9) (.ofNat 1) := fun τ => by kernel_rfl
theorem w56 : LawT [(s38, false)] (.ofNat 9) (.ofNat 2) := fun τ => by kernel_rfl
theorem w57 : LawT [(s39, false)] (.ofNat 9) (.ofNat 3) := fun τ => by kernel_rfl
theorem w58 (m : Nat) : LawT [] (.ofNat 9) (.negSucc m) := fun τ => by kernel_rfl
theorem w59 (m : Nat) : LawT [] (.ofNat 9) (.ofNat (Nat.succ (Nat.succ (Nat.succ (Nat.succ m))))) := fun τ => by kernel_rfl
theorem w60 : LawT [(s40, true)] (.ofNat 10) (.ofNat 0) := fun τ => by kernel_rfl
theorem w61 : LawT [(s41, true)] (.ofNat 10) (.ofNat 1) := fun τ => by kernel_rfl
theorem w62 : LawT [(s42, true)] (.ofNat 10) (.ofNat 2) := fun τ => by kernel_rfl
theorem w63 : LawT [(s43, false)] (.ofNat 10) (.ofNat 3) := fun τ => by kernel_rfl
theorem w64 (m : Nat) : LawT [] (.ofNat 10) (.negSucc m) := fun τ => by kernel_rfl
theorem w65 (m : Nat) : LawT [] (.ofNat 10) (.ofNat (Nat.succ (Nat.succ (Nat.succ (Nat.succ m))))) := fun τ => by kernel_rfl
theorem w66 : LawT [(s44, false)] (.ofNat 11) (.ofNat 0) := fun τ => by kernel_rfl
theorem w67 : LawT [(s45, false)] (.ofNat 11) (.ofNat 1) := fun τ => by kernel_rfl
theorem w68 : LawT [(s46, false)] (.ofNat 11) (.ofNat 2) := fun τ => by kernel_rfl
theorem w69 : LawT [(s47, false)] (.ofNat 11) (.ofNat 3) := fun τ => by kernel_rfl
theorem w70 (m : Nat) : LawT [] (.ofNat 11) (.negSucc m) := fun τ => by kernel_rfl
theorem w71 (m : Nat) : LawT [] (.ofNat 11) (.ofNat (Nat.succ (Nat.succ (Nat.succ (Nat.succ m))))) := fun τ => by kernel_rfl
theorem w72 : LawT [(s48, true)] (.ofNat 12) (.ofNat 0) := fun τ => by kernel_rfl
theorem w73 : LawT [(s49, true)] (.ofNat 12) (.ofNat 1) := fun τ => by kernel_rfl
theorem w74 : LawT [(s50, true)] (.ofNat 12) (.ofNat 2) := fun τ => by kernel_rfl
theorem w75 : LawT [(s51, false)] (.ofNat 12) (.ofNat 3) := fun τ => by kernel_rfl
theorem w76 (m : Nat) : LawT [] (.ofNat 12) (.negSucc m) := fun τ => by kernel_rfl
theorem w77 (m : Nat) : LawT [] (.ofNat 12) (.ofNat (Nat.succ (Nat.succ (Nat.succ (Nat.succ m))))) := fun τ => by kernel_rfl
theorem w78 : LawT [(s52, true)] (.ofNat 13) (.ofNat 0) := fun τ => by kernel_rfl
theorem w79 : LawT [(s53, true)] (.ofNat 13) (.ofNat 1) := fun τ => by kernel_rfl
theorem w80 : LawT [(s54, true)] (.ofNat 13) (.ofNat 2) := fun τ => by kernel_rfl
theorem w81 : LawT [(s55, false)] (.ofNat 13) (.ofNat 3) := fun τ => by kernel_rfl
theorem w82 (m : Nat) : LawT [] (.ofNat 13) (.negSucc m) := fun τ => by kernel_rfl
theorem w83 (m : Nat) : LawT [] (.ofNat 13) (.ofNat (Nat.succ (Nat.succ (Nat.succ (Nat.succ m))))) := fun τ => by kernel_rfl
theorem w84 : LawT [(s56, false)] (.ofNat 14) (.ofNat 0) := fun τ => by kernel_rfl
theorem w85 : LawT [(s57, false)] (.ofNat 14) (.ofNat 1) := fun τ => by kernel_rfl
theorem w86 : LawT [(s58, false)] (.ofNat 14) (.ofNat 2) := fun τ => by kernel_rfl
theorem w87 : LawT [(s59, false)] (.ofNat 14) (.ofNat 3) := fun τ => by kernel_rfl
theorem w88 (m : Nat) : LawT [] (.ofNat 14) (.negSucc m) := fun τ => by kernel_rfl
theorem w89 (m : Nat) : LawT [] (.ofNat 14) (.ofNat (Nat.succ (Nat.succ (Nat.succ (Nat.succ m))))) := fun τ => by kernel_rfl
theorem w90 : LawT [(s60, false)] (.ofNat 15) (.ofNat 0) := fun τ => by kernel_rfl
theorem w91 : LawT [(s61, false)] (.ofNat 15) (.ofNat 1) := fun τ => by kernel_rfl
theorem w92 : LawT [(s62, false)] (.ofNat 15) (.ofNat 2) := fun τ => by kernel_rfl
theorem w93 : LawT [(s63, false)] (.ofNat 15) (.ofNat 3) := fun τ => by kernel_rfl
theorem w94 (m : Nat) : LawT [] (.ofNat 15) (.negSucc m) := fun τ => by kernel_rfl
theorem w95 (m : Nat) : LawT [] (.ofNat 15) (.ofNat (Nat.succ (Nat.succ (Nat.succ (Nat.succ m))))) := fun τ => by kernel_rfl
theorem w96 : LawT [(s64, true)] (.ofNat 16) (.ofNat 0) := fun τ => by kernel_rfl
theorem w97 : LawT [(s65, true)] (.ofNat 16) (.ofNat 1) := fun τ => by kernel_rfl
theorem w98 : LawT [(s66, true)] (.ofNat 16) (.ofNat 2) := fun τ => by kernel_rfl
theorem w99 : LawT [(s67, false)] (.ofNat 16) (.ofNat 3) := fun τ => by kernel_rfl
theorem w100 (m : Nat) : LawT [] (.ofNat 16) (.negSucc m) := fun τ => by kernel_rfl
theorem w101 (m : Nat) : LawT [] (.ofNat 16) (.ofNat (Nat.succ (Nat.succ (Nat.succ (Nat.succ m))))) := fun τ => by kernel_rfl
theorem w102 : LawT [(s68, true)] (.ofNat 17) (.ofNat 0) := fun τ => by kernel_rfl
theorem w103 : LawT [(s69, true)] (.ofNat 17) (.ofNat 1) := fun τ => by kernel_rfl
theorem w104 : LawT [(s70, true)] (.ofNat 17) (.ofNat 2) := fun τ => by kernel_rfl
theorem w105 : LawT [(s71, false)] (.ofNat 17) (.ofNat 3) := fun τ => by kernel_rfl
theorem w106 (m : Nat) : LawT [] (.ofNat 17) (.negSucc m) := fun τ => by kernel_rfl
theorem w107 (m : Nat) : LawT [] (.ofNat 17) (.ofNat (Nat.succ (Nat.succ (Nat.succ (Nat.succ m))))) := fun τ => by kernel_rfl
theorem w108 : LawT [(s1, true)] (.ofNat 18) (.ofNat 0) := fun τ => by kernel_rfl
theorem w109 : LawT [(s72, true)] (.ofNat 18) (.ofNat 1) := fun τ => by kernel_rfl
theorem w110 : LawT [(s73, true)] (.ofNat 18) (.ofNat 2) := fun τ => by kernel_rfl
theorem w111 : LawT [(s74, false)] (.ofNat 18) (.ofNat 3) := fun τ => by kernel_rfl
theorem w112 (m : Nat) : LawT [] (.ofNat 18) (.negSucc m) := fun τ => by kernel_rfl
theorem w113 (m : Nat) : LawT [] (.ofNat 18) (.ofNat (Nat.succ (Nat.succ (Nat.succ (Nat.succ m))))) := fun τ => by kernel_rfl
theorem w114 : LawT [(s75, false)] (.ofNat 19) (.ofNat 0) := fun τ => by kernel_rfl
theorem w115 : LawT [(s76, false)] (.ofNat 19) (.ofNat 1) := fun τ => by kernel_rfl
theorem w116 : LawT [(s77, false)] (.ofNat 19) (.ofNat 2) := fun τ => by kernel_rfl
theorem w117 : LawT [(s78, false)] (.ofNat 19) (.ofNat 3) := fun τ => by kernel_rfl
theorem w118 (m : Nat) : LawT [] (.ofNat 19) (.negSucc m) := fun τ => by kernel_rfl
theorem w119 (m : Nat) : LawT [] (.ofNat 19) (.ofNat (Nat.succ (Nat.succ (Nat.succ (Nat.succ m))))) := fun τ => by kernel_rfl
theorem w120 : LawT [(s79, false)] (.ofNat 20) (.ofNat 0) := fun τ => by kernel_rfl
theorem w121 : LawT [(s80, false)] (.ofNat 20) (.ofNat 1) := fun τ => by kernel_rfl
theorem w122 : LawT [(s81, false)] (.ofNat 20) (.ofNat 2) := fun τ => by kernel_rfl
theorem w123 : LawT [(s82, false)] (.ofNat 20) (.ofNat 3) := fun τ => by kernel_rfl
theorem w124 (m : Nat) : LawT [] (.ofNat 20) (.negSucc m) := fun τ => by kernel_rfl
theorem w125 (m : Nat) : LawT [] (.ofNat 20) (.ofNat (Nat.succ (Nat.succ (Nat.succ (Nat.succ m))))) := fun τ => by kernel_rfl
theorem w126 : LawT [(s83, true)] (.ofNat 21) (.ofNat 0) := fun τ => by kernel_rfl
theorem w127 : LawT [(s84, true)] (.ofNat 21) (.ofNat 1) := fun τ => by kernel_rfl
theorem w128 : LawT [(s85, true)] (.ofNat 21) (.ofNat 2) := fun τ => by kernel_rfl
theorem w129 : LawT [(s86, false)] (.ofNat 21) (.ofNat 3) := fun τ => by kernel_rfl
theorem w130 (m : Nat) : LawT [] (.ofNat 21) (.negSucc m) := fun τ => by kernel_rfl
theorem w131 (m : Nat) : LawT [] (.ofNat 21) (.ofNat (Nat.succ (Nat.succ (Nat.succ (Nat.succ m))))) := fun τ => by kernel_rfl
theorem w132 : LawT [(s87, false)] (.ofNat 22) (.ofNat 0) := fun τ => by kernel_rfl
theorem w133 : LawT [(s88, false)] (.ofNat 22) (.ofNat 1) := fun τ => by kernel_rfl
theorem w134 : LawT [(s89, false)] (.ofNat 22) (.ofNat 2) := fun τ => by kernel_rfl
theorem w135 : LawT [(s90, false)] (.ofNat 22) (.ofNat 3) := fun τ => by kernel_rfl
theorem w136 (m : Nat) : LawT [] (.ofNat 22) (.negSucc m) := fun τ => by kernel_rfl
theorem w137 (m : Nat) : LawT [] (.ofNat 22) (.ofNat (Nat.succ (Nat.succ (Nat.succ (Nat.succ m))))) := fun τ => by kernel_rfl
theorem w138 : LawT [(s91, false)] (.ofNat 23) (.ofNat 0) := fun τ => by kernel_rfl
theorem w139 : LawT [(s92, false)] (.ofNat 23) (.ofNat 1) := fun τ => by kernel_rfl
theorem w140 : LawT [(s93, false)] (.ofNat 23) (.ofNat 2) := fun τ => by kernel_rfl
theorem w141 : LawT [(s94, false)] (.ofNat 23) (.ofNat 3) := fun τ => by kernel_rfl
theorem w142 (m : Nat) : LawT [] (.ofNat 23) (.negSucc m) := fun τ => by kernel_rfl
theorem w143 (m : Nat) : LawT [] (.ofNat 23) (.ofNat (Nat.succ (Nat.succ (Nat.succ (Nat.succ m))))) := fun τ => by kernel_rfl
theorem w144 (m : Nat) (b : Int) : LawT [] (.negSucc m) b := fun τ => by kernel_rfl
theorem w145 (m : Nat) (b : Int) : LawT [] (.ofNat (Nat.succ (Nat.succ (Nat.succ (Nat.succ (Nat.succ (Nat.succ (Nat.succ (Nat.succ (Nat.succ (Nat.succ (Nat.succ (Nat.succ (Nat.succ (Nat.succ (Nat.succ (Nat.succ (Nat.succ (Nat.succ (Nat.succ (Nat.succ (Nat.succ (Nat.succ (Nat.succ (Nat.succ m))))))))))))))))))))))))) b := fun τ => by kernel_rfl
end Go.Proofs.YtimopcpbakanmaaGreatDoor
