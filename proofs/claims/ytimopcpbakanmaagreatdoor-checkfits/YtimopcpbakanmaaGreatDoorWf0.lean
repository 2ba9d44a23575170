import Derived.Test.YtimopcpbakanmaaGreatDoorP2f
set_option linter.all false
namespace Go.Proofs.YtimopcpbakanmaaGreatDoor
open Go Ex
theorem w0 : LawT [(s0, true), (s1, true)] (.ofNat 0) (.ofNat 0) (.ofNat 0) := fun τ => by kernel_rfl
theorem w1 : LawT [(s2, true), (s1, true)] (.ofNat 0) (.ofNat 0) (.ofNat 1) := fun τ => by kernel_rfl
theorem w2 : LawT [(s3, true), (s1, true)] (.ofNat 0) (.ofNat 0) (.ofNat 2) := fun τ => by kernel_rfl
theorem w3 : LawT [(s4, true), (s1, true)] (.ofNat 0) (.ofNat 0) (.ofNat 3) := fun τ => by kernel_rfl
theorem w4 : LawT [(s5, true), (s1, true)] (.ofNat 0) (.ofNat 0) (.ofNat 4) := fun τ => by kernel_rfl
theorem w5 : LawT [(s6, true), (s1, true)] (.ofNat 0) (.ofNat 0) (.ofNat 5) := fun τ => by kernel_rfl
theorem w6 (m : Nat) : LawT [] (.ofNat 0) (.ofNat 0) (.negSucc m) := fun τ => by kernel_rfl
theorem w7 (m : Nat) : LawT [] (.ofNat 0) (.ofNat 0) (.ofNat (Nat.succ (Nat.succ (Nat.succ (Nat.succ (Nat.succ (Nat.succ m))))))) := fun τ => by kernel_rfl
theorem w8 : LawT [(s7, false), (s1, true)] (.ofNat 0) (.ofNat 1) (.ofNat 0) := fun τ => by kernel_rfl
theorem w9 : LawT [(s8, false), (s1, true)] (.ofNat 0) (.ofNat 1) (.ofNat 1) := fun τ => by kernel_rfl
theorem w10 : LawT [(s9, false), (s1, true)] (.ofNat 0) (.ofNat 1) (.ofNat 2) := fun τ => by kernel_rfl
theorem w11 : LawT [(s10, false), (s1, true)] (.ofNat 0) (.ofNat 1) (.ofNat 3) := fun τ => by kernel_rfl
theorem w12 : LawT [(s11, false), (s1, true)] (.ofNat 0) (.ofNat 1) (.ofNat 4) := fun τ => by kernel_rfl
theorem w13 : LawT [(s12, false), (s1, true)] (.ofNat 0) (.ofNat 1) (.ofNat 5) := fun τ => by kernel_rfl
theorem w14 (m : Nat) : LawT [] (.ofNat 0) (.ofNat 1) (.negSucc m) := fun τ => by kernel_rfl
theorem w15 (m : Nat) : LawT [] (.ofNat 0) (.ofNat 1) (.ofNat (Nat.succ (Nat.succ (Nat.succ (Nat.succ (Nat.succ (Nat.succ m))))))) := fun τ => by kernel_rfl
theorem w16 : LawT [(s13, false), (s1, true)] (.ofNat 0) (.ofNat 2) (.ofNat 0) := fun τ => by kernel_rfl
theorem w17 : LawT [(s14, false), (s1, true)] (.ofNat 0) (.ofNat 2) (.ofNat 1) := fun τ => by kernel_rfl
theorem w18 : LawT [(s15, false), (s1, true)] (.ofNat 0) (.ofNat 2) (.ofNat 2) := fun τ => by kernel_rfl
theorem w19 : LawT [(s16, false), (s1, true)] (.ofNat 0) (.ofNat 2) (.ofNat 3) := fun τ => by kernel_rfl
theorem w20 : LawT [(s17, false), (s1, true)] (.ofNat 0) (.ofNat 2) (.ofNat 4) := fun τ => by kernel_rfl
theorem w21 : LawT [(s18, false), (s1, true)] (.ofNat 0) (.ofNat 2) (.ofNat 5) := fun τ => by kernel_rfl
theorem w22 (m : Nat) : LawT [] (.ofNat 0) (.ofNat 2) (.negSucc m) := fun τ => by kernel_rfl
theorem w23 (m : Nat) : LawT [] (.ofNat 0) (.ofNat 2) (.ofNat (Nat.succ (Nat.succ (Nat.succ (Nat.succ (Nat.succ (Nat.succ m))))))) := fun τ => by kernel_rfl
theorem w24 : LawT [(s19, false), (s1, true)] (.ofNat 0) (.ofNat 3) (.ofNat 0) := fun τ => by kernel_rfl
theorem w25 : LawT [(s20, false), (s1, true)] (.ofNat 0) (.ofNat 3) (.ofNat 1) := fun τ => by kernel_rfl
theorem w26 : LawT [(s21, false), (s1, true)] (.ofNat 0) (.ofNat 3) (.ofNat 2) := fun τ => by kernel_rfl
theorem w27 : LawT [(s22, false), (s1, true)] (.ofNat 0) (.ofNat 3) (.ofNat 3) := fun τ => by kernel_rfl
theorem w28 : LawT [(s23, false), (s1, true)] (.ofNat 0) (.ofNat 3) (.ofNat 4) := fun τ => by kernel_rfl
theorem w29 : LawT [(s24, false), (s1, true)] (.ofNat 0) (.ofNat 3) (.ofNat 5) := fun τ => by kernel_rfl
theorem w30 (m : Nat) : LawT [] (.ofNat 0) (.ofNat 3) (.negSucc m) := fun τ => by kernel_rfl
theorem w31 (m : Nat) : LawT [] (.ofNat 0) (.ofNat 3) (.ofNat (Nat.succ (Nat.succ (Nat.succ (Nat.succ (Nat.succ (Nat.succ m))))))) := fun τ => by kernel_rfl
theorem w32 : LawT [(s25, false), (s1, true)] (.ofNat 0) (.ofNat 4) (.ofNat 0) := fun τ => by kernel_rfl
theorem w33 : LawT [(s26, false), (s1, true)] (.ofNat 0) (.ofNat 4) (.ofNat 1) := fun τ => by kernel_rfl
theorem w34 : LawT [(s27, false), (s1, true)] (.ofNat 0) (.ofNat 4) (.ofNat 2) := fun τ => by kernel_rfl
theorem w35 : LawT [(s28, false), (s1, true)] (.ofNat 0) (.ofNat 4) (.ofNat 3) := fun τ => by kernel_rfl
theorem w36 : LawT [(s29, false), (s1, true)] (.ofNat 0) (.ofNat 4) (.ofNat 4) := fun τ => by kernel_rfl
theorem w37 : LawT [(s30, false), (s1, true)] (.ofNat 0) (.ofNat 4) (.ofNat 5) := fun τ => by kernel_rfl
theorem w38 (m : Nat) : LawT [] (.ofNat 0) (.ofNat 4) (.negSucc m) := fun τ => by kernel_rfl
theorem w39 (m : Nat) : LawT [] (.ofNat 0) (.ofNat 4) (.ofNat (Nat.succ (Nat.succ (Nat.succ (Nat.succ (Nat.succ (Nat.succ m))))))) := fun τ => by kernel_rfl
theorem w40 : LawT [(s31, false), (s1, true)] (.ofNat 0) (.ofNat 5) (.ofNat 0) := fun τ => by kernel_rfl
theorem w41 : LawT [(s32, false), (s1, true)] (.ofNat 0) (.ofNat 5) (.ofNat 1) := fun τ => by kernel_rfl
theorem w42 : LawT [(s33, false), (s1, true)] (.ofNat 0) (.ofNat 5) (.ofNat 2) := fun τ => by kernel_rfl
theorem w43 : LawT [(s34, false), (s1, true)] (.ofNat 0) (.ofNat 5) (.ofNat 3) := fun τ => by kernel_rfl
theorem w44 : LawT [(s35, false), (s1, true)] (.ofNat 0) (.ofNat 5) (.ofNat 4) := fun τ => by kernel_rfl
theorem w45 : LawT [(s36, false), (s1, true)] (.ofNat 0) (.ofNat 5) (.ofNat 5) := fun τ => by kernel_rfl
theorem w46 (m : Nat) : LawT [] (.ofNat 0) (.ofNat 5) (.negSucc m) := fun τ => by kernel_rfl
theorem w47 (m : Nat) : LawT [] (.ofNat 0) (.ofNat 5) (.ofNat (Nat.succ (Nat.succ (Nat.succ (Nat.succ (Nat.succ (Nat.succ m))))))) := fun τ => by kernel_rfl
theorem w48 : LawT [(s37, false), (s1, true)] (.ofNat 0) (.ofNat 6) (.ofNat 0) := fun τ => by kernel_rfl
theorem w49 : LawT [(s38, false), (s1, true)] (.ofNat 0) (.ofNat 6) (.ofNat 1) := fun τ => by kernel_rfl
theorem w50 : LawT [(s39, false), (s1, true)] (.ofNat 0) (.ofNat 6) (.ofNat 2) := fun τ => by kernel_rfl
theorem w51 : LawT [(s40, false), (s1, true)] (.ofNat 0) (.ofNat 6) (.ofNat 3) := fun τ => by kernel_rfl
theorem w52 : LawT [(s41, false), (s1, true)] (.ofNat 0) (.ofNat 6) (.ofNat 4) := fun τ => by kernel_rfl
theorem w53 : LawT [(s42, false), (s1, true)] (.ofNat 0) (.ofNat 6) (.ofNat 5) := fun τ => by kernel_rfl
theorem w54 (m : Nat) : LawT [] (.ofNat 0) (.ofNat 6) (.negSucc m) := fun τ => by kernel_rfl
theorem w55 (m : Nat) : LawT [] (.ofNat 0) (.ofNat 6) (.ofNat (Nat.succ (Nat.succ (Nat.succ (Nat.succ (Nat.succ (Nat.succ m))))))) := fun τ => by kernel_rfl
theorem w56 (m : Nat) (c : Int) : LawT [] (.ofNat 0) (.negSucc m) c := fun τ => by kernel_rfl
theorem w57 (m : Nat) (c : Int) : LawT [] (.ofNat 0) (.ofNat (Nat.succ (Nat.succ (Nat.succ (Nat.succ (Nat.succ (Nat.succ (Nat.succ m)))))))) c := fun τ => by kernel_rfl
theorem w58 : LawT [(s43, false), (s44, true)] (.ofNat 1) (.ofNat 0) (.ofNat 0) := fun τ => by kernel_rfl
theorem w59 : LawT [(s45, false), (s44, true)] (.ofNat 1) (.ofNat 0) (.ofNat 1) := fun τ => by kernel_rfl
theorem w60 : LawT [(s46, false), (s44, true)] (.ofNat 1) (.ofNat 0) (.ofNat 2) := fun τ => by kernel_rfl
theorem w61 : LawT [(s47, false), (s44, true)] (.ofNat 1) (.ofNat 0) (.ofNat 3) := fun τ => by kernel_rfl
theorem w62 : LawT [(s48, false), (s44, true)] (.ofNat 1) (.ofNat 0) (.ofNat 4) := fun τ => by kernel_rfl
theorem w63 : LawT [(s49, false), (s44, true)] (.ofNat 1) (.ofNat 0) (.ofNat 5) := fun τ => by kernel_rfl
theorem w64 (m : Nat) : LawT [] (.ofNat 1) (.ofNat 0) (.negSucc m) := fun τ => by kernel_rfl
theorem w65 (m : Nat) : LawT [] (.ofNat 1) (.ofNat 0) (.ofNat (Nat.succ (Nat.succ (Nat.succ (Nat.succ (Nat.succ (Nat.succ m))))))) := fun τ => by kernel_rfl
theorem w66 : LawT [(s50, true), (s44, true)] (.ofNat 1) (.ofNat 1) (.ofNat 0) := fun τ => by kernel_rfl
theorem w67 : LawT [(s51, true), (s44, true)] (.ofNat 1) (.ofNat 1) (.ofNat 1) := fun τ => by kernel_rfl
theorem w68 : LawT [(s52, true), (s44, true)] (.ofNat 1) (.ofNat 1) (.ofNat 2) := fun τ => by kernel_rfl
theorem w69 : LawT [(s53, true), (s44, true)] (.ofNat 1) (.ofNat 1) (.ofNat 3) := fun τ => by kernel_rfl
theorem w70 : LawT [(s54, true), (s44, true)] (.ofNat 1) (.ofNat 1) (.ofNat 4) := fun τ => by kernel_rfl
theorem w71 : LawT [(s55, true), (s44, true)] (.ofNat 1) (.ofNat 1) (.ofNat 5) := fun τ => by kernel_rfl
theorem w72 (m : Nat) : LawT [] (.ofNat 1) (.ofNat 1) (.negSucc m) := fun τ => by kernel_rfl
theorem w73 (m : Nat) : LawT [] (.ofNat 1) (.ofNat 1) (.ofNat (Nat.succ (Nat.succ (Nat.succ (Nat.succ (Nat.succ (Nat.succ m))))))) := fun τ => by kernel_rfl
theorem w74 : LawT [(s56, false), (s44, true)] (.ofNat 1) (.ofNat 2) (.ofNat 0) := fun τ => by kernel_rfl
theorem w75 : LawT [(s57, false), (s44, true)] (.ofNat 1) (.ofNat 2) (.ofNat 1) := fun τ => by kernel_rfl
theorem w76 : LawT [(s58, false), (s44, true)] (.ofNat 1) (.ofNat 2) (.ofNat 2) := fun τ => by kernel_rfl
theorem w77 : LawT [(s59, false), (s44, true)] (.ofNat 1) (.ofNat 2) (.ofNat 3) := fun τ => by kernel_rfl
theorem w78 : LawT [(s60, false), (s44, true)] (.ofNat 1) (.ofNat 2) (.ofNat 4) := fun τ => by kernel_rfl
theorem w79 : LawT [(s61, false), (s44, true)] (.ofNat 1) (.ofNat 2) (.ofNat 5) := fun τ => by kernel_rfl
theorem w80 (m : Nat) : LawT [] (.ofNat 1) (.ofNat 2) (.negSucc m) := fun τ => by kernel_rfl
theorem w81 (m : Nat) : LawT [] (.ofNat 1) (.ofNat 2) (.ofNat (Nat.succ (Nat.succ (Nat.succ (Nat.succ (Nat.succ (Nat.succ m))))))) := fun τ => by kernel_rfl
theorem w82 : LawT [(s62, false), (s44, true)] (.ofNat 1) (.ofNat 3) (.ofNat 0) := fun τ => by kernel_rfl
theorem w83 : LawT [(s63, false), (s44, true)] (.ofNat 1) (.ofNat 3) (.ofNat 1) := fun τ => by kernel_rfl
theorem w84 : LawT [(s64, false), (s44, true)] (.ofNat 1) (.ofNat 3) (.ofNat 2) := fun τ => by kernel_rfl
theorem w85 : LawT [(s65, false), (s44, true)] (.ofNat 1) (.ofNat 3) (.ofNat 3) := fun τ => by kernel_rfl
theorem w86 : LawT [(s66, false), (s44, true)] (.ofNat 1) (.ofNat 3) (.ofNat 4) := fun τ => by kernel_rfl
theorem w87 : LawT [(s67, false), (s44, true)] (.ofNat 1) (.ofNat 3) (.ofNat 5) := fun τ => by kernel_rfl
theorem w88 (m : Nat) : LawT [] (.ofNat 1) (.ofNat 3) (.negSucc m) := fun τ => by kernel_rfl
theorem w89 (m : Nat) : LawT [] (.ofNat 1) (.ofNat 3) (.ofNat (Nat.succ (Nat.succ (Nat.succ (Nat.succ (Nat.succ (Nat.succ m))))))) := fun τ => by kernel_rfl
theorem w90 : LawT [(s68, false), (s44, true)] (.ofNat 1) (.ofNat 4) (.ofNat 0) := fun τ => by kernel_rfl
theorem w91 : LawT [(s69, false), (s44, true)] (.ofNat 1) (.ofNat 4) (.ofNat 1) := fun τ => by kernel_rfl
theorem w92 : LawT [(s70, false), (s44, true)] (.ofNat 1) (.ofNat 4) (.ofNat 2) := fun τ => by kernel_rfl
theorem w93 : LawT [(s71, false), (s44, true)] (.ofNat 1) (.ofNat 4) (.ofNat 3) := fun τ => by kernel_rfl
theorem w94 : LawT [(s72, false), (s44, true)] (.ofNat 1) (.ofNat 4) (.ofNat 4) := fun τ => by kernel_rfl
theorem w95 : LawT [(s73, false), (s44, true)] (.ofNat 1) (.ofNat 4) (.ofNat 5) := fun τ => by kernel_rfl
theorem w96 (m : Nat) : LawT [] (.ofNat 1) (.ofNat 4) (.negSucc m) := fun τ => by kernel_rfl
theorem w97 (m : Nat) : LawT [] (.ofNat 1) (.ofNat 4) (.ofNat (Nat.succ (Nat.succ (Nat.succ (Nat.succ (Nat.succ (Nat.succ m))))))) := fun τ => by kernel_rfl
theorem w98 : LawT [(s74, false), (s44, true)] (.ofNat 1) (.ofNat 5) (.ofNat 0) := fun τ => by kernel_rfl
theorem w99 : LawT [(s75, false), (s44, true)] (.ofNat 1) (.ofNat 5) (.ofNat 1) := fun τ => by kernel_rfl
theorem w100 : LawT [(s76, false), (s44, true)] (.ofNat 1) (.ofNat 5) (.ofNat 2) := fun τ => by kernel_rfl
theorem w101 : LawT [(s77, false), (s44, true)] (.ofNat 1) (.ofNat 5) (.ofNat 3) := fun τ => by kernel_rfl
theorem w102 : LawT [(s78, false), (s44, true)] (.ofNat 1) (.ofNat 5) (.ofNat 4) := fun τ => by kernel_rfl
theorem w103 : LawT [(s79, false), (s44, true)] (.ofNat 1) (.ofNat 5) (.ofNat 5) := fun τ => by kernel_rfl
theorem w104 (m : Nat) : LawT [] (.ofNat 1) (.ofNat 5) (.negSucc m) := fun τ => by kernel_rfl
theorem w105 (m : Nat) : LawT [] (.ofNat 1) (.ofNat 5) (.ofNat (Nat.succ (Nat.succ (Nat.succ (Nat.succ (Nat.succ (Nat.succ m))))))) := fun τ => by kernel_rfl
theorem w106 : LawT [(s80, false), (s44, true)] (.ofNat 1) (.ofNat 6) (.ofNat 0) := fun τ => by kernel_rfl
theorem w107 : LawT [(s81, false), (s44, true)] (.ofNat 1) (.ofNat 6) (.ofNat 1) := fun τ => by kernel_rfl
theorem w108 : LawT [(s82, false), (s44, true)] (.ofNat 1) (.ofNat 6) (.ofNat 2) := fun τ => by kernel_rfl
theorem w109 : LawT [(s83, false), (s44, true)] (.ofNat 1) (.ofNat 6) (.ofNat 3) := fun τ => by kernel_rfl
theorem w110 : LawT [(s84, false), (s44, true)] (.ofNat 1) (.ofNat 6) (.ofNat 4) := fun τ => by kernel_rfl
theorem w111 : LawT [(s85, false), (s44, true)] (.ofNat 1) (.ofNat 6) (.ofNat 5) := fun τ => by kernel_rfl
theorem w112 (m : Nat) : LawT [] (.ofNat 1) (.ofNat 6) (.negSucc m) := fun τ => by kernel_rfl
theorem w113 (m : Nat) : LawT [] (.ofNat 1) (.ofNat 6) (.ofNat (Nat.succ (Nat.succ (Nat.succ (Nat.succ (Nat.succ (Nat.succ m))))))) := fun τ => by kernel_rfl
theorem w114 (m : Nat) (c : Int) : LawT [] (.ofNat 1) (.negSucc m) c := fun τ => by kernel_rfl
theorem w115 (m : Nat) (c : Int) : LawT [] (.ofNat 1) (.ofNat (Nat.succ (Nat.succ (Nat.succ (Nat.succ (Nat.succ (Nat.succ (Nat.succ m)))))))) c := fun τ => by kernel_rfl
theorem w116 : LawT [(s86, false), (s87, true)] (.ofNat 2) (.ofNat 0) (.ofNat 0) := fun τ => by kernel_rfl
end Go.Proofs.YtimopcpbakanmaaGreatDoor
