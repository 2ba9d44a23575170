import Derived.Test.YtimopcpbakanmaaGreatDoorP2j
set_option linter.all false
namespace Go.Proofs.YtimopcpbakanmaaGreatDoor
open Go Ex
theorem w0 : LawT [(s0, false)] (.ofNat 0) (.ofNat 0) := fun τ => by kernel_rfl
theorem w1 : LawT [(s1, false)] (.ofNat 0) (.ofNat 1) := fun τ => by kernel_rfl
theorem w2 : LawT [(s2, false)] (.ofNat 0) (.ofNat 2) := fun τ => by kernel_rfl
theorem w3 : LawT [(s3, false)] (.ofNat 0) (.ofNat 3) := fun τ => by kernel_rfl
theorem w4 : LawT [(s4, false)] (.ofNat 0) (.ofNat 4) := fun τ => by kernel_rfl
theorem w5 : LawT [(s5, false)] (.ofNat 0) (.ofNat 5) := fun τ => by kernel_rfl
theorem w6 (m : Nat) : LawT [] (.ofNat 0) (.negSucc m) := fun τ => by kernel_rfl
theorem w7 (m : Nat) : LawT [] (.ofNat 0) (.ofNat (Nat.succ (Nat.succ (Nat.succ (Nat.succ (Nat.succ (Nat.succ m))))))) := fun τ => by kernel_rfl
theorem w8 : LawT [(s6, true)] (.ofNat 1) (.ofNat 0) := fun τ => by kernel_rfl
theorem w9 : LawT [(s7, true)] (.ofNat 1) (.ofNat 1) := fun τ => by kernel_rfl
theorem w10 : LawT [(s8, false)] (.ofNat 1) (.ofNat 2) := fun τ => by kernel_rfl
theorem w11 : LawT [(s9, false)] (.ofNat 1) (.ofNat 3) := fun τ => by kernel_rfl
theorem w12 : LawT [(s10, false)] (.ofNat 1) (.ofNat 4) := fun τ => by kernel_rfl
theorem w13 : LawT [(s11, false)] (.ofNat 1) (.ofNat 5) := fun τ => by kernel_rfl
theorem w14 (m : Nat) : LawT [] (.ofNat 1) (.negSucc m) := fun τ => by kernel_rfl
theorem w15 (m : Nat) : LawT [] (.ofNat 1) (.ofNat (Nat.succ (Nat.succ (Nat.succ (Nat.succ (Nat.succ (Nat.succ m))))))) := fun τ => by kernel_rfl
theorem w16 : LawT [(s12, true)] (.ofNat 2) (.ofNat 0) := fun τ => by kernel_rfl
theorem w17 : LawT [(s13, true)] (.ofNat 2) (.ofNat 1) := fun τ => by kernel_rfl
theorem w18 : LawT [(s14, true)] (.ofNat 2) (.ofNat 2) := fun τ => by kernel_rfl
theorem w19 : LawT [(s15, true)] (.ofNat 2) (.ofNat 3) := fun τ => by kernel_rfl
theorem w20 : LawT [(s16, false)] (.ofNat 2) (.ofNat 4) := fun τ => by kernel_rfl
theorem w21 : LawT [(s17, false)] (.ofNat 2) (.ofNat 5) := fun τ => by kernel_rfl
theorem w22 (m : Nat) : LawT [] (.ofNat 2) (.negSucc m) := fun τ => by kernel_rfl
theorem w23 (m : Nat) : LawT [] (.ofNat 2) (.ofNat (Nat.succ (Nat.succ (Nat.succ (Nat.succ (Nat.succ (Nat.succ m))))))) := fun τ => by kernel_rfl
theorem w24 : LawT [(s18, true)] (.ofNat 3) (.ofNat 0) := fun τ => by kernel_rfl
theorem w25 : LawT [(s19, false)] (.ofNat 3) (.ofNat 1) := fun τ => by kernel_rfl
theorem w26 : LawT [(s20, false)] (.ofNat 3) (.ofNat 2) := fun τ => by kernel_rfl
theorem w27 : LawT [(s21, false)] (.ofNat 3) (.ofNat 3) := fun τ => by kernel_rfl
theorem w28 : LawT [(s22, false)] (.ofNat 3) (.ofNat 4) := fun τ => by kernel_rfl
theorem w29 : LawT [(s23, false)] (.ofNat 3) (.ofNat 5) := fun τ => by kernel_rfl
theorem w30 (m : Nat) : LawT [] (.ofNat 3) (.negSucc m) := fun τ => by kernel_rfl
theorem w31 (m : Nat) : LawT [] (.ofNat 3) (.ofNat (Nat.succ (Nat.succ (Nat.succ (Nat.succ (Nat.succ (Nat.succ m))))))) := fun τ => by kernel_rfl
theorem w32 : LawT [(s24, true)] (.ofNat 4) (.ofNat 0) := fun τ => by kernel_rfl
theorem w33 : LawT [(s25, false)] (.ofNat 4) (.ofNat 1) := fun τ => by kernel_rfl
theorem w34 : LawT [(s26, true)] (.ofNat 4) (.ofNat 2) := fun τ => by kernel_rfl
theorem w35 : LawT [(s27, false)] (.ofNat 4) (.ofNat 3) := fun τ => by kernel_rfl
theorem w36 : LawT [(s28, false)] (.ofNat 4) (.ofNat 4) := fun τ => by kernel_rfl
theorem w37 : LawT [(s29, true)] (.ofNat 4) (.ofNat 5) := fun τ => by kernel_rfl
theorem w38 (m : Nat) : LawT [] (.ofNat 4) (.negSucc m) := fun τ => by kernel_rfl
theorem w39 (m : Nat) : LawT [] (.ofNat 4) (.ofNat (Nat.succ (Nat.succ (Nat.succ (Nat.succ (Nat.succ (Nat.succ m))))))) := fun τ => by kernel_rfl
theorem w40 : LawT [(s30, true)] (.ofNat 5) (.ofNat 0) := fun τ => by kernel_rfl
theorem w41 : LawT [(s31, false)] (.ofNat 5) (.ofNat 1) := fun τ => by kernel_rfl
theorem w42 : LawT [(s32, false)] (.ofNat 5) (.ofNat 2) := fun τ => by kernel_rfl
theorem w43 : LawT [(s33, false)] (.ofNat 5) (.ofNat 3) := fun τ => by kernel_rfl
theorem w44 : LawT [(s34, false)] (.ofNat 5) (.ofNat 4) := fun τ => by kernel_rfl
theorem w45 : LawT [(s35, false)] (.ofNat 5) (.ofNat 5) := fun τ => by kernel_rfl
theorem w46 (m : Nat) : LawT [] (.ofNat 5) (.negSucc m) := fun τ => by kernel_rfl
theorem w47 (m : Nat) : LawT [] (.ofNat 5) (.ofNat (Nat.succ (Nat.succ (Nat.succ (Nat.succ (Nat.succ (Nat.succ m))))))) := fun τ => by kernel_rfl
theorem w48 : LawT [(s36, false)] (.ofNat 6) (.ofNat 0) := fun τ => by kernel_rfl
theorem w49 : LawT [(s37, false)] (.ofNat 6) (.ofNat 1) := fun τ => by kernel_rfl
theorem w50 : LawT [(s38, false)] (.ofNat 6) (.ofNat 2) := fun τ => by kernel_rfl
theorem w51 : LawT [(s39, false)] (.ofNat 6) (.ofNat 3) := fun τ => by kernel_rfl
theorem w52 : LawT [(s40, false)] (.ofNat 6) (.ofNat 4) := fun τ => by kernel_rfl
theorem w53 : LawT [(s41, false)] (.ofNat 6) (.ofNat 5) := fun τ => by kernel_rfl
theorem w54 (m : Nat) : LawT [] (.ofNat 6) (.negSucc m) := fun τ => by kernel_rfl
theorem w55 (m : Nat) : LawT [] (.ofNat 6) (.ofNat (Nat.succ (Nat.succ (Nat.succ (Nat.succ (Nat.succ (Nat.succ m))))))) := fun τ => by kernel_rfl
theorem w56 : LawT [(s42, true)] (.ofNat 7) (.ofNat 0) := fun τ => by kernel_rfl
theorem w57 : LawT [(s43, true)] (.ofNat 7) (.ofNat 1) := fun τ => by kernel_rfl
theorem w58 : LawT [(s44, true)] (.ofNat 7) (.ofNat 2) := fun τ => by kernel_rfl
theorem w59 : LawT [(s45, true)] (.ofNat 7) (.ofNat 3) := fun τ => by kernel_rfl
theorem w60 : LawT [(s46, false)] (.ofNat 7) (.ofNat 4) := fun τ => by kernel_rfl
theorem w61 : LawT [(s47, true)] (.ofNat 7) (.ofNat 5) := fun τ => by kernel_rfl
theorem w62 (m : Nat) : LawT [] (.ofNat 7) (.negSucc m) := fun τ => by kernel_rfl
theorem w63 (m : Nat) : LawT [] (.ofNat 7) (.ofNat (Nat.succ (Nat.succ (Nat.succ (Nat.succ (Nat.succ (Nat.succ m))))))) := fun τ => by kernel_rfl
theorem w64 (m : Nat) (b : Int) : LawT [] (.negSucc m) b := fun τ => by kernel_rfl
theorem w65 (m : Nat) (b : Int) : LawT [] (.ofNat (Nat.succ (Nat.succ (Nat.succ (Nat.succ (Nat.succ (Nat.succ (Nat.succ (Nat.succ m))))))))) b := fun τ => by kernel_rfl
end Go.Proofs.YtimopcpbakanmaaGreatDoor
