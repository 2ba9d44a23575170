import Derived.Test.YtimopcpbakanmaaGreatDoorP2b
set_option linter.all false
namespace Go.Proofs.YtimopcpbakanmaaGreatDoor
open Go Ex
theorem w0 : LawT [(s0, false), (s1, false)] (.ofNat 0) (.ofNat 0) := fun τ => by kernel_rfl
theorem w1 : LawT [(s2, false), (s3, false)] (.ofNat 0) (.ofNat 1) := fun τ => by kernel_rfl
theorem w2 : LawT [(s4, true), (s5, false)] (.ofNat 0) (.ofNat 2) := fun τ => by kernel_rfl
theorem w3 : LawT [(s6, false), (s7, false)] (.ofNat 0) (.ofNat 3) := fun τ => by kernel_rfl
theorem w4 : LawT [(s8, true), (s9, false)] (.ofNat 0) (.ofNat 4) := fun τ => by kernel_rfl
theorem w5 : LawT [(s10, true), (s11, false)] (.ofNat 0) (.ofNat 5) := fun τ => by kernel_rfl
theorem w6 : LawT [(s12, false), (s13, false)] (.ofNat 0) (.ofNat 6) := fun τ => by kernel_rfl
theorem w7 : LawT [(s14, false), (s15, false)] (.ofNat 0) (.ofNat 7) := fun τ => by kernel_rfl
theorem w8 (m : Nat) : LawT [] (.ofNat 0) (.negSucc m) := fun τ => by kernel_rfl
theorem w9 (m : Nat) : LawT [] (.ofNat 0) (.ofNat (Nat.succ (Nat.succ (Nat.succ (Nat.succ (Nat.succ (Nat.succ (Nat.succ (Nat.succ m))))))))) := fun τ => by kernel_rfl
theorem w10 : LawT [(s16, false), (s17, false)] (.ofNat 1) (.ofNat 0) := fun τ => by kernel_rfl
theorem w11 : LawT [(s18, false), (s19, false)] (.ofNat 1) (.ofNat 1) := fun τ => by kernel_rfl
theorem w12 : LawT [(s20, false), (s21, false)] (.ofNat 1) (.ofNat 2) := fun τ => by kernel_rfl
theorem w13 : LawT [(s22, false), (s23, false)] (.ofNat 1) (.ofNat 3) := fun τ => by kernel_rfl
theorem w14 : LawT [(s24, true), (s25, false)] (.ofNat 1) (.ofNat 4) := fun τ => by kernel_rfl
theorem w15 : LawT [(s26, true), (s27, false)] (.ofNat 1) (.ofNat 5) := fun τ => by kernel_rfl
theorem w16 : LawT [(s28, false), (s29, false)] (.ofNat 1) (.ofNat 6) := fun τ => by kernel_rfl
theorem w17 : LawT [(s30, false), (s31, false)] (.ofNat 1) (.ofNat 7) := fun τ => by kernel_rfl
theorem w18 (m : Nat) : LawT [] (.ofNat 1) (.negSucc m) := fun τ => by kernel_rfl
theorem w19 (m : Nat) : LawT [] (.ofNat 1) (.ofNat (Nat.succ (Nat.succ (Nat.succ (Nat.succ (Nat.succ (Nat.succ (Nat.succ (Nat.succ m))))))))) := fun τ => by kernel_rfl
theorem w20 : LawT [(s32, false), (s33, false)] (.ofNat 2) (.ofNat 0) := fun τ => by kernel_rfl
theorem w21 : LawT [(s34, false), (s35, false)] (.ofNat 2) (.ofNat 1) := fun τ => by kernel_rfl
theorem w22 : LawT [(s36, false), (s37, false)] (.ofNat 2) (.ofNat 2) := fun τ => by kernel_rfl
theorem w23 : LawT [(s38, false), (s39, false)] (.ofNat 2) (.ofNat 3) := fun τ => by kernel_rfl
theorem w24 : LawT [(s40, false), (s41, false)] (.ofNat 2) (.ofNat 4) := fun τ => by kernel_rfl
theorem w25 : LawT [(s42, false), (s43, true)] (.ofNat 2) (.ofNat 5) := fun τ => by kernel_rfl
theorem w26 : LawT [(s44, false), (s45, false)] (.ofNat 2) (.ofNat 6) := fun τ => by kernel_rfl
theorem w27 : LawT [(s46, false), (s47, false)] (.ofNat 2) (.ofNat 7) := fun τ => by kernel_rfl
theorem w28 (m : Nat) : LawT [] (.ofNat 2) (.negSucc m) := fun τ => by kernel_rfl
theorem w29 (m : Nat) : LawT [] (.ofNat 2) (.ofNat (Nat.succ (Nat.succ (Nat.succ (Nat.succ (Nat.succ (Nat.succ (Nat.succ (Nat.succ m))))))))) := fun τ => by kernel_rfl
theorem w30 : LawT [(s48, false), (s49, false)] (.ofNat 3) (.ofNat 0) := fun τ => by kernel_rfl
end Go.Proofs.YtimopcpbakanmaaGreatDoor
