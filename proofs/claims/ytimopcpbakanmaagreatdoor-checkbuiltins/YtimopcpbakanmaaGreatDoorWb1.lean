import Derived.Test.YtimopcpbakanmaaGreatDoorP2b
set_option linter.all false
namespace Go.Proofs.YtimopcpbakanmaaGreatDoor
open Go Ex
theorem w31 : LawT [(s50, false), (s51, false)] (.ofNat 3) (.ofNat 1) := fun τ => by kernel_rfl
theorem w32 : LawT [(s52, false), (s53, true)] (.ofNat 3) (.ofNat 2) := fun τ => by kernel_rfl
theorem w33 : LawT [(s54, false), (s55, false)] (.ofNat 3) (.ofNat 3) := fun τ => by kernel_rfl
theorem w34 : LawT [(s56, false), (s57, false)] (.ofNat 3) (.ofNat 4) := fun τ => by kernel_rfl
theorem w35 : LawT [(s58, false), (s59, false)] (.ofNat 3) (.ofNat 5) := fun τ => by kernel_rfl
theorem w36 : LawT [(s60, false), (s61, false)] (.ofNat 3) (.ofNat 6) := fun τ => by kernel_rfl
theorem w37 : LawT [(s62, false), (s63, false)] (.ofNat 3) (.ofNat 7) := fun τ => by kernel_rfl
theorem w38 (m : Nat) : LawT [] (.ofNat 3) (.negSucc m) := fun τ => by kernel_rfl
theorem w39 (m : Nat) : LawT [] (.ofNat 3) (.ofNat (Nat.succ (Nat.succ (Nat.succ (Nat.succ (Nat.succ (Nat.succ (Nat.succ (Nat.succ m))))))))) := fun τ => by kernel_rfl
theorem w40 : LawT [(s64, false), (s65, true)] (.ofNat 4) (.ofNat 0) := fun τ => by kernel_rfl
theorem w41 : LawT [(s66, false), (s67, true)] (.ofNat 4) (.ofNat 1) := fun τ => by kernel_rfl
theorem w42 : LawT [(s68, false), (s69, true)] (.ofNat 4) (.ofNat 2) := fun τ => by kernel_rfl
theorem w43 : LawT [(s70, false), (s71, false)] (.ofNat 4) (.ofNat 3) := fun τ => by kernel_rfl
theorem w44 : LawT [(s72, false), (s73, false)] (.ofNat 4) (.ofNat 4) := fun τ => by kernel_rfl
theorem w45 : LawT [(s74, false), (s75, false)] (.ofNat 4) (.ofNat 5) := fun τ => by kernel_rfl
theorem w46 : LawT [(s76, false), (s77, false)] (.ofNat 4) (.ofNat 6) := fun τ => by kernel_rfl
theorem w47 : LawT [(s78, false), (s79, false)] (.ofNat 4) (.ofNat 7) := fun τ => by kernel_rfl
theorem w48 (m : Nat) : LawT [] (.ofNat 4) (.negSucc m) := fun τ => by kernel_rfl
theorem w49 (m : Nat) : LawT [] (.ofNat 4) (.ofNat (Nat.succ (Nat.succ (Nat.succ (Nat.succ (Nat.succ (Nat.succ (Nat.succ (Nat.succ m))))))))) := fun τ => by kernel_rfl
theorem w50 : LawT [(s80, false), (s81, false)] (.ofNat 5) (.ofNat 0) := fun τ => by kernel_rfl
theorem w51 : LawT [(s82, false), (s83, false)] (.ofNat 5) (.ofNat 1) := fun τ => by kernel_rfl
theorem w52 : LawT [(s84, false), (s85, false)] (.ofNat 5) (.ofNat 2) := fun τ => by kernel_rfl
theorem w53 : LawT [(s86, false), (s87, false)] (.ofNat 5) (.ofNat 3) := fun τ => by kernel_rfl
theorem w54 : LawT [(s88, true), (s89, false)] (.ofNat 5) (.ofNat 4) := fun τ => by kernel_rfl
theorem w55 : LawT [(s90, false), (s91, false)] (.ofNat 5) (.ofNat 5) := fun τ => by kernel_rfl
theorem w56 : LawT [(s92, false), (s93, false)] (.ofNat 5) (.ofNat 6) := fun τ => by kernel_rfl
theorem w57 : LawT [(s94, false), (s95, false)] (.ofNat 5) (.ofNat 7) := fun τ => by kernel_rfl
theorem w58 (m : Nat) : LawT [] (.ofNat 5) (.negSucc m) := fun τ => by kernel_rfl
theorem w59 (m : Nat) : LawT [] (.ofNat 5) (.ofNat (Nat.succ (Nat.succ (Nat.succ (Nat.succ (Nat.succ (Nat.succ (Nat.succ (Nat.succ m))))))))) := fun τ => by kernel_rfl
theorem w60 : LawT [(s96, true)] (.ofNat 6) (.ofNat 0) := fun τ => by kernel_rfl
theorem w61 : LawT [(s97, false)] (.ofNat 6) (.ofNat 1) := fun τ => by kernel_rfl
end Go.Proofs.YtimopcpbakanmaaGreatDoor
