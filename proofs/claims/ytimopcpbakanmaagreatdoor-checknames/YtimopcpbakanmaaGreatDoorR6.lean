import Derived.Test.YtimopcpbakanmaaGreatDoorP2
set_option linter.all false
namespace Go.Proofs.YtimopcpbakanmaaGreatDoor
open Go Ex
theorem w0 : LawT (.ofNat 0) (.ofNat 0) := fun τ => by kernel_rfl
theorem w1 : LawT (.ofNat 0) (.ofNat 1) := fun τ => by kernel_rfl
theorem w2 : LawT (.ofNat 0) (.ofNat 2) := fun τ => by kernel_rfl
theorem w3 : LawT (.ofNat 1) (.ofNat 0) := fun τ => by kernel_rfl
theorem w4 : LawT (.ofNat 1) (.ofNat 1) := fun τ => by kernel_rfl
theorem w5 : LawT (.ofNat 1) (.ofNat 2) := fun τ => by kernel_rfl
theorem w6 : LawT (.ofNat 2) (.ofNat 0) := fun τ => by kernel_rfl
theorem w7 : LawT (.ofNat 2) (.ofNat 1) := fun τ => by kernel_rfl
theorem w8 : LawT (.ofNat 2) (.ofNat 2) := fun τ => by kernel_rfl
theorem w9 (m : Nat) : LawT (.ofNat 0) (.negSucc m) := fun τ => by kernel_rfl
theorem w10 (m : Nat) : LawT (.ofNat 0) (.ofNat (Nat.succ (Nat.succ (Nat.succ m)))) := fun τ => by kernel_rfl
theorem w11 (m : Nat) : LawT (.ofNat 1) (.negSucc m) := fun τ => by kernel_rfl
theorem w12 (m : Nat) : LawT (.ofNat 1) (.ofNat (Nat.succ (Nat.succ (Nat.succ m)))) := fun τ => by kernel_rfl
theorem w13 (m : Nat) : LawT (.ofNat 2) (.negSucc m) := fun τ => by kernel_rfl
theorem w14 (m : Nat) : LawT (.ofNat 2) (.ofNat (Nat.succ (Nat.succ (Nat.succ m)))) := fun τ => by kernel_rfl
theorem w15 (m : Nat) (b : Int) : LawT (.negSucc m) b := fun τ => by kernel_rfl
theorem w16 (m : Nat) (b : Int) : LawT (.ofNat (Nat.succ (Nat.succ (Nat.succ m)))) b := fun τ => by kernel_rfl
end Go.Proofs.YtimopcpbakanmaaGreatDoor
