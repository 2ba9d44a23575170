import Derived.Test.YtimopcpbakanmaaGreatDoorP2b
set_option linter.all false
namespace Go.Proofs.YtimopcpbakanmaaGreatDoor
open Go Ex
theorem w62 : LawT [(s98, false)] (.ofNat 6) (.ofNat 2) := fun τ => by kernel_rfl
theorem w63 : LawT [(s99, false)] (.ofNat 6) (.ofNat 3) := fun τ => by kernel_rfl
theorem w64 : LawT [(s100, false)] (.ofNat 6) (.ofNat 4) := fun τ => by kernel_rfl
theorem w65 : LawT [(s101, false)] (.ofNat 6) (.ofNat 5) := fun τ => by kernel_rfl
theorem w66 : LawT [(s102, false)] (.ofNat 6) (.ofNat 6) := fun τ => by kernel_rfl
theorem w67 : LawT [(s103, false)] (.ofNat 6) (.ofNat 7) := fun τ => by kernel_rfl
theorem w68 (m : Nat) : LawT [] (.ofNat 6) (.negSucc m) := fun τ => by kernel_rfl
theorem w69 (m : Nat) : LawT [] (.ofNat 6) (.ofNat (Nat.succ (Nat.succ (Nat.succ (Nat.succ (Nat.succ (Nat.succ (Nat.succ (Nat.succ m))))))))) := fun τ => by kernel_rfl
theorem w70 : LawT [(s104, true)] (.ofNat 7) (.ofNat 0) := fun τ => by kernel_rfl
theorem w71 : LawT [(s105, false)] (.ofNat 7) (.ofNat 1) := fun τ => by kernel_rfl
theorem w72 : LawT [(s106, false)] (.ofNat 7) (.ofNat 2) := fun τ => by kernel_rfl
theorem w73 : LawT [(s107, false)] (.ofNat 7) (.ofNat 3) := fun τ => by kernel_rfl
theorem w74 : LawT [(s108, false)] (.ofNat 7) (.ofNat 4) := fun τ => by kernel_rfl
theorem w75 : LawT [(s109, false)] (.ofNat 7) (.ofNat 5) := fun τ => by kernel_rfl
theorem w76 : LawT [(s110, false)] (.ofNat 7) (.ofNat 6) := fun τ => by kernel_rfl
theorem w77 : LawT [(s111, false)] (.ofNat 7) (.ofNat 7) := fun τ => by kernel_rfl
theorem w78 (m : Nat) : LawT [] (.ofNat 7) (.negSucc m) := fun τ => by kernel_rfl
theorem w79 (m : Nat) : LawT [] (.ofNat 7) (.ofNat (Nat.succ (Nat.succ (Nat.succ (Nat.succ (Nat.succ (Nat.succ (Nat.succ (Nat.succ m))))))))) := fun τ => by kernel_rfl
theorem w80 : LawT [(s112, false), (s113, false)] (.ofNat 8) (.ofNat 0) := fun τ => by kernel_rfl
theorem w81 : LawT [(s114, false), (s115, false)] (.ofNat 8) (.ofNat 1) := fun τ => by kernel_rfl
theorem w82 : LawT [(s116, false), (s117, false)] (.ofNat 8) (.ofNat 2) := fun τ => by kernel_rfl
theorem w83 : LawT [(s118, false), (s119, false)] (.ofNat 8) (.ofNat 3) := fun τ => by kernel_rfl
theorem w84 : LawT [(s120, false), (s121, false)] (.ofNat 8) (.ofNat 4) := fun τ => by kernel_rfl
theorem w85 : LawT [(s122, true), (s123, true)] (.ofNat 8) (.ofNat 5) := fun τ => by kernel_rfl
theorem w86 : LawT [(s124, false), (s125, false)] (.ofNat 8) (.ofNat 6) := fun τ => by kernel_rfl
theorem w87 : LawT [(s126, false), (s127, false)] (.ofNat 8) (.ofNat 7) := fun τ => by kernel_rfl
theorem w88 (m : Nat) : LawT [] (.ofNat 8) (.negSucc m) := fun τ => by kernel_rfl
theorem w89 (m : Nat) : LawT [] (.ofNat 8) (.ofNat (Nat.succ (Nat.succ (Nat.succ (Nat.succ (Nat.succ (Nat.succ (Nat.succ (Nat.succ m))))))))) := fun τ => by kernel_rfl
theorem w90 (m : Nat) (b : Int) : LawT [] (.negSucc m) b := fun τ => by kernel_rfl
theorem w91 (m : Nat) (b : Int) : LawT [] (.ofNat (Nat.succ (Nat.succ (Nat.succ (Nat.succ (Nat.succ (Nat.succ (Nat.succ (Nat.succ (Nat.succ m)))))))))) b := fun τ => by kernel_rfl
end Go.Proofs.YtimopcpbakanmaaGreatDoor
