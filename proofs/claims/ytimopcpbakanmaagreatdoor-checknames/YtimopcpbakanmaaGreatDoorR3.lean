import Derived.Test.YtimopcpbakanmaaGreatDoorP2
set_option linter.all false
namespace Go.Proofs.YtimopcpbakanmaaGreatDoor
open Go Ex
theorem e3 : SrcT s3 true := fun τ => by kernel_rfl
theorem e9 : SrcT s9 true := fun τ => by kernel_rfl
theorem e15 : SrcT s15 true := fun τ => by kernel_rfl
theorem e21 : SrcT s21 false := fun τ => by kernel_rfl
theorem e27 : SrcT s27 true := fun τ => by kernel_rfl
end Go.Proofs.YtimopcpbakanmaaGreatDoor
