import Derived.Test.YtimopcpbakanmaaGreatDoorP2
set_option linter.all false
namespace Go.Proofs.YtimopcpbakanmaaGreatDoor
open Go Ex
theorem e2 : SrcT s2 false := fun τ => by kernel_rfl
theorem e8 : SrcT s8 false := fun τ => by kernel_rfl
theorem e14 : SrcT s14 false := fun τ => by kernel_rfl
theorem e20 : SrcT s20 false := fun τ => by kernel_rfl
theorem e26 : SrcT s26 false := fun τ => by kernel_rfl
end Go.Proofs.YtimopcpbakanmaaGreatDoor
