import Derived.Test.YtimopcpbakanmaaGreatDoorP2
set_option linter.all false
namespace Go.Proofs.YtimopcpbakanmaaGreatDoor
open Go Ex
theorem e4 : SrcT s4 false := fun τ => by kernel_rfl
theorem e10 : SrcT s10 false := fun τ => by kernel_rfl
theorem e16 : SrcT s16 false := fun τ => by kernel_rfl
theorem e22 : SrcT s22 false := fun τ => by kernel_rfl
theorem e28 : SrcT s28 false := fun τ => by kernel_rfl
end Go.Proofs.YtimopcpbakanmaaGreatDoor
