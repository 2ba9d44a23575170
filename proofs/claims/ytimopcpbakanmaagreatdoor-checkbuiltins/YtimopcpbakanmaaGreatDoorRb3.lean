import Derived.Test.YtimopcpbakanmaaGreatDoorP2b
set_option linter.all false
namespace Go.Proofs.YtimopcpbakanmaaGreatDoor
open Go Ex
theorem e30 : SrcT s30 false := fun τ => by kernel_rfl
theorem e31 : SrcT s31 false := fun τ => by kernel_rfl
theorem e32 : SrcT s32 false := fun τ => by kernel_rfl
theorem e33 : SrcT s33 false := fun τ => by kernel_rfl
theorem e34 : SrcT s34 false := fun τ => by kernel_rfl
theorem e35 : SrcT s35 false := fun τ => by kernel_rfl
theorem e36 : SrcT s36 false := fun τ => by kernel_rfl
theorem e37 : SrcT s37 false := fun τ => by kernel_rfl
theorem e38 : SrcT s38 false := fun τ => by kernel_rfl
theorem e39 : SrcT s39 false := fun τ => by kernel_rfl
end Go.Proofs.YtimopcpbakanmaaGreatDoor
