import Derived.Test.YtimopcpbakanmaaGreatDoorP2e
set_option linter.all false
namespace Go.Proofs.YtimopcpbakanmaaGreatDoor
open Go Ex
theorem e24 : SrcT s24 false := fun τ => by kernel_rfl
theorem e25 : SrcT s25 false := fun τ => by kernel_rfl
theorem e26 : SrcT s26 false := fun τ => by kernel_rfl
theorem e27 : SrcT s27 false := fun τ => by kernel_rfl
theorem e28 : SrcT s28 false := fun τ => by kernel_rfl
theorem e29 : SrcT s29 false := fun τ => by kernel_rfl
theorem e30 : SrcT s30 false := fun τ => by kernel_rfl
theorem e31 : SrcT s31 false := fun τ => by kernel_rfl
theorem e32 : SrcT s32 true := fun τ => by kernel_rfl
theorem e33 : SrcT s33 true := fun τ => by kernel_rfl
theorem e34 : SrcT s34 true := fun τ => by kernel_rfl
theorem e35 : SrcT s35 false := fun τ => by kernel_rfl
end Go.Proofs.YtimopcpbakanmaaGreatDoor
