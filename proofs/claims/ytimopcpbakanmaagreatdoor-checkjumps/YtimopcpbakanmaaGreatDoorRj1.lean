import Derived.Test.YtimopcpbakanmaaGreatDoorP2j
set_option linter.all false
namespace Go.Proofs.YtimopcpbakanmaaGreatDoor
open Go Ex
theorem e16 : SrcT s16 false := fun τ => by kernel_rfl
theorem e17 : SrcT s17 false := fun τ => by kernel_rfl
theorem e18 : SrcT s18 true := fun τ => by kernel_rfl
theorem e19 : SrcT s19 false := fun τ => by kernel_rfl
theorem e20 : SrcT s20 false := fun τ => by kernel_rfl
theorem e21 : SrcT s21 false := fun τ => by kernel_rfl
theorem e22 : SrcT s22 false := fun τ => by kernel_rfl
theorem e23 : SrcT s23 false := fun τ => by kernel_rfl
theorem e24 : SrcT s24 true := fun τ => by kernel_rfl
theorem e25 : SrcT s25 false := fun τ => by kernel_rfl
theorem e26 : SrcT s26 true := fun τ => by kernel_rfl
theorem e27 : SrcT s27 false := fun τ => by kernel_rfl
theorem e28 : SrcT s28 false := fun τ => by kernel_rfl
theorem e29 : SrcT s29 true := fun τ => by kernel_rfl
theorem e30 : SrcT s30 true := fun τ => by kernel_rfl
theorem e31 : SrcT s31 false := fun τ => by kernel_rfl
end Go.Proofs.YtimopcpbakanmaaGreatDoor
