import Derived.Test.YtimopcpbakanmaaGreatDoorP2e
set_option linter.all false
namespace Go.Proofs.YtimopcpbakanmaaGreatDoor
open Go Ex
theorem e12 : SrcT s12 false := fun τ => by kernel_rfl
theorem e13 : SrcT s13 false := fun τ => by kernel_rfl
theorem e14 : SrcT s14 false := fun τ => by kernel_rfl
theorem e15 : SrcT s15 false := fun τ => by kernel_rfl
theorem e16 : SrcT s16 false := fun τ => by kernel_rfl
theorem e17 : SrcT s17 false := fun τ => by kernel_rfl
theorem e18 : SrcT s18 false := fun τ => by kernel_rfl
theorem e19 : SrcT s19 false := fun τ => by kernel_rfl
theorem e20 : SrcT s20 true := fun τ => by kernel_rfl
theorem e21 : SrcT s21 true := fun τ => by kernel_rfl
theorem e22 : SrcT s22 true := fun τ => by kernel_rfl
theorem e23 : SrcT s23 false := fun τ => by kernel_rfl
end Go.Proofs.YtimopcpbakanmaaGreatDoor
