import Derived.Test.YtimopcpbakanmaaGreatDoorP2
set_option linter.all false
namespace Go.Proofs.YtimopcpbakanmaaGreatDoor
open Go Ex
theorem e0 : SrcT s0 false := fun τ => by kernel_rfl
theorem e6 : SrcT s6 false := fun τ => by kernel_rfl
theorem e12 : SrcT s12 false := fun τ => by kernel_rfl
theorem e18 : SrcT s18 true := fun τ => by kernel_rfl
theorem e24 : SrcT s24 false := fun τ => by kernel_rfl
theorem eA : AncT := fun τ => by kernel_rfl
end Go.Proofs.YtimopcpbakanmaaGreatDoor
