import Derived.Test.YtimopcpbakanmaaGreatDoorP2
set_option linter.all false
namespace Go.Proofs.YtimopcpbakanmaaGreatDoor
open Go Ex
theorem e5 : SrcT s5 true := fun τ => by kernel_rfl
theorem e11 : SrcT s11 true := fun τ => by kernel_rfl
theorem e17 : SrcT s17 true := fun τ => by kernel_rfl
theorem e23 : SrcT s23 true := fun τ => by kernel_rfl
theorem e29 : SrcT s29 true := fun τ => by kernel_rfl
end Go.Proofs.YtimopcpbakanmaaGreatDoor
