import Derived.Test.YtimopcpbakanmaaGreatDoorP2
set_option linter.all false
namespace Go.Proofs.YtimopcpbakanmaaGreatDoor
open Go Ex
theorem e1 : SrcT s1 true := fun τ => by kernel_rfl
theorem e7 : SrcT s7 true := fun τ => by kernel_rfl
theorem e13 : SrcT s13 true := fun τ => by kernel_rfl
theorem e19 : SrcT s19 false := fun τ => by kernel_rfl
theorem e25 : SrcT s25 false := fun τ => by kernel_rfl
end Go.Proofs.YtimopcpbakanmaaGreatDoor
