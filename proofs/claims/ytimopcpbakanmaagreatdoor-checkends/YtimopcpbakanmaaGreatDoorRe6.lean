import Derived.Test.YtimopcpbakanmaaGreatDoorP2e
set_option linter.all false
namespace Go.Proofs.YtimopcpbakanmaaGreatDoor
open Go Ex
theorem e72 : SrcT s72 true := fun τ => by kernel_rfl
theorem e73 : SrcT s73 true := fun τ => by kernel_rfl
theorem e74 : SrcT s74 false := fun τ => by kernel_rfl
theorem e75 : SrcT s75 false := fun τ => by kernel_rfl
theorem e76 : SrcT s76 false := fun τ => by kernel_rfl
theorem e77 : SrcT s77 false := fun τ => by kernel_rfl
theorem e78 : SrcT s78 false := fun τ => by kernel_rfl
theorem e79 : SrcT s79 false := fun τ => by kernel_rfl
theorem e80 : SrcT s80 false := fun τ => by kernel_rfl
theorem e81 : SrcT s81 false := fun τ => by kernel_rfl
theorem e82 : SrcT s82 false := fun τ => by kernel_rfl
theorem e83 : SrcT s83 true := fun τ => by kernel_rfl
end Go.Proofs.YtimopcpbakanmaaGreatDoor
