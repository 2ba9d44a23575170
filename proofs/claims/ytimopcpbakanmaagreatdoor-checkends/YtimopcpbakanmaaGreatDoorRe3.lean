import Derived.Test.YtimopcpbakanmaaGreatDoorP2e
set_option linter.all false
namespace Go.Proofs.YtimopcpbakanmaaGreatDoor
open Go Ex
theorem e36 : SrcT s36 false := fun τ => by kernel_rfl
theorem e37 : SrcT s37 false := fun τ => by kernel_rfl
theorem e38 : SrcT s38 false := fun τ => by kernel_rfl
theorem e39 : SrcT s39 false := fun τ => by kernel_rfl
theorem e40 : SrcT s40 true := fun τ => by kernel_rfl
theorem e41 : SrcT s41 true := fun τ => by kernel_rfl
theorem e42 : SrcT s42 true := fun τ => by kernel_rfl
theorem e43 : SrcT s43 false := fun τ => by kernel_rfl
theorem e44 : SrcT s44 false := fun τ => by kernel_rfl
theorem e45 : SrcT s45 false := fun τ => by kernel_rfl
theorem e46 : SrcT s46 false := fun τ => by kernel_rfl
theorem e47 : SrcT s47 false := fun τ => by kernel_rfl
end Go.Proofs.YtimopcpbakanmaaGreatDoor
