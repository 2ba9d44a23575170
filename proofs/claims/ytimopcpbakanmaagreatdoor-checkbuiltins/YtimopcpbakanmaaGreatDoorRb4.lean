import Derived.Test.YtimopcpbakanmaaGreatDoorP2b
set_option linter.all false
namespace Go.Proofs.YtimopcpbakanmaaGreatDoor
open Go Ex
theorem e40 : SrcT s40 false := fun τ => by kernel_rfl
theorem e41 : SrcT s41 false := fun τ => by kernel_rfl
theorem e42 : SrcT s42 false := fun τ => by kernel_rfl
theorem e43 : SrcT s43 true := fun τ => by kernel_rfl
theorem e44 : SrcT s44 false := fun τ => by kernel_rfl
theorem e45 : SrcT s45 false := fun τ => by kernel_rfl
theorem e46 : SrcT s46 false := fun τ => by kernel_rfl
theorem e47 : SrcT s47 false := fun τ => by kernel_rfl
theorem e48 : SrcT s48 false := fun τ => by kernel_rfl
theorem e49 : SrcT s49 false := fun τ => by kernel_rfl
end Go.Proofs.YtimopcpbakanmaaGreatDoor
