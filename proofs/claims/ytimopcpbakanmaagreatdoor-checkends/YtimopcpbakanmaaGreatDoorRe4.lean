import Derived.Test.YtimopcpbakanmaaGreatDoorP2e
set_option linter.all false
namespace Go.Proofs.YtimopcpbakanmaaGreatDoor
open Go Ex
theorem e48 : SrcT s48 true := fun τ => by kernel_rfl
theorem e49 : SrcT s49 true := fun τ => by kernel_rfl
theorem e50 : SrcT s50 true := fun τ => by kernel_rfl
theorem e51 : SrcT s51 false := fun τ => by kernel_rfl
theorem e52 : SrcT s52 true := fun τ => by kernel_rfl
theorem e53 : SrcT s53 true := fun τ => by kernel_rfl
theorem e54 : SrcT s54 true := fun τ => by kernel_rfl
theorem e55 : SrcT s55 false := fun τ => by kernel_rfl
theorem e56 : SrcT s56 false := fun τ => by kernel_rfl
theorem e57 : SrcT s57 false := fun τ => by kernel_rfl
theorem e58 : SrcT s58 false := fun τ => by kernel_rfl
theorem e59 : SrcT s59 false := fun τ => by kernel_rfl
end Go.Proofs.YtimopcpbakanmaaGreatDoor
