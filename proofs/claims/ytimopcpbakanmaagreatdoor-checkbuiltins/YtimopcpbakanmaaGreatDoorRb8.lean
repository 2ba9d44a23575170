import Derived.Test.YtimopcpbakanmaaGreatDoorP2b
set_option linter.all false
namespace Go.Proofs.YtimopcpbakanmaaGreatDoor
open Go Ex
theorem e80 : SrcT s80 false := fun τ => by kernel_rfl
theorem e81 : SrcT s81 false := fun τ => by kernel_rfl
theorem e82 : SrcT s82 false := fun τ => by kernel_rfl
theorem e83 : SrcT s83 false := fun τ => by kernel_rfl
theorem e84 : SrcT s84 false := fun τ => by kernel_rfl
theorem e85 : SrcT s85 false := fun τ => by kernel_rfl
theorem e86 : SrcT s86 false := fun τ => by kernel_rfl
theorem e87 : SrcT s87 false := fun τ => by kernel_rfl
theorem e88 : SrcT s88 true := fun τ => by kernel_rfl
theorem e89 : SrcT s89 false := fun τ => by kernel_rfl
end Go.Proofs.YtimopcpbakanmaaGreatDoor
