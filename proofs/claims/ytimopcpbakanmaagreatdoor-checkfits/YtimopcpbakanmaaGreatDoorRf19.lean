import Derived.Test.YtimopcpbakanmaaGreatDoorP2f
set_option linter.all false
namespace Go.Proofs.YtimopcpbakanmaaGreatDoor
open Go Ex
theorem e228 : SrcT s228 false := fun τ => by kernel_rfl
theorem e229 : SrcT s229 false := fun τ => by kernel_rfl
theorem e230 : SrcT s230 false := fun τ => by kernel_rfl
theorem e231 : SrcT s231 false := fun τ => by kernel_rfl
theorem e232 : SrcT s232 false := fun τ => by kernel_rfl
theorem e233 : SrcT s233 false := fun τ => by kernel_rfl
theorem e234 : SrcT s234 false := fun τ => by kernel_rfl
theorem e235 : SrcT s235 false := fun τ => by kernel_rfl
theorem e236 : SrcT s236 false := fun τ => by kernel_rfl
theorem e237 : SrcT s237 false := fun τ => by kernel_rfl
theorem e238 : SrcT s238 false := fun τ => by kernel_rfl
theorem e239 : SrcT s239 false := fun τ => by kernel_rfl
end Go.Proofs.YtimopcpbakanmaaGreatDoor
