import Derived.Test.YtimopcpbakanmaaGreatDoorP2f
set_option linter.all false
namespace Go.Proofs.YtimopcpbakanmaaGreatDoor
open Go Ex
theorem e276 : SrcT s276 false := fun τ => by kernel_rfl
theorem e277 : SrcT s277 false := fun τ => by kernel_rfl
theorem e278 : SrcT s278 false := fun τ => by kernel_rfl
theorem e279 : SrcT s279 false := fun τ => by kernel_rfl
theorem e280 : SrcT s280 false := fun τ => by kernel_rfl
theorem e281 : SrcT s281 false := fun τ => by kernel_rfl
theorem e282 : SrcT s282 false := fun τ => by kernel_rfl
theorem e283 : SrcT s283 false := fun τ => by kernel_rfl
theorem e284 : SrcT s284 false := fun τ => by kernel_rfl
theorem e285 : SrcT s285 false := fun τ => by kernel_rfl
theorem e286 : SrcT s286 false := fun τ => by kernel_rfl
theorem e287 : SrcT s287 false := fun τ => by kernel_rfl
end Go.Proofs.YtimopcpbakanmaaGreatDoor
