import Derived.Test.YtimopcpbakanmaaGreatDoorP2b
set_option linter.all false
namespace Go.Proofs.YtimopcpbakanmaaGreatDoor
open Go Ex
theorem e90 : SrcT s90 false := fun τ => by kernel_rfl
theorem e91 : SrcT s91 false := fun τ => by kernel_rfl
theorem e92 : SrcT s92 false := fun τ => by kernel_rfl
theorem e93 : SrcT s93 false := fun τ => by kernel_rfl
theorem e94 : SrcT s94 false := fun τ => by kernel_rfl
theorem e95 : SrcT s95 false := fun τ => by kernel_rfl
theorem e96 : SrcT s96 true := fun τ => by kernel_rfl
theorem e97 : SrcT s97 false := fun τ => by kernel_rfl
theorem e98 : SrcT s98 false := fun τ => by kernel_rfl
theorem e99 : SrcT s99 false := fun τ => by kernel_rfl
end Go.Proofs.YtimopcpbakanmaaGreatDoor
