import Derived.Test.YtimopcpbakanmaaGreatDoorP2e
set_option linter.all false
namespace Go.Proofs.YtimopcpbakanmaaGreatDoor
open Go Ex
theorem e84 : SrcT s84 true := fun τ => by kernel_rfl
theorem e85 : SrcT s85 true := fun τ => by kernel_rfl
theorem e86 : SrcT s86 false := fun τ => by kernel_rfl
theorem e87 : SrcT s87 false := fun τ => by kernel_rfl
theorem e88 : SrcT s88 false := fun τ => by kernel_rfl
theorem e89 : SrcT s89 false := fun τ => by kernel_rfl
theorem e90 : SrcT s90 false := fun τ => by kernel_rfl
theorem e91 : SrcT s91 false := fun τ => by kernel_rfl
theorem e92 : SrcT s92 false := fun τ => by kernel_rfl
theorem e93 : SrcT s93 false := fun τ => by kernel_rfl
theorem e94 : SrcT s94 false := fun τ => by kernel_rfl
theorem eA : AncT := fun τ => by kernel_rfl
end Go.Proofs.YtimopcpbakanmaaGreatDoor
