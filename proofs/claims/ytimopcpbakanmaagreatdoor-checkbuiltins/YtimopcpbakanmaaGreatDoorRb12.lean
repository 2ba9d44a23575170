import Derived.Test.YtimopcpbakanmaaGreatDoorP2b
set_option linter.all false
namespace Go.Proofs.YtimopcpbakanmaaGreatDoor
open Go Ex
theorem e120 : SrcT s120 false := fun τ => by kernel_rfl
theorem e121 : SrcT s121 false := fun τ => by kernel_rfl
theorem e122 : SrcT s122 true := fun τ => by kernel_rfl
theorem e123 : SrcT s123 true := fun τ => by kernel_rfl
theorem e124 : SrcT s124 false := fun τ => by kernel_rfl
theorem e125 : SrcT s125 false := fun τ => by kernel_rfl
theorem e126 : SrcT s126 false := fun τ => by kernel_rfl
theorem e127 : SrcT s127 false := fun τ => by kernel_rfl
theorem eA : AncT := fun τ => by kernel_rfl
end Go.Proofs.YtimopcpbakanmaaGreatDoor
