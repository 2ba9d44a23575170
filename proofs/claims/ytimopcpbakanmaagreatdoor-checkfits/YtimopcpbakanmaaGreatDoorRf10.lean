import Derived.Test.YtimopcpbakanmaaGreatDoorP2f
set_option linter.all false
namespace Go.Proofs.YtimopcpbakanmaaGreatDoor
open Go Ex
theorem e120 : SrcT s120 false := fun τ => by kernel_rfl
theorem e121 : SrcT s121 false := fun τ => by kernel_rfl
theorem e122 : SrcT s122 false := fun τ => by kernel_rfl
theorem e123 : SrcT s123 false := fun τ => by kernel_rfl
theorem e124 : SrcT s124 false := fun τ => by kernel_rfl
theorem e125 : SrcT s125 false := fun τ => by kernel_rfl
theorem e126 : SrcT s126 false := fun τ => by kernel_rfl
theorem e127 : SrcT s127 false := fun τ => by kernel_rfl
theorem e128 : SrcT s128 false := fun τ => by kernel_rfl
theorem e129 : SrcT s129 false := fun τ => by kernel_rfl
theorem e130 : SrcT s130 true := fun τ => by kernel_rfl
theorem e131 : SrcT s131 false := fun τ => by kernel_rfl
end Go.Proofs.YtimopcpbakanmaaGreatDoor
