import Derived.Test.YtimopcpbakanmaaGreatDoorP2f
set_option linter.all false
namespace Go.Proofs.YtimopcpbakanmaaGreatDoor
open Go Ex
theorem e144 : SrcT s144 false := fun τ => by kernel_rfl
theorem e145 : SrcT s145 false := fun τ => by kernel_rfl
theorem e146 : SrcT s146 false := fun τ => by kernel_rfl
theorem e147 : SrcT s147 false := fun τ => by kernel_rfl
theorem e148 : SrcT s148 true := fun τ => by kernel_rfl
theorem e149 : SrcT s149 true := fun τ => by kernel_rfl
theorem e150 : SrcT s150 true := fun τ => by kernel_rfl
theorem e151 : SrcT s151 true := fun τ => by kernel_rfl
theorem e152 : SrcT s152 true := fun τ => by kernel_rfl
theorem e153 : SrcT s153 true := fun τ => by kernel_rfl
theorem e154 : SrcT s154 false := fun τ => by kernel_rfl
theorem e155 : SrcT s155 false := fun τ => by kernel_rfl
end Go.Proofs.YtimopcpbakanmaaGreatDoor
