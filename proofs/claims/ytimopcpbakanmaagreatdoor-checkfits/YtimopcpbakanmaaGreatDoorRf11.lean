import Derived.Test.YtimopcpbakanmaaGreatDoorP2f
set_option linter.all false
namespace Go.Proofs.YtimopcpbakanmaaGreatDoor
open Go Ex
theorem e132 : SrcT s132 false := fun τ => by kernel_rfl
theorem e133 : SrcT s133 false := fun τ => by kernel_rfl
theorem e134 : SrcT s134 false := fun τ => by kernel_rfl
theorem e135 : SrcT s135 false := fun τ => by kernel_rfl
theorem e136 : SrcT s136 false := fun τ => by kernel_rfl
theorem e137 : SrcT s137 false := fun τ => by kernel_rfl
theorem e138 : SrcT s138 false := fun τ => by kernel_rfl
theorem e139 : SrcT s139 false := fun τ => by kernel_rfl
theorem e140 : SrcT s140 false := fun τ => by kernel_rfl
theorem e141 : SrcT s141 false := fun τ => by kernel_rfl
theorem e142 : SrcT s142 false := fun τ => by kernel_rfl
theorem e143 : SrcT s143 false := fun τ => by kernel_rfl
end Go.Proofs.YtimopcpbakanmaaGreatDoor
