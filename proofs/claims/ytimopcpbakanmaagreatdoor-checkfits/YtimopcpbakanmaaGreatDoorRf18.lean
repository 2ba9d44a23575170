import Derived.Test.YtimopcpbakanmaaGreatDoorP2f
set_option linter.all false
namespace Go.Proofs.YtimopcpbakanmaaGreatDoor
open Go Ex
theorem e216 : SrcT s216 true := fun τ => by kernel_rfl
theorem e217 : SrcT s217 false := fun τ => by kernel_rfl
theorem e218 : SrcT s218 false := fun τ => by kernel_rfl
theorem e219 : SrcT s219 false := fun τ => by kernel_rfl
theorem e220 : SrcT s220 false := fun τ => by kernel_rfl
theorem e221 : SrcT s221 false := fun τ => by kernel_rfl
theorem e222 : SrcT s222 false := fun τ => by kernel_rfl
theorem e223 : SrcT s223 false := fun τ => by kernel_rfl
theorem e224 : SrcT s224 false := fun τ => by kernel_rfl
theorem e225 : SrcT s225 false := fun τ => by kernel_rfl
theorem e226 : SrcT s226 false := fun τ => by kernel_rfl
theorem e227 : SrcT s227 false := fun τ => by kernel_rfl
end Go.Proofs.YtimopcpbakanmaaGreatDoor
