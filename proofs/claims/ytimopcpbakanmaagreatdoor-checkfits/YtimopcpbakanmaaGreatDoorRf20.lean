import Derived.Test.YtimopcpbakanmaaGreatDoorP2f
set_option linter.all false
namespace Go.Proofs.YtimopcpbakanmaaGreatDoor
open Go Ex
theorem e240 : SrcT s240 false := fun τ => by kernel_rfl
theorem e241 : SrcT s241 false := fun τ => by kernel_rfl
theorem e242 : SrcT s242 false := fun τ => by kernel_rfl
theorem e243 : SrcT s243 false := fun τ => by kernel_rfl
theorem e244 : SrcT s244 false := fun τ => by kernel_rfl
theorem e245 : SrcT s245 false := fun τ => by kernel_rfl
theorem e246 : SrcT s246 true := fun τ => by kernel_rfl
theorem e247 : SrcT s247 true := fun τ => by kernel_rfl
theorem e248 : SrcT s248 true := fun τ => by kernel_rfl
theorem e249 : SrcT s249 true := fun τ => by kernel_rfl
theorem e250 : SrcT s250 true := fun τ => by kernel_rfl
theorem e251 : SrcT s251 true := fun τ => by kernel_rfl
end Go.Proofs.YtimopcpbakanmaaGreatDoor
