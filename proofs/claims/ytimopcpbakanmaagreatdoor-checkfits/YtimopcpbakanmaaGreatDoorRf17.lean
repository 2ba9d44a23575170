import Derived.Test.YtimopcpbakanmaaGreatDoorP2f
set_option linter.all false
namespace Go.Proofs.YtimopcpbakanmaaGreatDoor
open Go Ex
theorem e204 : SrcT s204 false := fun τ => by kernel_rfl
theorem e205 : SrcT s205 false := fun τ => by kernel_rfl
theorem e206 : SrcT s206 false := fun τ => by kernel_rfl
theorem e207 : SrcT s207 false := fun τ => by kernel_rfl
theorem e208 : SrcT s208 false := fun τ => by kernel_rfl
theorem e209 : SrcT s209 false := fun τ => by kernel_rfl
theorem e210 : SrcT s210 false := fun τ => by kernel_rfl
theorem e211 : SrcT s211 false := fun τ => by kernel_rfl
theorem e212 : SrcT s212 false := fun τ => by kernel_rfl
theorem e213 : SrcT s213 false := fun τ => by kernel_rfl
theorem e214 : SrcT s214 false := fun τ => by kernel_rfl
theorem e215 : SrcT s215 false := fun τ => by kernel_rfl
end Go.Proofs.YtimopcpbakanmaaGreatDoor
