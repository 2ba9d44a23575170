import Derived.Test.YtimopcpbakanmaaGreatDoorP2f
set_option linter.all false
namespace Go.Proofs.YtimopcpbakanmaaGreatDoor
open Go Ex
theorem e336 : SrcT s336 true := fun τ => by kernel_rfl
theorem e337 : SrcT s337 true := fun τ => by kernel_rfl
theorem e338 : SrcT s338 true := fun τ => by kernel_rfl
theorem e339 : SrcT s339 true := fun τ => by kernel_rfl
theorem e340 : SrcT s340 true := fun τ => by kernel_rfl
theorem e341 : SrcT s341 true := fun τ => by kernel_rfl
theorem e342 : SrcT s342 true := fun τ => by kernel_rfl
theorem e343 : SrcT s343 true := fun τ => by kernel_rfl
theorem eA : AncT := fun τ => by kernel_rfl
end Go.Proofs.YtimopcpbakanmaaGreatDoor
