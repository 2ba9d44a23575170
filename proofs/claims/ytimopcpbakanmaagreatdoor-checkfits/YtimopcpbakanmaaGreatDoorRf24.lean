import Derived.Test.YtimopcpbakanmaaGreatDoorP2f
set_option linter.all false
namespace Go.Proofs.YtimopcpbakanmaaGreatDoor
open Go Ex
theorem e288 : SrcT s288 false := fun τ => by kernel_rfl
theorem e289 : SrcT s289 false := fun τ => by kernel_rfl
theorem e290 : SrcT s290 false := fun τ => by kernel_rfl
theorem e291 : SrcT s291 false := fun τ => by kernel_rfl
theorem e292 : SrcT s292 false := fun τ => by kernel_rfl
theorem e293 : SrcT s293 false := fun τ => by kernel_rfl
theorem e294 : SrcT s294 false := fun τ => by kernel_rfl
theorem e295 : SrcT s295 true := fun τ => by kernel_rfl
theorem e296 : SrcT s296 true := fun τ => by kernel_rfl
theorem e297 : SrcT s297 true := fun τ => by kernel_rfl
theorem e298 : SrcT s298 true := fun τ => by kernel_rfl
theorem e299 : SrcT s299 true := fun τ => by kernel_rfl
end Go.Proofs.YtimopcpbakanmaaGreatDoor
