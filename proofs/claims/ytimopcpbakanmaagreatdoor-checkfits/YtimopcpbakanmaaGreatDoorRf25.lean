import Derived.Test.YtimopcpbakanmaaGreatDoorP2f
set_option linter.all false
namespace Go.Proofs.YtimopcpbakanmaaGreatDoor
open Go Ex
theorem e300 : SrcT s300 true := fun τ => by kernel_rfl
theorem e301 : SrcT s301 false := fun τ => by kernel_rfl
theorem e302 : SrcT s302 false := fun τ => by kernel_rfl
theorem e303 : SrcT s303 false := fun τ => by kernel_rfl
theorem e304 : SrcT s304 false := fun τ => by kernel_rfl
theorem e305 : SrcT s305 false := fun τ => by kernel_rfl
theorem e306 : SrcT s306 false := fun τ => by kernel_rfl
theorem e307 : SrcT s307 false := fun τ => by kernel_rfl
theorem e308 : SrcT s308 false := fun τ => by kernel_rfl
theorem e309 : SrcT s309 false := fun τ => by kernel_rfl
theorem e310 : SrcT s310 false := fun τ => by kernel_rfl
theorem e311 : SrcT s311 false := fun τ => by kernel_rfl
end Go.Proofs.YtimopcpbakanmaaGreatDoor
