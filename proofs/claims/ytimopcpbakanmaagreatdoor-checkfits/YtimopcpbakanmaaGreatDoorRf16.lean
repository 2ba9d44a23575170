import Derived.Test.YtimopcpbakanmaaGreatDoorP2f
set_option linter.all false
namespace Go.Proofs.YtimopcpbakanmaaGreatDoor
open Go Ex
theorem e192 : SrcT s192 false := fun τ => by kernel_rfl
theorem e193 : SrcT s193 false := fun τ => by kernel_rfl
theorem e194 : SrcT s194 false := fun τ => by kernel_rfl
theorem e195 : SrcT s195 false := fun τ => by kernel_rfl
theorem e196 : SrcT s196 false := fun τ => by kernel_rfl
theorem e197 : SrcT s197 true := fun τ => by kernel_rfl
theorem e198 : SrcT s198 true := fun τ => by kernel_rfl
theorem e199 : SrcT s199 true := fun τ => by kernel_rfl
theorem e200 : SrcT s200 true := fun τ => by kernel_rfl
theorem e201 : SrcT s201 true := fun τ => by kernel_rfl
theorem e202 : SrcT s202 true := fun τ => by kernel_rfl
theorem e203 : SrcT s203 false := fun τ => by kernel_rfl
end Go.Proofs.YtimopcpbakanmaaGreatDoor
