import Derived.Test.YtimopcpbakanmaaGreatDoorP2f
set_option linter.all false
namespace Go.Proofs.YtimopcpbakanmaaGreatDoor
open Go Ex
theorem e252 : SrcT s252 false := fun τ => by kernel_rfl
theorem e253 : SrcT s253 false := fun τ => by kernel_rfl
theorem e254 : SrcT s254 false := fun τ => by kernel_rfl
theorem e255 : SrcT s255 false := fun τ => by kernel_rfl
theorem e256 : SrcT s256 false := fun τ => by kernel_rfl
theorem e257 : SrcT s257 false := fun τ => by kernel_rfl
theorem e258 : SrcT s258 false := fun τ => by kernel_rfl
theorem e259 : SrcT s259 true := fun τ => by kernel_rfl
theorem e260 : SrcT s260 false := fun τ => by kernel_rfl
theorem e261 : SrcT s261 false := fun τ => by kernel_rfl
theorem e262 : SrcT s262 false := fun τ => by kernel_rfl
theorem e263 : SrcT s263 false := fun τ => by kernel_rfl
end Go.Proofs.YtimopcpbakanmaaGreatDoor
