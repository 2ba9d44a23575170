import Derived.Test.YtimopcpbakanmaaGreatDoorP2f
set_option linter.all false
namespace Go.Proofs.YtimopcpbakanmaaGreatDoor
open Go Ex
theorem e264 : SrcT s264 false := fun τ => by kernel_rfl
theorem e265 : SrcT s265 false := fun τ => by kernel_rfl
theorem e266 : SrcT s266 false := fun τ => by kernel_rfl
theorem e267 : SrcT s267 false := fun τ => by kernel_rfl
theorem e268 : SrcT s268 false := fun τ => by kernel_rfl
theorem e269 : SrcT s269 false := fun τ => by kernel_rfl
theorem e270 : SrcT s270 false := fun τ => by kernel_rfl
theorem e271 : SrcT s271 false := fun τ => by kernel_rfl
theorem e272 : SrcT s272 false := fun τ => by kernel_rfl
theorem e273 : SrcT s273 false := fun τ => by kernel_rfl
theorem e274 : SrcT s274 false := fun τ => by kernel_rfl
theorem e275 : SrcT s275 false := fun τ => by kernel_rfl
end Go.Proofs.YtimopcpbakanmaaGreatDoor
