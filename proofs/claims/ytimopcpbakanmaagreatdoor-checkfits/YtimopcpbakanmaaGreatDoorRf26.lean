import Derived.Test.YtimopcpbakanmaaGreatDoorP2f
set_option linter.all false
namespace Go.Proofs.YtimopcpbakanmaaGreatDoor
open Go Ex
theorem e312 : SrcT s312 false := fun τ => by kernel_rfl
theorem e313 : SrcT s313 false := fun τ => by kernel_rfl
theorem e314 : SrcT s314 false := fun τ => by kernel_rfl
theorem e315 : SrcT s315 false := fun τ => by kernel_rfl
theorem e316 : SrcT s316 false := fun τ => by kernel_rfl
theorem e317 : SrcT s317 false := fun τ => by kernel_rfl
theorem e318 : SrcT s318 false := fun τ => by kernel_rfl
theorem e319 : SrcT s319 false := fun τ => by kernel_rfl
theorem e320 : SrcT s320 true := fun τ => by kernel_rfl
theorem e321 : SrcT s321 true := fun τ => by kernel_rfl
theorem e322 : SrcT s322 true := fun τ => by kernel_rfl
theorem e323 : SrcT s323 true := fun τ => by kernel_rfl
end Go.Proofs.YtimopcpbakanmaaGreatDoor
