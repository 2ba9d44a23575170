import Derived.Test.YtimopcpbakanmaaGreatDoorP2f
set_option linter.all false
namespace Go.Proofs.YtimopcpbakanmaaGreatDoor
open Go Ex
theorem e324 : SrcT s324 true := fun τ => by kernel_rfl
theorem e325 : SrcT s325 true := fun τ => by kernel_rfl
theorem e326 : SrcT s326 true := fun τ => by kernel_rfl
theorem e327 : SrcT s327 true := fun τ => by kernel_rfl
theorem e328 : SrcT s328 true := fun τ => by kernel_rfl
theorem e329 : SrcT s329 true := fun τ => by kernel_rfl
theorem e330 : SrcT s330 true := fun τ => by kernel_rfl
theorem e331 : SrcT s331 true := fun τ => by kernel_rfl
theorem e332 : SrcT s332 true := fun τ => by kernel_rfl
theorem e333 : SrcT s333 true := fun τ => by kernel_rfl
theorem e334 : SrcT s334 true := fun τ => by kernel_rfl
theorem e335 : SrcT s335 true := fun τ => by kernel_rfl
end Go.Proofs.YtimopcpbakanmaaGreatDoor
