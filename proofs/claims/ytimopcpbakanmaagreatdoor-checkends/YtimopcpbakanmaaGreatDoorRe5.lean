import Derived.Test.YtimopcpbakanmaaGreatDoorP2e
set_option linter.all false
namespace Go.Proofs.YtimopcpbakanmaaGreatDoor
open Go Ex
theorem e60 : SrcT s60 false := fun τ => by kernel_rfl
theorem e61 : SrcT s61 false := fun τ => by kernel_rfl
theorem e62 : SrcT s62 false := fun τ => by kernel_rfl
theorem e63 : SrcT s63 false := fun τ => by kernel_rfl
theorem e64 : SrcT s64 true := fun τ => by kernel_rfl
theorem e65 : SrcT s65 true := fun τ => by kernel_rfl
theorem e66 : SrcT s66 true := fun τ => by kernel_rfl
theorem e67 : SrcT s67 false := fun τ => by kernel_rfl
theorem e68 : SrcT s68 true := fun τ => by kernel_rfl
theorem e69 : SrcT s69 true := fun τ => by kernel_rfl
theorem e70 : SrcT s70 true := fun τ => by kernel_rfl
theorem e71 : SrcT s71 false := fun τ => by kernel_rfl
end Go.Proofs.YtimopcpbakanmaaGreatDoor
