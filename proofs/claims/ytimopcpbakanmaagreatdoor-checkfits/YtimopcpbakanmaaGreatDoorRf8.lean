import Derived.Test.YtimopcpbakanmaaGreatDoorP2f
set_option linter.all false
namespace Go.Proofs.YtimopcpbakanmaaGreatDoor
open Go Ex
theorem e96 : SrcT s96 false := fun τ => by kernel_rfl
theorem e97 : SrcT s97 false := fun τ => by kernel_rfl
theorem e98 : SrcT s98 false := fun τ => by kernel_rfl
theorem e99 : SrcT s99 true := fun τ => by kernel_rfl
theorem e100 : SrcT s100 true := fun τ => by kernel_rfl
theorem e101 : SrcT s101 true := fun τ => by kernel_rfl
theorem e102 : SrcT s102 true := fun τ => by kernel_rfl
theorem e103 : SrcT s103 true := fun τ => by kernel_rfl
theorem e104 : SrcT s104 true := fun τ => by kernel_rfl
theorem e105 : SrcT s105 false := fun τ => by kernel_rfl
theorem e106 : SrcT s106 false := fun τ => by kernel_rfl
theorem e107 : SrcT s107 false := fun τ => by kernel_rfl
end Go.Proofs.YtimopcpbakanmaaGreatDoor
