import Derived.Test.YtimopcpbakanmaaGreatDoorP2b
set_option linter.all false
namespace Go.Proofs.YtimopcpbakanmaaGreatDoor
open Go Ex
theorem e100 : SrcT s100 false := fun τ => by kernel_rfl
theorem e101 : SrcT s101 false := fun τ => by kernel_rfl
theorem e102 : SrcT s102 false := fun τ => by kernel_rfl
theorem e103 : SrcT s103 false := fun τ => by kernel_rfl
theorem e104 : SrcT s104 true := fun τ => by kernel_rfl
theorem e105 : SrcT s105 false := fun τ => by kernel_rfl
theorem e106 : SrcT s106 false := fun τ => by kernel_rfl
theorem e107 : SrcT s107 false := fun τ => by kernel_rfl
theorem e108 : SrcT s108 false := fun τ => by kernel_rfl
theorem e109 : SrcT s109 false := fun τ => by kernel_rfl
end Go.Proofs.YtimopcpbakanmaaGreatDoor
