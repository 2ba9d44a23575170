import Derived.Test.YtimopcpbakanmaaGreatDoorP2f
set_option linter.all false
namespace Go.Proofs.YtimopcpbakanmaaGreatDoor
open Go Ex
theorem e108 : SrcT s108 false := fun τ => by kernel_rfl
theorem e109 : SrcT s109 false := fun τ => by kernel_rfl
theorem e110 : SrcT s110 false := fun τ => by kernel_rfl
theorem e111 : SrcT s111 false := fun τ => by kernel_rfl
theorem e112 : SrcT s112 false := fun τ => by kernel_rfl
theorem e113 : SrcT s113 false := fun τ => by kernel_rfl
theorem e114 : SrcT s114 false := fun τ => by kernel_rfl
theorem e115 : SrcT s115 false := fun τ => by kernel_rfl
theorem e116 : SrcT s116 false := fun τ => by kernel_rfl
theorem e117 : SrcT s117 false := fun τ => by kernel_rfl
theorem e118 : SrcT s118 false := fun τ => by kernel_rfl
theorem e119 : SrcT s119 false := fun τ => by kernel_rfl
end Go.Proofs.YtimopcpbakanmaaGreatDoor
