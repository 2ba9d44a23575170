import Derived.Test.YtimopcpbakanmaaGreatDoorP2f
set_option linter.all false
namespace Go.Proofs.YtimopcpbakanmaaGreatDoor
open Go Ex
theorem e180 : SrcT s180 false := fun τ => by kernel_rfl
theorem e181 : SrcT s181 false := fun τ => by kernel_rfl
theorem e182 : SrcT s182 false := fun τ => by kernel_rfl
theorem e183 : SrcT s183 false := fun τ => by kernel_rfl
theorem e184 : SrcT s184 false := fun τ => by kernel_rfl
theorem e185 : SrcT s185 false := fun τ => by kernel_rfl
theorem e186 : SrcT s186 false := fun τ => by kernel_rfl
theorem e187 : SrcT s187 false := fun τ => by kernel_rfl
theorem e188 : SrcT s188 false := fun τ => by kernel_rfl
theorem e189 : SrcT s189 false := fun τ => by kernel_rfl
theorem e190 : SrcT s190 false := fun τ => by kernel_rfl
theorem e191 : SrcT s191 false := fun τ => by kernel_rfl
end Go.Proofs.YtimopcpbakanmaaGreatDoor
