import Derived.Test.YtimopcpbakanmaaGreatDoorP2f
set_option linter.all false
namespace Go.Proofs.YtimopcpbakanmaaGreatDoor
open Go Ex
theorem e156 : SrcT s156 false := fun τ => by kernel_rfl
theorem e157 : SrcT s157 false := fun τ => by kernel_rfl
theorem e158 : SrcT s158 false := fun τ => by kernel_rfl
theorem e159 : SrcT s159 false := fun τ => by kernel_rfl
theorem e160 : SrcT s160 false := fun τ => by kernel_rfl
theorem e161 : SrcT s161 false := fun τ => by kernel_rfl
theorem e162 : SrcT s162 false := fun τ => by kernel_rfl
theorem e163 : SrcT s163 false := fun τ => by kernel_rfl
theorem e164 : SrcT s164 false := fun τ => by kernel_rfl
theorem e165 : SrcT s165 false := fun τ => by kernel_rfl
theorem e166 : SrcT s166 false := fun τ => by kernel_rfl
theorem e167 : SrcT s167 false := fun τ => by kernel_rfl
end Go.Proofs.YtimopcpbakanmaaGreatDoor
