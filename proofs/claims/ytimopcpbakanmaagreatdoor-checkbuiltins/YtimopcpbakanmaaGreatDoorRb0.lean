import Derived.Test.YtimopcpbakanmaaGreatDoorP2b
set_option linter.all false
namespace Go.Proofs.YtimopcpbakanmaaGreatDoor
open Go Ex
theorem e0 : SrcT s0 false := fun τ => by kernel_rfl
theorem e1 : SrcT s1 false := fun τ => by kernel_rfl
theorem e2 : SrcT s2 false := fun τ => by kernel_rfl
theorem e3 : SrcT s3 false := fun τ => by kernel_rfl
theorem e4 : SrcT s4 true := fun τ => by kernel_rfl
theorem e5 : SrcT s5 false := fun τ => by kernel_rfl
theorem e6 : SrcT s6 false := fun τ => by kernel_rfl
theorem e7 : SrcT s7 false := fun τ => by kernel_rfl
theorem e8 : SrcT s8 true := fun τ => by kernel_rfl
theorem e9 : SrcT s9 false := fun τ => by kernel_rfl
end Go.Proofs.YtimopcpbakanmaaGreatDoor
