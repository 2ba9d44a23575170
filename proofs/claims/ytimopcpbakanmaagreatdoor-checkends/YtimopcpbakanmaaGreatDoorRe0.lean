import Derived.Test.YtimopcpbakanmaaGreatDoorP2e
set_option linter.all false
namespace Go.Proofs.YtimopcpbakanmaaGreatDoor
open Go Ex
theorem e0 : SrcT s0 true := fun τ => by kernel_rfl
theorem e1 : SrcT s1 true := fun τ => by kernel_rfl
theorem e2 : SrcT s2 true := fun τ => by kernel_rfl
theorem e3 : SrcT s3 false := fun τ => by kernel_rfl
theorem e4 : SrcT s4 true := fun τ => by kernel_rfl
theorem e5 : SrcT s5 true := fun τ => by kernel_rfl
theorem e6 : SrcT s6 true := fun τ => by kernel_rfl
theorem e7 : SrcT s7 false := fun τ => by kernel_rfl
theorem e8 : SrcT s8 true := fun τ => by kernel_rfl
theorem e9 : SrcT s9 true := fun τ => by kernel_rfl
theorem e10 : SrcT s10 true := fun τ => by kernel_rfl
theorem e11 : SrcT s11 false := fun τ => by kernel_rfl
end Go.Proofs.YtimopcpbakanmaaGreatDoor
