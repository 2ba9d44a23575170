import Derived.Test.YtaembckojgfnlaaGreatDoorP2o
set_option linter.all false
namespace Go.Proofs.YtaembckojgfnlaaGreatDoor
open Go Ex
theorem e0 : SrcT s0 true := fun τ => by kernel_rfl
theorem e1 : SrcT s1 true := fun τ => by kernel_rfl
theorem e2 : SrcT s2 false := fun τ => by kernel_rfl
theorem e3 : SrcT s3 true := fun τ => by kernel_rfl
theorem e4 : SrcT s4 true := fun τ => by kernel_rfl
theorem e5 : SrcT s5 false := fun τ => by kernel_rfl
theorem e6 : SrcT s6 true := fun τ => by kernel_rfl
theorem e7 : SrcT s7 true := fun τ => by kernel_rfl
theorem e8 : SrcT s8 false := fun τ => by kernel_rfl
theorem e9 : SrcT s9 true := fun τ => by kernel_rfl
theorem e10 : SrcT s10 true := fun τ => by kernel_rfl
theorem e11 : SrcT s11 false := fun τ => by kernel_rfl
theorem e12 : SrcT s12 true := fun τ => by kernel_rfl
theorem e13 : SrcT s13 true := fun τ => by kernel_rfl
theorem e14 : SrcT s14 false := fun τ => by kernel_rfl
theorem e15 : SrcT s15 true := fun τ => by kernel_rfl
theorem e16 : SrcT s16 true := fun τ => by kernel_rfl
theorem e17 : SrcT s17 false := fun τ => by kernel_rfl
theorem e18 : SrcT s18 true := fun τ => by kernel_rfl
theorem e19 : SrcT s19 true := fun τ => by kernel_rfl
theorem e20 : SrcT s20 false := fun τ => by kernel_rfl
theorem e21 : SrcT s21 true := fun τ => by kernel_rfl
theorem e22 : SrcT s22 true := fun τ => by kernel_rfl
theorem e23 : SrcT s23 false := fun τ => by kernel_rfl
theorem e24 : SrcT s24 true := fun τ => by kernel_rfl
theorem e25 : SrcT s25 true := fun τ => by kernel_rfl
theorem e26 : SrcT s26 false := fun τ => by kernel_rfl
theorem e27 : SrcT s27 true := fun τ => by kernel_rfl
theorem e28 : SrcT s28 true := fun τ => by kernel_rfl
theorem e29 : SrcT s29 false := fun τ => by kernel_rfl
end Go.Proofs.YtaembckojgfnlaaGreatDoor
