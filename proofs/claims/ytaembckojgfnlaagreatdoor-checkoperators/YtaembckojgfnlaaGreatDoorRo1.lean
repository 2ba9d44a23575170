import Derived.Test.YtaembckojgfnlaaGreatDoorP2o
set_option linter.all false
namespace Go.Proofs.YtaembckojgfnlaaGreatDoor
open Go Ex
theorem e30 : SrcT s30 true := fun τ => by kernel_rfl
theorem e31 : SrcT s31 true := fun τ => by kernel_rfl
theorem e32 : SrcT s32 false := fun τ => by kernel_rfl
theorem e33 : SrcT s33 false := fun τ => by kernel_rfl
theorem e34 : SrcT s34 false := fun τ => by kernel_rfl
theorem e35 : SrcT s35 false := fun τ => by kernel_rfl
theorem e36 : SrcT s36 false := fun τ => by kernel_rfl
theorem e37 : SrcT s37 false := fun τ => by kernel_rfl
theorem e38 : SrcT s38 false := fun τ => by kernel_rfl
theorem e39 : SrcT s39 false := fun τ => by kernel_rfl
theorem e40 : SrcT s40 false := fun τ => by kernel_rfl
theorem e41 : SrcT s41 false := fun τ => by kernel_rfl
theorem e42 : SrcT s42 false := fun τ => by kernel_rfl
theorem e43 : SrcT s43 false := fun τ => by kernel_rfl
theorem e44 : SrcT s44 false := fun τ => by kernel_rfl
theorem e45 : SrcT s45 false := fun τ => by kernel_rfl
theorem e46 : SrcT s46 false := fun τ => by kernel_rfl
theorem e47 : SrcT s47 false := fun τ => by kernel_rfl
theorem e48 : SrcT s48 false := fun τ => by kernel_rfl
theorem e49 : SrcT s49 false := fun τ => by kernel_rfl
theorem e50 : SrcT s50 false := fun τ => by kernel_rfl
theorem e51 : SrcT s51 false := fun τ => by kernel_rfl
theorem e52 : SrcT s52 false := fun τ => by kernel_rfl
theorem e53 : SrcT s53 false := fun τ => by kernel_rfl
theorem e54 : SrcT s54 false := fun τ => by kernel_rfl
theorem e55 : SrcT s55 false := fun τ => by kernel_rfl
theorem e56 : SrcT s56 false := fun τ => by kernel_rfl
theorem e57 : SrcT s57 false := fun τ => by kernel_rfl
theorem e58 : SrcT s58 false := fun τ => by kernel_rfl
theorem e59 : SrcT s59 false := fun τ => by kernel_rfl
end Go.Proofs.YtaembckojgfnlaaGreatDoor
