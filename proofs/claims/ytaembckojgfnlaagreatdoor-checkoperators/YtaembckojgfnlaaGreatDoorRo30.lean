import Derived.Test.YtaembckojgfnlaaGreatDoorP2o
set_option linter.all false
namespace Go.Proofs.YtaembckojgfnlaaGreatDoor
open Go Ex
theorem e900 : SrcT s900 false := fun τ => by kernel_rfl
theorem e901 : SrcT s901 false := fun τ => by kernel_rfl
theorem e902 : SrcT s902 false := fun τ => by kernel_rfl
theorem e903 : SrcT s903 false := fun τ => by kernel_rfl
theorem e904 : SrcT s904 false := fun τ => by kernel_rfl
theorem e905 : SrcT s905 false := fun τ => by kernel_rfl
theorem e906 : SrcT s906 false := fun τ => by kernel_rfl
theorem e907 : SrcT s907 false := fun τ => by kernel_rfl
theorem e908 : SrcT s908 false := fun τ => by kernel_rfl
theorem e909 : SrcT s909 false := fun τ => by kernel_rfl
theorem e910 : SrcT s910 false := fun τ => by kernel_rfl
theorem e911 : SrcT s911 false := fun τ => by kernel_rfl
theorem e912 : SrcT s912 false := fun τ => by kernel_rfl
theorem e913 : SrcT s913 false := fun τ => by kernel_rfl
theorem e914 : SrcT s914 false := fun τ => by kernel_rfl
theorem e915 : SrcT s915 false := fun τ => by kernel_rfl
theorem eA : AncT := fun τ => by kernel_rfl
end Go.Proofs.YtaembckojgfnlaaGreatDoor
